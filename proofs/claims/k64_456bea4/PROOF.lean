import PyProof.Rows.All
import Wide.All
import OpenK.AllK
import Wide.FinOn
import Lean
import PyProof.EqAt
import PyProof.EqKinds
import PyProof.TupleCall
import PySem.Challenge.RW_gainstream_k64_turns_refused
set_option Elab.async false
set_option linter.all false
set_option maxRecDepth 100000
namespace L2
open PySem PySem.Spec PyProof.Rows
abbrev Key:=Sum Int Str
def keyIs:Key→Value→Bool
 | .inl k,v=>Value.isInt k v
 | .inr x,v=>Value.isStrOf x v
def keyH (w:World):Key→Int
 | .inl k=>hashInt k
 | .inr x=>hashStr w x
theorem keyIs_shape:∀ {k:Key} {v:Value},keyIs k v=true→(∃ i t,k=Sum.inl i∧v=Value.int i t)∨(∃ x t,k=Sum.inr x∧v=Value.str x t)
 | .inl i,v,h=>by
  obtain ⟨t,e⟩:=Value.isInt_shape (k:=i) (v:=v) h
  exact .inl ⟨i,t,rfl,e⟩
 | .inr x,v,h=>by
  obtain ⟨t,e⟩:=Value.isStrOf_shape (x:=x) (v:=v) h
  exact .inr ⟨x,t,rfl,e⟩
theorem keyIs_int (i:Int) (t:Tok):keyIs (.inl i) (.int i t)=true:=by simp [keyIs,Value.isInt]
theorem keyIs_str (x:Str) (t:Tok):keyIs (.inr x) (.str x t)=true:=by simp [keyIs,Value.isStrOf]
theorem key_ll (a b:Int):decide ((Sum.inl a:Key)=Sum.inl b)=(a == b):=by
 by_cases e:a=b
 ·subst e;simp
 ·have h:¬ (Sum.inl a:Key)=Sum.inl b:=fun q=>e (Sum.inl.inj q)
  rw [decide_eq_false h]
  exact (beq_eq_false_iff_ne.mpr e).symm
theorem key_rr (a b:Str):decide ((Sum.inr a:Key)=Sum.inr b)=decide (a=b):=by
 by_cases e:a=b
 ·subst e;simp
 ·have h:¬ (Sum.inr a:Key)=Sum.inr b:=fun q=>e (Sum.inr.inj q)
  rw [decide_eq_false h,decide_eq_false e]
theorem key_lr (a:Int) (b:Str):decide ((Sum.inl a:Key)=Sum.inr b)=false:=decide_eq_false (fun q=>nomatch q)
theorem key_rl (a:Str) (b:Int):decide ((Sum.inr a:Key)=Sum.inl b)=false:=decide_eq_false (fun q=>nomatch q)
def mixKind (prog:Program) (w:World):PySem.KeyKind prog w Key where
 is:=keyIs
 hash:=keyH w
 inj:=fun v a b ha hb=>by
  rcases keyIs_shape ha with ⟨i,t,rfl,rfl⟩ | ⟨x,t,rfl,rfl⟩
  ·rcases keyIs_shape hb with ⟨j,u,rfl,e⟩ | ⟨y,u,rfl,e⟩
   ·injection e with e1 _;rw [e1]
   ·exact nomatch e
  ·rcases keyIs_shape hb with ⟨j,u,rfl,e⟩ | ⟨y,u,rfl,e⟩
   ·exact nomatch e
   ·injection e with e1 _;rw [e1]
 byValue:=fun k v h=>by
  rcases keyIs_shape h with ⟨i,t,rfl,rfl⟩ | ⟨x,t,rfl,rfl⟩ <;> rfl
 pyHash:=fun hv h=>by
  rcases keyIs_shape hv with ⟨i,t,rfl,rfl⟩ | ⟨x,t,rfl,rfl⟩
  ·exact wpAny_pyHash_int h
  ·exact wpAny_pyHash_str h
 eqBool:=fun hu hv h=>by
  rcases keyIs_shape hu with ⟨i,t,rfl,rfl⟩ | ⟨x,t,rfl,rfl⟩
  ·rcases keyIs_shape hv with ⟨j,u,rfl,rfl⟩ | ⟨y,u,rfl,rfl⟩
   ·rw [key_ll] at h;exact wpAny_eqBool_int h
   ·rw [key_lr] at h;exact SeqAt.EqAt.int_str i t y u _ _ _ _ h
  ·rcases keyIs_shape hv with ⟨j,u,rfl,rfl⟩ | ⟨y,u,rfl,rfl⟩
   ·rw [key_rl] at h;exact SeqAt.EqAt.str_int x t j u _ _ _ _ h
   ·rw [key_rr] at h;exact wpAny_eqBool_str h
 «strs»:=fun k x t v h=>by
  rcases keyIs_shape h with ⟨i,u,rfl,e⟩ | ⟨y,u,rfl,e⟩
  ·exact nomatch e
  ·injection e with e1 _
   subst e1
   cases v <;> rfl
theorem mixKind_int (prog:Program) (w:World) (i:Int) (t:Tok):(mixKind prog w).is (.inl i) (.int i t)=true:=keyIs_int i t
theorem mixKind_str (prog:Program) (w:World) (x:Str) (t:Tok):(mixKind prog w).is (.inr x) (.str x t)=true:=keyIs_str x t
end L2
namespace L2
open PySem PySem.Spec PyProof.Rows
inductive V where
 | non | bl (b:Bool) | int (i:Int) | str (x:Str) | byt (b:Array UInt8) | flt (b:UInt64) | ref (a:Addr) | ty (n:String)
 deriving DecidableEq
def RelV:V→Value→Prop
 | .non,u=>u=Value.none
 | .bl b,u=>u=Value.bool b
 | .int i,u=>∃ t,u=Value.int i t
 | .str x,u=>∃ t,u=Value.str x t
 | .byt b,u=>∃ t,u=Value.bytes b t
 | .flt b,u=>∃ t,u=Value.float b t
 | .ref a,u=>u=Value.ref a
 | .ty n,u=>u=Value.type n
abbrev Vals:List V→List Value→Prop:=Paired RelV
theorem Vals.length {xs:List V} {us:List Value} (r:Vals xs us):xs.length=us.length:=Paired.length r
theorem Vals.get:∀ {xs:List V} {us:List Value} {i:Nat} {x:V},Vals xs us→xs[i]?=some x→∃ u,us[i]?=some u∧RelV x u
 | _,_,_,_,.nil,e=>by simp at e
 | _,_,0,_,.cons r _,e=>by simp at e;subst e;exact ⟨_,rfl,r⟩
 | _,_,i+1,x,.cons _ t,e=>by
  obtain ⟨u,h1,h2⟩:=Vals.get (i:=i) (x:=x) t (by simpa using e)
  exact ⟨u,by simpa using h1,h2⟩
theorem Vals.set {x:V} {u:Value} (r:RelV x u):∀ {xs:List V} {us:List Value} (i:Nat),Vals xs us→Vals (xs.set i x) (us.set i u)
 | _,_,_,.nil=>.nil
 | _,_,0,.cons _ t=>.cons r t
 | _,_,i+1,.cons q t=>.cons q (Vals.set r i t)
theorem Vals.append:∀ {xs ys:List V} {us ws:List Value},Vals xs us→Vals ys ws→Vals (xs++ys) (us++ws)
 | _,_,_,_,.nil,s=>s
 | _,_,_,_,.cons r t,s=>.cons r (Vals.append t s)
def RelO:Option V→Option Value→Prop
 | some v,some u=>RelV v u
 | none,none=>True
 | _,_=>False
def KV {κ:Type}:List (κ × V)→List (κ × Value)→Prop:=Paired fun (p:κ × V) (q:κ × Value)=>p.1=q.1∧RelV p.2 q.2
def kV:Key→V
 | .inl i=>.int i
 | .inr x=>.str x
inductive HO where
 | lst (xs:List V)
 | tup (xs:List V)
 | dK (kvs:List (Key × V)) | dT (kvs:List (List Key × V))
 | set (S:Int→Bool) (n:Nat)
 | ins (C dx:Addr) (fs:List (Str × V))
 | own (x:Addr)
 | xd (fs:List (Str × V))
 | met (f x:Addr)
 | rng (lo hi:Int)
 | frz (o:Obj) (u:HO)
 | tbl (ps:Array Value)
 | ext (φ:Heap→Prop)
abbrev Hp:=Addr→Option HO
def upd (H:Hp) (a:Addr) (o:HO):Hp:=fun b=>if b=a then some o else H b
theorem upd_same {H:Hp} {a:Addr} {o:HO}:upd H a o a=some o:=by unfold upd;rw [if_pos rfl]
theorem upd_ne {H:Hp} {a b:Addr} {o:HO} (h:b≠a):upd H a o b=H b:=by unfold upd;rw [if_neg h]
theorem upd_upd {H:Hp} {a:Addr} {o u:HO}:upd (upd H a o) a u=upd H a u:=by
 funext b;unfold upd;split <;> rfl
theorem ne_of {H:Hp} {a b:Addr} {o u:HO} (h:H a=some o) (h':H b=some u) (d:o≠u):a≠b:=by
 intro e;subst e;rw [h] at h';exact d (Option.some.inj h')
theorem ne_of_none {H:Hp} {a b:Addr} {o:HO} (h:H a=some o) (h':H b=none):a≠b:=by
 intro e;subst e;rw [h] at h';cases h'
section
variable (P:Program) (w:World)
def ObjOk (H:Hp) (h:Heap) (a:Addr):HO→Prop
 | .lst xs=>xs.length≤sizeLine∧∃ (its:List Value) (n:Nat),Vals xs its∧h.get? a=some { cls:=.type "list",data:=.seq its.toArray n }
 | .tup xs=>xs.length≤sizeLine∧∃ its:List Value,Vals xs its∧IsTup h a its.toArray
 | .dK kvs=>kvs.length≤sizeLine∧(a == sysModules)=false∧∃ vs,KV kvs vs∧h.DictOf (mixKind P w) a vs
 | .dT kvs=>kvs.length≤sizeLine∧(a == sysModules)=false∧∃ xs:List (List Key × Addr × Value),
   Paired (fun (p:List Key × V) (q:List Key × Addr × Value)=>p.1=q.1∧H q.2.1=some (.tup (p.1.map kV))∧RelV p.2 q.2.2) kvs xs∧
   ∃ o es ep,h.get? a=some o∧o.ExactDict∧o.data=.dict es ep∧es.toList=xs.map (entryOfKey (tupleKind (mixKind P w)))∧(xs.map (·.1)).Nodup
 | .set S n=>h.SetOf (intKind P w) a S n
 | .ins C dx fs=>H dx=some (.own a)∧fs.length≤1000∧dx≠a∧h.get? a=some (PySem.W.instObj C dx)∧
   ∃ mA,h.Ns1 dx mA∧(∀ f,RelO (fs.lookup f) (mA f))∧PySem.Within mA (fs.map (·.1))
 | .own _=>∃ o,h.get? a=some o
 | .xd fs=>∃ mA,h.Ns1 a mA∧∀ f,RelO (fs.lookup f) (mA f)
 | .rng lo hi=>∃ t u v,h.get? a=some { cls:=.type "range",data:=.fields #[.int lo t,.int hi u,.int 1 v] }
 | .frz o u=>h.get? a=some o∧ObjOk H h a u
 | .tbl ps=>h.get? a=some { cls:=.none,data:=.fields ps }
 | .met f x=>h.get? a=some (PySem.W.methodObj (.ref f) (.ref x))
 | .ext φ=>φ h∧(∃ o,h.get? a=some o)∧∀ h1 h2:Heap,φ h1→(∀ o,h1.get? a=some o→h2.get? a=some o)→φ h2
def HOk (H:Hp) (h:Heap):Prop:=∀ a o,H a=some o→ObjOk P w H h a o
end
section
variable {P:Program} {w:World} {H H':Hp} {h h':Heap} {a:Addr} {o:HO}
theorem ObjOk.lt (x:ObjOk P w H h a o):a<h.objs.size:=by
 cases o with
 | lst xs=>obtain ⟨_,_,_,_,e⟩:=x;exact Heap.lt_size e
 | tup xs=>obtain ⟨_,_,_,p⟩:=x;exact p.lt
 | dK kvs=>obtain ⟨_,_,_,_,o,_,_,e,_⟩:=x;exact Heap.lt_size e
 | dT kvs=>obtain ⟨_,_,_,_,o,_,_,e,_⟩:=x;exact Heap.lt_size e
 | set S n=>obtain ⟨o,_,_,_,e,_⟩:=x;exact Heap.lt_size e
 | ins C dx fs=>obtain ⟨_,_,_,e,_⟩:=x;exact Heap.lt_size e
 | own y=>obtain ⟨_,e⟩:=x;exact Heap.lt_size e
 | xd fs=>obtain ⟨_,⟨_,_,_,e,_⟩,_⟩:=x;exact Heap.lt_size e
 | rng lo hi=>obtain ⟨_,_,_,e⟩:=x;exact Heap.lt_size e
 | frz ob u=>obtain ⟨e,_⟩:=x;exact Heap.lt_size e
 | tbl ps=>exact Heap.lt_size (show h.get? a=some _ from x)
 | met f y=>exact Heap.lt_size (show h.get? a=some _ from x)
 | ext φ=>obtain ⟨_,⟨_,e⟩,_⟩:=x;exact Heap.lt_size e
theorem Paired.mapP {α β:Type} {F G:α→β→Prop}:∀ {l₁:List α} {l₂:List β},Paired F l₁ l₂→(∀ a b,F a b→G a b)→Paired G l₁ l₂
 | _,_,.nil,_=>.nil
 | _,_,.cons r t,f=>.cons (f _ _ r) (Paired.mapP t f)
theorem ObjOk.stay (x:ObjOk P w H h a o) (k:∀ b u,(b=a∨H b=some (.own a))→h.get? b=some u→h'.get? b=some u)
  (ho:∀ b,H b=some (.own a)→H' b=some (.own a)) (ht:∀ b xs,H b=some (.tup xs)→H' b=some (.tup xs)):ObjOk P w H' h' a o:=by
 induction o with
 | lst xs=>obtain ⟨z,its,n,r,e⟩:=x;exact ⟨z,its,n,r,k _ _ (.inl rfl) e⟩
 | tup xs=>obtain ⟨z,its,r,ob,e,c⟩:=x;exact ⟨z,its,r,ob,k _ _ (.inl rfl) e,c⟩
 | dK kvs=>obtain ⟨z,y,vs,r,ob,es,ep,e,c⟩:=x;exact ⟨z,y,vs,r,ob,es,ep,k _ _ (.inl rfl) e,c⟩
 | dT kvs=>
  obtain ⟨z,y,xs,r,ob,es,ep,e,c⟩:=x
  exact ⟨z,y,xs,Paired.mapP r fun p q z=>⟨z.1,ht _ _ z.2.1,z.2.2⟩,ob,es,ep,k _ _ (.inl rfl) e,c⟩
 | set S n=>obtain ⟨ob,es,ep,t,e,c⟩:=x;exact ⟨ob,es,ep,t,k _ _ (.inl rfl) e,c⟩
 | ins C dx fs=>
  obtain ⟨d,z,ne,e,mA,⟨od,es,ep,e2,c⟩,r⟩:=x
  exact ⟨ho _ d,z,ne,k _ _ (.inl rfl) e,mA,⟨od,es,ep,k _ _ (.inr d) e2,c⟩,r⟩
 | own y=>obtain ⟨ob,e⟩:=x;exact ⟨ob,k _ _ (.inl rfl) e⟩
 | xd fs=>obtain ⟨mA,⟨od,es,ep,e,c⟩,r⟩:=x;exact ⟨mA,⟨od,es,ep,k _ _ (.inl rfl) e,c⟩,r⟩
 | rng lo hi=>obtain ⟨t,u,v,e⟩:=x;exact ⟨t,u,v,k _ _ (.inl rfl) e⟩
 | frz ob u ih=>obtain ⟨e,q⟩:=x;exact ⟨k _ _ (.inl rfl) e,ih q⟩
 | tbl ps=>
  have e:h.get? a=some { cls:=.none,data:=.fields ps }:=x
  show h'.get? a=some { cls:=.none,data:=.fields ps }
  exact k a _ (.inl rfl) e
 | met f y=>
  have e:h.get? a=some (PySem.W.methodObj (.ref f) (.ref y)):=x
  show h'.get? a=some (PySem.W.methodObj (.ref f) (.ref y))
  exact k a _ (.inl rfl) e
 | ext φ=>obtain ⟨p,⟨o,e⟩,st⟩:=x;exact ⟨st _ _ p fun o q=>k _ _ (.inl rfl) q,⟨o,k _ _ (.inl rfl) e⟩,st⟩
theorem HOk.lt (x:HOk P w H h) (e:H a=some o):a<h.objs.size:=(x a o e).lt
theorem HOk.fresh (x:HOk P w H h) (e:h.objs.size≤a):H a=none:=by
 cases q:H a with
 | none=>rfl
 | some u=>exact absurd (Nat.lt_of_lt_of_le (x.lt q) e) (Nat.lt_irrefl _)
theorem HOk.kept (x:HOk P w H h) (k:∀ b u,h.get? b=some u→h'.get? b=some u):HOk P w H h':=fun a o e=>
 (x a o e).stay (fun b u _ q=>k b u q) (fun _ q=>q) fun _ _ q=>q
theorem HOk.laid (x:HOk P w H h) (k:∀ b u,h.get? b=some u→h'.get? b=some u) (hp:h.objs.size≤a) (new:ObjOk P w (upd H a o) h' a o):HOk P w (upd H a o) h':=fun b u e=>by
 have hn:=x.fresh hp
 by_cases hb:b=a
 ·subst hb;rw [upd_same] at e;cases e;exact new
 ·rw [upd_ne hb] at e
  exact (x b u e).stay (fun c v _ q=>k c v q) (fun c q=>by rw [upd_ne (ne_of_none q hn)];exact q) fun c xs q=>by rw [upd_ne (ne_of_none q hn)];exact q
end
def Rd (H:Hp) (a:Addr) (u:HO):Prop:=H a=some u∨∃ o,H a=some (.frz o u)
theorem Rd.ok {P:Program} {w:World} {H:Hp} {h:Heap} {a:Addr} {u:HO} (r:Rd H a u) (x:HOk P w H h):ObjOk P w H h a u:=by
 rcases r with r | ⟨o,r⟩
 ·exact x a u r
 ·obtain ⟨_,q⟩:=x a _ r
  exact q
def Mut:Option HO→Prop
 | some (.lst _)=>True
 | some (.dK _)=>True
 | some (.dT _)=>True
 | some (.set _ _)=>True
 | some (.ins _ _ _)=>True
 | some (.ext _)=>True
 | _=>False
section
variable {P:Program} {w:World} {H:Hp} {h h':Heap} {x e:Addr} {o':HO}
theorem HOk.write (ok:HOk P w H h) (mu:Mut (H x)) (he:e=x∨H e=some (.own x)) (k:∀ b u,b≠e→h.get? b=some u→h'.get? b=some u) (heo:∃ u,h'.get? e=some u)
  (new:ObjOk P w (upd H x o') h' x o'):HOk P w (upd H x o') h':=fun b u q=>by
 have nown:∀ c y,H c=some (.own y)→c≠x:=fun c y r z=>by subst z;rw [r] at mu;exact mu
 have ntup:∀ c xs,H c=some (.tup xs)→c≠x:=fun c xs r z=>by subst z;rw [r] at mu;exact mu
 by_cases hb:b=x
 ·subst hb;rw [upd_same] at q;cases q;exact new
 ·rw [upd_ne hb] at q
  by_cases hbe:b=e
  ·have q':H b=some (.own x):=by
    rcases he with z | z
    ·exact absurd (hbe.trans z) hb
    ·rw [hbe];exact z
   rw [q] at q';cases q'
   obtain ⟨v,hv⟩:=heo
   exact ⟨v,by rw [hbe];exact hv⟩
  ·refine (ok b u q).stay (fun c v hc r=>k c v ?_ r) (fun c r=>by rw [upd_ne (nown c b r)];exact r) fun c xs r=>by rw [upd_ne (ntup c xs r)];exact r
   rcases hc with rfl | hc
   ·exact hbe
   ·rintro rfl
    rcases he with z | z
    ·exact nown c b hc z
    ·rw [hc] at z;cases z;exact hb rfl
end
structure Un (fs ex:List Addr) (H H':Hp) (h h':Heap):Prop where
 keep:∀ b o,h.get? b=some o→H b=none→b ∉ fs→b ∉ ex→h'.get? b=some o
 slot:∀ b o,h.get? b=some o→H b=none→b∈fs→b ∉ ex→∃ sl,h'.get? b=some { o with slots:=sl }
 free:∀ b o,h.get? b=some o→H b=none→b ∉ ex→H' b=none
 there:∀ b o,h.get? b=some o→b ∉ ex→∃ o',h'.get? b=some o'
 tups:∀ b xs,H b=some (.tup xs)→H' b=some (.tup xs)
 frzs:∀ b o u,H b=some (.frz o u)→H' b=some (.frz o u)
 tbls:∀ b ps,H b=some (.tbl ps)→∃ more,H' b=some (.tbl (ps++more))
section
variable {fs fs' ex ex':List Addr} {H H1 H2:Hp} {h h1 h2 h':Heap} {a x e:Addr} {o:HO}
theorem Un.any (u:Un fs ex H H1 h h1) {b:Addr} {ob:Obj} (q:h.get? b=some ob) (n:H b=none) (hx:b ∉ ex):∃ sl,h1.get? b=some { ob with slots:=sl }:=by
 by_cases hb:b∈fs
 ·exact u.slot b ob q n hb hx
 ·exact ⟨ob.slots,u.keep b ob q n hb hx⟩
theorem Un.kept (k:∀ b u,h.get? b=some u→h'.get? b=some u):Un fs ex H H h h':=
 ⟨fun b ob q _ _ _=>k b ob q,fun b ob q _ _ _=>⟨ob.slots,k b ob q⟩,fun _ _ _ n _=>n,fun b ob q _=>⟨ob,k b ob q⟩,fun _ _ q=>q,fun _ _ _ q=>q,fun _ ps q=>⟨#[],by rw [q];simp⟩⟩
theorem Un.refl:Un fs ex H H h h:=Un.kept fun _ _ q=>q
theorem Un.laid (k:∀ b u,h.get? b=some u→h'.get? b=some u) (hp:h.objs.size≤a) (hn:H a=none):Un fs ex H (upd H a o) h h' where
 keep:=fun b u q _ _ _=>k b u q
 slot:=fun b u q _ _ _=>⟨u.slots,k b u q⟩
 free:=fun b u q n _=>by rw [upd_ne (Nat.ne_of_lt (Nat.lt_of_lt_of_le (Heap.lt_size q) hp))];exact n
 there:=fun b u q _=>⟨u,k b u q⟩
 tups:=fun b xs q=>by rw [upd_ne (ne_of_none q hn)];exact q
 frzs:=fun b u xs q=>by rw [upd_ne (ne_of_none q hn)];exact q
 tbls:=fun b ps q=>⟨#[],by rw [upd_ne (ne_of_none q hn),q];simp⟩
theorem Un.write (mu:Mut (H x)) (he:e=x∨H e=some (.own x)) (k:∀ b u,b≠e→h.get? b=some u→h'.get? b=some u) (heo:∃ u,h'.get? e=some u):Un fs ex H (upd H x o) h h':=by
 have hx:∀ b,H b=none→b≠x:=fun b n z=>by subst z;rw [n] at mu;exact mu
 have hb:∀ b,H b=none→b≠e:=fun b n z=>by
  subst z
  rcases he with r | r
  ·exact hx b n r
  ·rw [n] at r;cases r
 have hm:∀ b u,H b=some u→¬ Mut (some u)→b≠x:=fun b u q nm z=>by subst z;rw [q] at mu;exact nm mu
 refine ⟨fun b u q n _ _=>k b u (hb b n) q,fun b u q n _ _=>⟨u.slots,k b u (hb b n) q⟩,fun b u q n _=>by rw [upd_ne (hx b n)];exact n,fun b u q _=>?_,
  fun b xs q=>by rw [upd_ne (hm b _ q fun z=>z)];exact q,fun b u xs q=>by rw [upd_ne (hm b _ q fun z=>z)];exact q,fun b ps q=>⟨#[],by rw [upd_ne (hm b _ q fun z=>z),q];simp⟩⟩
 by_cases hbe:b=e
 ·subst hbe;exact heo
 ·exact ⟨u,k b u hbe q⟩
end
def trk (h:Heap) (H:Hp):List Addr:=(List.range h.objs.size).filter fun a=>(H a).isSome
def hidT (h:Heap) (H:Hp):Heap:=PySem.W.hideAll h (trk h H)
theorem hidT_size (h:Heap) (H:Hp):(hidT h H).objs.size=h.objs.size:=PySem.W.hideAll_size _ _
theorem hidT_get {h:Heap} {H:Hp} {b:Addr} {o:Obj} (e:h.get? b=some o) (n:H b=none):(hidT h H).get? b=some o:=
 PySem.W.hideAll_get _ e fun hm=>by
  have q:(H b).isSome=true:=(List.mem_filter.mp hm).2
  rw [n] at q;simp at q
theorem of_hidT {h:Heap} {H:Hp} {b:Addr} {o:Obj} (e:(hidT h H).get? b=some o):h.get? b=some o∧H b=none:=by
 have e':h.get? b=some o:=PySem.W.of_hideAll (trk h H) e
 refine ⟨e',?_⟩
 cases q:H b with
 | none=>rfl
 | some x=>
  have hm:b∈trk h H:=List.mem_filter.mpr ⟨List.mem_range.mpr (Heap.lt_size e'),by simp [q]⟩
  have z:(hidT h H).get? b=none:=PySem.W.hideAll_none (trk h H) hm
  rw [z] at e;cases e
def allNews (g h:Heap) (L:Addr):List (Addr × Obj):=(List.range h.objs.size).filterMap fun a=>if a=L∨(g.get? a).isSome=true then none else (h.get? a).map fun o=>(a,o)
def rest (g h:Heap) (L d:Addr):List (Addr × Obj):=(allNews g h L).filter fun p=>decide (p.1≠d)
end L2
namespace L2
open PySem PySem.Spec PyProof.Rows
structure Mod (K:PySem.W.Frag) (mg:Str→Option Value) (base:Heap):Prop where
 kin:K.In base
 glob:base.Ns mainGlobals mg
 blt:∃ mb,base.Ns builtinsNs mb∧∀ x:Str,x≠"__name__"→mb x=bootBuiltins x
 nolimit:base.NoLimit
structure Cx where
 prog:Program
 w:World
 K:PySem.W.Frag
 mg:Str→Option Value
 base:Heap
 A:Around
 N:List Str
 s₀:Shared
 H₀:Hp
 env:Env
 outer:List Env
 stack:List Env
 ex:List Addr
 fn:Str→Bool
 calm:Bool
 pn:List (Addr × Obj)
 xe:Value→Shared→Prop
def frs (l:List Env):List Addr:=l.filterMap (·.frame)
abbrev Cx.fs (X:Cx):List Addr:=frs X.outer
def Vis (sc:Scope) (x:Str):Prop:=sc.names.lookup x=some .local∨sc.names.lookup x=some .cell∨sc.names.lookup x=some .free
def Loc (sc:Scope) (x:Str):Prop:=sc.names.lookup x=some .local∨sc.names.lookup x=some .cell
def Look (env:Env) (h:Heap) (m:Str→Option Value) (x:Str) (u:Value):Prop:=
 (env.kindOf x=some .local∧m x=some u)∨((env.kindOf x=some .cell∨env.kindOf x=some .free)∧∃ c,env.cells.lookup x=some c∧h.IsCell c (some u))
structure Cx.Ok (X:Cx):Prop where
 mod:Mod X.K X.mg X.base
 kind:X.env.scope.kind=.function
 glob:X.env.globals=mainGlobals
 blt:X.env.builtins=builtinsNs
 above:X.s₀.heap.objs.size≤X.env.locals
 inj:∀ x y c,X.env.cells.lookup x=some c→X.env.cells.lookup y=some c→x=y
 has:∀ x,(X.env.kindOf x=some .cell∨X.env.kindOf x=some .free)→∃ c,X.env.cells.lookup x=some c
 cab:∀ x c,X.fn x=true→X.env.cells.lookup x=some c→X.s₀.heap.objs.size≤c
 hd:X.calm=true→X.A.handled=none
 frames:X.A.frames=some X.stack
 stk:X.stack=X.outer∨(X.stack=X.env::X.outer∧X.env.frame=some X.env.locals)
 exf:∀ b∈X.ex,b≠X.env.locals∧∀ x c,X.env.cells.lookup x=some c→c≠b
 bs:∀ b o,X.base.get? b=some o→X.s₀.heap.get? b=some o∧X.H₀ b=none
 bsz:X.base.objs.size≤X.s₀.heap.objs.size
 noex:∀ b o,X.base.get? b=some o→b ∉ X.ex
 exfs:∀ b∈X.ex,b ∉ X.fs
 funs:X.s₀.heap.FunFrames X.base X.outer
 frf:∀ b∈X.fs,X.H₀ b=none
structure Inv (X:Cx) (pins:List (Addr × Obj)) (σ:List (Option V)) (H:Hp) (s:Shared):Prop where
 ok:X.Ok
 os:s.os=X.s₀.os
 bare:AllBare s.gens
 base:Un X.fs X.ex X.H₀ H X.s₀.heap s.heap
 loc:∃ m,s.heap.Ns X.env.locals m∧∀ (i:Nat) (x:Str) (v:V),X.N[i]?=some x→σ[i]?=some (some v)→Vis X.env.scope x→∃ u,RelV v u∧Look X.env s.heap m x u
 cell:∀ x c,X.env.cells.lookup x=some c→∃ v,s.heap.IsCell c v
 free:H X.env.locals=none
 freeC:∀ x c,X.env.cells.lookup x=some c→H c=none
 pin:∀ p∈X.pn++pins,s.heap.get? p.1=some p.2∧H p.1=none∧p.1≠X.env.locals∧p.1 ∉ X.fs∧∀ v,p.2.data≠.cell v
 hok:HOk X.prog X.w H s.heap
 len:σ.length=X.N.length
section
variable {X:Cx} {pins:List (Addr × Obj)} {σ:List (Option V)} {H H':Hp} {s:Shared} {h':Heap}
theorem Cx.Ok.nofr (ok:X.Ok) {b:Addr} {o:Obj} (e:X.base.get? b=some o):b ∉ X.fs:=fun hb=>by
 have:=(ok.funs.mem hb).1
 rw [e] at this;cases this
theorem Inv.bs (I:Inv X pins σ H s):∀ b o,X.base.get? b=some o→s.heap.get? b=some o∧H b=none:=fun b o e=>
 ⟨I.base.keep b o (I.ok.bs b o e).1 (I.ok.bs b o e).2 (I.ok.nofr e) (I.ok.noex b o e),I.base.free b o (I.ok.bs b o e).1 (I.ok.bs b o e).2 (I.ok.noex b o e)⟩
theorem Inv.bk (I:Inv X pins σ H s):∀ b o,X.base.get? b=some o→s.heap.get? b=some o:=fun b o e=>(I.bs b o e).1
theorem Inv.mod (I:Inv X pins σ H s):Mod X.K X.mg X.base:=I.ok.mod
theorem Inv.kIn (I:Inv X pins σ H s):X.K.In s.heap:=I.ok.mod.kin.keeps I.bk
theorem Inv.lt (I:Inv X pins σ H s):X.env.locals<s.heap.objs.size:=let ⟨_,hn,_⟩:=I.loc;hn.lt
theorem Inv.sz (I:Inv X pins σ H s):X.s₀.heap.objs.size≤s.heap.objs.size:=Nat.le_trans I.ok.above (Nat.le_of_lt I.lt)
theorem Inv.nofs (I:Inv X pins σ H s) {a:Addr} (h:s.heap.objs.size≤a):a ∉ X.fs:=fun hb=>by
 obtain ⟨_,o,ho,_⟩:=I.ok.funs.mem hb
 exact absurd (Nat.lt_of_lt_of_le (Heap.lt_size ho) (Nat.le_trans I.sz h)) (Nat.lt_irrefl _)
theorem Inv.cne (I:Inv X pins σ H s):∀ x c,X.env.cells.lookup x=some c→c≠X.env.locals:=fun x c e z=>by
 obtain ⟨v,o,ho,hd⟩:=I.cell x c e
 obtain ⟨m,⟨o',es,ep,ho',hd',_⟩,_⟩:=I.loc
 rw [z,ho'] at ho;cases ho;rw [hd'] at hd;cases hd
theorem Inv.funs (I:Inv X pins σ H s):s.heap.FunFrames X.base X.outer:=by
 have all:∀ (l:List Env),(∀ b∈frs l,b∈X.fs)→X.s₀.heap.FunFrames X.base l→s.heap.FunFrames X.base l:=by
  intro l
  induction l with
  | nil=>intro _ _;trivial
  | cons env r ih=>
   intro hs hl
   obtain ⟨hk,⟨L,o,hf,hn,ho,hd⟩,hr⟩:=hl
   have hL:L∈X.fs:=hs L (by unfold frs;rw [List.filterMap_cons,hf];exact List.mem_cons_self)
   obtain ⟨sl,e⟩:=I.base.slot L o ho (I.ok.frf L hL) hL fun z=>I.ok.exfs L z hL
   exact ⟨hk,⟨L,_,hf,hn,e,hd⟩,ih (fun b hb=>hs b (by unfold frs;rw [List.filterMap_cons,hf];exact List.mem_cons_of_mem _ hb)) hr⟩
 exact all X.outer (fun _ hb=>hb) I.ok.funs
theorem Inv.stack (I:Inv X pins σ H s):s.heap.FunFrames X.base X.stack:=by
 rcases I.ok.stk with e | ⟨e,hf⟩
 ·rw [e];exact I.funs
 ·rw [e]
  obtain ⟨m,hn,_⟩:=I.loc
  refine .cons (by rw [I.ok.kind];decide) hf hn ?_ I.funs
  exact Heap.get?_none_of_le (Nat.le_trans I.ok.bsz I.ok.above)
theorem Inv.stkSub (I:Inv X pins σ H s):∀ b∈frs X.stack,b∈X.env.locals::X.fs:=fun b hb=>by
 rcases I.ok.stk with e | ⟨e,hf⟩
 ·rw [e] at hb;exact List.mem_cons_of_mem _ hb
 ·rw [e] at hb
  unfold frs at hb
  rw [List.filterMap_cons,hf] at hb
  exact hb
theorem Inv.stkFree (I:Inv X pins σ H s):∀ b∈frs X.stack,H b=none:=fun b hb=>by
 rcases List.mem_cons.mp (I.stkSub b hb) with e | hb
 ·rw [e];exact I.free
 ·obtain ⟨_,o,ho,_⟩:=I.ok.funs.mem hb
  exact I.base.free b o ho (I.ok.frf b hb) fun z=>I.ok.exfs b z hb
theorem Inv.step {g':Array GenState} {t':Nat} {d':Drawn} {ch:List Addr} (I:Inv X pins σ H s)
  (hch:∀ b∈ch,(b∈X.ex∨X.s₀.heap.objs.size≤b)∧b≠X.env.locals∧(∀ x c,X.env.cells.lookup x=some c→c≠b)∧∀ p∈X.pn++pins,p.1≠b)
  (keep:∀ b o,b≠X.env.locals→b ∉ X.fs→b ∉ ch→s.heap.get? b=some o→H b=none→h'.get? b=some o)
  (slot:∀ b o,b≠X.env.locals→b∈X.fs→b ∉ ch→s.heap.get? b=some o→H b=none→∃ sl,h'.get? b=some { o with slots:=sl }) (free:∀ b o,b ∉ ch→s.heap.get? b=some o→H b=none→H' b=none)
  (there:∀ b o,b ∉ ch→s.heap.get? b=some o→∃ o',h'.get? b=some o')
  (tups:∀ b xs,H b=some (.tup xs)→H' b=some (.tup xs)) (frzs:∀ b o u,H b=some (.frz o u)→H' b=some (.frz o u)) (tbls:∀ b ps,H b=some (.tbl ps)→∃ more,H' b=some (.tbl (ps++more)))
  (ns:∀ m,s.heap.Ns X.env.locals m→h'.Ns X.env.locals m) (hok:HOk X.prog X.w H' h') (hg:AllBare g') :
  Inv X pins σ H' { s with heap:=h',gens:=g',drawn:=d',toks:=t' }:=by
 have neL:∀ b o,X.s₀.heap.get? b=some o→b≠X.env.locals:=fun b o e=>Nat.ne_of_lt (Nat.lt_of_lt_of_le (Heap.lt_size e) I.ok.above)
 have neC:∀ b o,X.s₀.heap.get? b=some o→b ∉ X.ex→b ∉ ch:=fun b o e hx hb=>by
  rcases (hch b hb).1 with z | z
  ·exact hx z
  ·exact absurd (Nat.lt_of_lt_of_le (Heap.lt_size e) z) (Nat.lt_irrefl _)
 have cellK:∀ x c,X.env.cells.lookup x=some c→∀ v,s.heap.IsCell c v→h'.IsCell c v:=fun x c e v ⟨o,ho,hd⟩=>by
  have nch:c ∉ ch:=fun z=>(hch c z).2.2.1 x c e rfl
  by_cases hc:c∈X.fs
  ·obtain ⟨sl,q⟩:=slot c o (I.cne x c e) hc nch ho (I.freeC x c e)
   exact ⟨_,q,hd⟩
  ·exact ⟨o,keep c o (I.cne x c e) hc nch ho (I.freeC x c e),hd⟩
 refine ⟨I.ok,I.os,hg,⟨fun b o e n hb hx=>?_,fun b o e n hb hx=>?_,fun b o e n hx=>?_,fun b o e hx=>?_,fun b xs e=>tups b xs (I.base.tups b xs e),fun b o xs e=>frzs b o xs (I.base.frzs b o xs e),fun b ps e=>?_⟩,?_,fun x c e=>?_,?_,fun x c e=>?_,fun p hp=>?_,hok,I.len⟩
 ·exact keep b o (neL b o e) hb (neC b o e hx) (I.base.keep b o e n hb hx) (I.base.free b o e n hx)
 ·obtain ⟨sl,e1⟩:=I.base.slot b o e n hb hx
  obtain ⟨sl',e2⟩:=slot b _ (neL b o e) hb (neC b o e hx) e1 (I.base.free b o e n hx)
  exact ⟨sl',e2⟩
 ·obtain ⟨o',e1⟩:=I.base.there b o e hx
  exact free b o' (neC b o e hx) e1 (I.base.free b o e n hx)
 ·obtain ⟨o',e1⟩:=I.base.there b o e hx
  exact there b o' (neC b o e hx) e1
 ·obtain ⟨m1,e1⟩:=I.base.tbls b ps e
  obtain ⟨m2,e2⟩:=tbls b _ e1
  exact ⟨m1++m2,by rw [e2,Array.append_assoc]⟩
 ·obtain ⟨m,hn,hl⟩:=I.loc
  refine ⟨m,ns m hn,fun i x v e1 e2 e3=>?_⟩
  obtain ⟨u,r,l⟩:=hl i x v e1 e2 e3
  refine ⟨u,r,?_⟩
  rcases l with l | ⟨k,c,e,z⟩
  ·exact .inl l
  ·exact .inr ⟨k,c,e,cellK x c e _ z⟩
 ·obtain ⟨v,z⟩:=I.cell x c e
  exact ⟨v,cellK x c e v z⟩
 ·obtain ⟨m,⟨o,_,_,ho,_⟩,_⟩:=I.loc
  exact free _ o (fun z=>(hch _ z).2.1 rfl) ho I.free
 ·obtain ⟨v,o,ho,hd⟩:=I.cell x c e
  exact free c o (fun z=>(hch c z).2.2.1 x c e rfl) ho (I.freeC x c e)
 ·obtain ⟨e,n,ne,nf,d⟩:=I.pin p hp
  have nch:p.1 ∉ ch:=fun z=>(hch p.1 z).2.2.2 p hp rfl
  exact ⟨keep p.1 p.2 ne nf nch e n,free p.1 p.2 nch e n,ne,nf,d⟩
theorem Inv.un {t':Nat} (I:Inv X pins σ H s) (u:Un X.fs [] H H' s.heap h') (hok:HOk X.prog X.w H' h'):Inv X pins σ H' { s with heap:=h',toks:=t' }:=by
 obtain ⟨m,⟨o,es,ep,ho,r⟩,_⟩:=id I.loc
 obtain ⟨sl,hL⟩:=u.any ho I.free (by simp)
 exact I.step (g':=s.gens) (d':=s.drawn) (ch:=[]) (fun _ z=>nomatch z) (fun b o _ hb _ e n=>u.keep b o e n hb (by simp)) (fun b o _ hb _ e n=>u.slot b o e n hb (by simp)) (fun b o _ e n=>u.free b o e n (by simp)) (fun b o _ e=>u.there b o e (by simp)) u.tups u.frzs u.tbls (fun m' hm=>by
  obtain ⟨o',es',ep',ho',r'⟩:=hm
  rw [ho] at ho';cases ho'
  exact ⟨_,es',ep',hL,r'⟩) hok I.bare
theorem Inv.call {g':Array GenState} {t':Nat} {d':Drawn} {ch:List Addr} (I:Inv X pins σ H s) (u:Un (frs X.stack) ch H H' s.heap h') (hok:HOk X.prog X.w H' h') (hg:AllBare g')
  (hch:∀ b∈ch,(b∈X.ex∨X.s₀.heap.objs.size≤b)∧b≠X.env.locals∧(∀ x c,X.env.cells.lookup x=some c→c≠b)∧∀ p∈X.pn++pins,p.1≠b) :
  Inv X pins σ H' { s with heap:=h',gens:=g',drawn:=d',toks:=t' }:=by
 obtain ⟨m,⟨o,es,ep,ho,r⟩,_⟩:=id I.loc
 obtain ⟨sl,hL⟩:=u.any ho I.free fun z=>(hch _ z).2.1 rfl
 exact I.step (ch:=ch) hch (fun b o hL hb hc e n=>u.keep b o e n (fun z=>(List.mem_cons.mp (I.stkSub b z)).elim hL hb) hc) (fun b o _ _ hc e n=>u.any e n hc) (fun b o hc e n=>u.free b o e n hc) (fun b o hc e=>u.there b o e hc) u.tups u.frzs u.tbls (fun m' hm=>by
  obtain ⟨o',es',ep',ho',r'⟩:=hm
  rw [ho] at ho';cases ho'
  exact ⟨_,es',ep',hL,r'⟩) hok hg
theorem Inv.turned {t':Nat} {it:Addr} (I:Inv X pins σ H s) (k:∀ b o,b≠it→s.heap.get? b=some o→h'.get? b=some o) (hn:H it=none) (hL:it≠X.env.locals)
  (h1:it∈X.ex∨X.s₀.heap.objs.size≤it) (h2:∀ x c,X.env.cells.lookup x=some c→c≠it) (h3:∀ p∈X.pn++pins,p.1≠it):Inv X pins σ H { s with heap:=h',toks:=t' }:=by
 have nit:∀ b u,H b=some u→b≠it:=fun b u e z=>by rw [z,hn] at e;cases e
 refine I.step (g':=s.gens) (d':=s.drawn) (ch:=[it]) (fun b hb=>?_) (fun b o _ _ hc e _=>k b o (fun z=>hc (by simp [z])) e) (fun b o _ _ hc e _=>⟨o.slots,k b o (fun z=>hc (by simp [z])) e⟩) (fun _ _ _ _ n=>n)
  (fun b o hc e=>⟨o,k b o (fun z=>hc (by simp [z])) e⟩) (fun _ _ e=>e) (fun _ _ _ e=>e) (fun b ps e=>⟨#[],by rw [e];simp⟩) (fun m hm=>?_) (fun b u e=>?_) I.bare
 ·have e:b=it:=by simpa using hb
  subst e
  exact ⟨h1,hL,h2,h3⟩
 ·obtain ⟨o,es,ep,ho,r⟩:=hm
  exact ⟨o,es,ep,k _ o (Ne.symm hL) ho,r⟩
 ·refine (I.hok b u e).stay (fun c v hc q=>k c v ?_ q) (fun _ q=>q) fun _ _ q=>q
  rcases hc with z | z
  ·rw [z];exact nit b u e
  ·exact nit c _ z
theorem Inv.tok (I:Inv X pins σ H s) (t:Nat):Inv X pins σ H { s with toks:=t }:=I.un (h':=s.heap) (t':=t) Un.refl I.hok
theorem Inv.kept {t':Nat} (I:Inv X pins σ H s) (k:∀ b u,s.heap.get? b=some u→h'.get? b=some u):Inv X pins σ H { s with heap:=h',toks:=t' }:=I.un (Un.kept k) (I.hok.kept k)
theorem Inv.laid {a:Addr} {o:HO} {t':Nat} (I:Inv X pins σ H s) (k:∀ b u,s.heap.get? b=some u→h'.get? b=some u) (hp:s.heap.objs.size≤a) (new:ObjOk X.prog X.w (upd H a o) h' a o) :
  Inv X pins σ (upd H a o) { s with heap:=h',toks:=t' }:=I.un (Un.laid k hp (I.hok.fresh hp)) (I.hok.laid k hp new)
theorem Inv.write {x e:Addr} {o:HO} {t':Nat} (I:Inv X pins σ H s) (mu:Mut (H x)) (he:e=x∨H e=some (.own x)) (k:∀ b u,b≠e→s.heap.get? b=some u→h'.get? b=some u) (heo:∃ u,h'.get? e=some u)
  (new:ObjOk X.prog X.w (upd H x o) h' x o):Inv X pins σ (upd H x o) { s with heap:=h',toks:=t' }:=I.un (Un.write mu he k heo) (I.hok.write mu he k heo new)
theorem Inv.pins_of {pins':List (Addr × Obj)} (I:Inv X pins σ H s) (h:∀ p∈pins',s.heap.get? p.1=some p.2∧H p.1=none∧p.1≠X.env.locals∧p.1 ∉ X.fs∧∀ v,p.2.data≠.cell v):Inv X pins' σ H s:=
 ⟨I.ok,I.os,I.bare,I.base,I.loc,I.cell,I.free,I.freeC,fun p hp=>(List.mem_append.mp hp).elim (fun z=>I.pin p (List.mem_append_left _ z)) (h p),I.hok,I.len⟩
theorem nodup_ix {N:List Str} (hN:N.Nodup) {i j:Nat} {x:Str} (a:N[i]?=some x) (b:N[j]?=some x):i=j:=by
 obtain ⟨h1,e1⟩:=List.getElem?_eq_some_iff.mp a
 obtain ⟨h2,e2⟩:=List.getElem?_eq_some_iff.mp b
 exact (List.getElem_inj hN).mp (e1.trans e2.symm)
theorem store_ok2 {M:Model} {A:Around} {E:Value→Shared→Prop} {i:Nat} {x:Str} {v:V} {u:Value} {Q:Unit→Shared→Prop} (I:Inv X pins σ H s) (hN:X.N.Nodup) (hi:X.N[i]?=some x) (hx:Loc X.env.scope x) (r:RelV v u)
  (h:∀ s',Inv X pins (σ.set i (some v)) H s'→(∃ a,Heap.SameBut a s.heap s'.heap∧(a=X.env.locals∨X.env.cells.lookup x=some a))→Q () s') (hf:X.fn x=true∨X.env.scope.names.lookup x=some .local:=by first | exact .inl rfl | exact .inr rfl | assumption):wpAny M A (storeName X.env x u) Q E s:=by
 obtain ⟨m,hn,hl⟩:=id I.loc
 have hcls:(X.env.scope.kind == .class || (X.env.scope.kind == .module && X.env.locals != X.env.globals))=false:=by rw [I.ok.kind];rfl
 have hiσ:i < σ.length:=by rw [I.len];exact (List.getElem?_eq_some_iff.mp hi).1
 have cne:=I.cne
 have tracked:∀ {a:Addr} {h':Heap},(∃ o,s.heap.get? a=some o∧H a=none)→Heap.SameBut a s.heap h'→HOk X.prog X.w H h':=fun {a h'} ha hs b ob e=>by
  obtain ⟨_,_,hfree⟩:=ha
  refine (I.hok b ob e).stay (fun c w' hc q=>(hs.2 c ?_).trans q) (fun _ q=>q) fun _ _ q=>q
  rintro rfl
  rcases hc with rfl | hc
  ·rw [hfree] at e;cases e
  ·rw [hfree] at hc;cases hc
 rcases hx with hk | hk
 ·refine wpAny_storeName_local hk hn (fun h' hn' hs=>?_) hcls
  obtain ⟨oL,_,_,hoL,_⟩:=id hn
  refine h _ ⟨I.ok,I.os,I.bare,⟨fun b o e n hb hx=>?_,fun b o e n hb hx=>?_,I.base.free,fun b o e hx=>?_,I.base.tups,I.base.frzs,I.base.tbls⟩,⟨_,hn',fun j y v' e1 e2 e3=>?_⟩,fun y c e=>?_,I.free,I.freeC,fun p hp=>?_,tracked ⟨oL,hoL,I.free⟩ hs,by simpa using I.len⟩ ⟨_,hs,.inl rfl⟩
  ·exact (hs.2 b (Nat.ne_of_lt (Nat.lt_of_lt_of_le (Heap.lt_size e) I.ok.above))).trans (I.base.keep b o e n hb hx)
  ·obtain ⟨sl,e1⟩:=I.base.slot b o e n hb hx
   exact ⟨sl,(hs.2 b (Nat.ne_of_lt (Nat.lt_of_lt_of_le (Heap.lt_size e) I.ok.above))).trans e1⟩
  ·obtain ⟨o',e1⟩:=I.base.there b o e hx
   exact ⟨o',(hs.2 b (Nat.ne_of_lt (Nat.lt_of_lt_of_le (Heap.lt_size e) I.ok.above))).trans e1⟩
  ·by_cases hj:j=i
   ·subst hj
    rw [hi] at e1;cases e1
    rw [List.getElem?_set_self hiσ] at e2
    cases e2
    exact ⟨u,r,.inl ⟨hk,by simp⟩⟩
   ·rw [List.getElem?_set_ne (Ne.symm hj)] at e2
    obtain ⟨u',r',q⟩:=hl j y v' e1 e2 e3
    refine ⟨u',r',?_⟩
    rcases q with ⟨k,e⟩ | ⟨k,c,e,z⟩
    ·refine .inl ⟨k,?_⟩
     have:y≠x:=fun e=>hj (nodup_ix hN e1 (e ▸ hi))
     simp [this,e]
    ·exact .inr ⟨k,c,e,z.sameBut hs (cne y c e)⟩
  ·obtain ⟨w',z⟩:=I.cell y c e
   exact ⟨w',z.sameBut hs (cne y c e)⟩
  ·obtain ⟨e,n,ne,nf,d⟩:=I.pin p hp
   exact ⟨(hs.2 p.1 ne).trans e,n,ne,nf,d⟩
 ·have hfn:X.fn x=true:=by
   rcases hf with z | z
   ·exact z
   ·rw [z] at hk;cases hk
  obtain ⟨c,hc⟩:=I.ok.has x (.inl hk)
  obtain ⟨w',z⟩:=I.cell x c hc
  refine wpAny_storeName_cell I.ok.kind hk hc z (fun h' hc' hs=>?_)
  obtain ⟨oc,hoc,hocd⟩:=id z
  refine h { s with heap:=h' } ⟨I.ok,I.os,I.bare,⟨fun b o e n hb hx=>?_,fun b o e n hb hx=>?_,I.base.free,fun b o e hx=>?_,I.base.tups,I.base.frzs,I.base.tbls⟩,⟨m,hn.sameBut hs (Ne.symm (cne x c hc)),fun j y v' e1 e2 e3=>?_⟩,fun y c' e=>?_,I.free,I.freeC,fun p hp=>?_,tracked ⟨oc,hoc,I.freeC x c hc⟩ hs,by simpa using I.len⟩ ⟨c,hs,.inr hc⟩
  ·exact (hs.2 b (Nat.ne_of_lt (Nat.lt_of_lt_of_le (Heap.lt_size e) (I.ok.cab x c hfn hc)))).trans (I.base.keep b o e n hb hx)
  ·obtain ⟨sl,e1⟩:=I.base.slot b o e n hb hx
   exact ⟨sl,(hs.2 b (Nat.ne_of_lt (Nat.lt_of_lt_of_le (Heap.lt_size e) (I.ok.cab x c hfn hc)))).trans e1⟩
  ·obtain ⟨o',e1⟩:=I.base.there b o e hx
   exact ⟨o',(hs.2 b (Nat.ne_of_lt (Nat.lt_of_lt_of_le (Heap.lt_size e) (I.ok.cab x c hfn hc)))).trans e1⟩
  ·by_cases hj:j=i
   ·subst hj
    rw [hi] at e1;cases e1
    rw [List.getElem?_set_self hiσ] at e2
    cases e2
    exact ⟨u,r,.inr ⟨.inl hk,c,hc,hc'⟩⟩
   ·rw [List.getElem?_set_ne (Ne.symm hj)] at e2
    obtain ⟨u',r',q⟩:=hl j y v' e1 e2 e3
    refine ⟨u',r',?_⟩
    rcases q with q | ⟨k,c',e,z'⟩
    ·exact .inl q
    ·refine .inr ⟨k,c',e,z'.sameBut hs ?_⟩
     rintro rfl
     exact hj (nodup_ix hN e1 (I.ok.inj _ _ _ e hc ▸ hi))
  ·by_cases hcc:c'=c
   ·subst hcc;exact ⟨_,hc'⟩
   ·obtain ⟨w2,z2⟩:=I.cell y c' e
    exact ⟨w2,z2.sameBut hs hcc⟩
  ·obtain ⟨e,n,ne,nf,d⟩:=I.pin p hp
   refine ⟨(hs.2 p.1 ?_).trans e,n,ne,nf,d⟩
   intro q
   rw [q,hoc] at e
   have q':oc=p.2:=Option.some.inj e
   exact d w' (by rw [← q'];exact hocd)
theorem store_ok {M:Model} {A:Around} {E:Value→Shared→Prop} {i:Nat} {x:Str} {v:V} {u:Value} {Q:Unit→Shared→Prop} (I:Inv X pins σ H s) (hN:X.N.Nodup) (hi:X.N[i]?=some x) (hx:Loc X.env.scope x) (r:RelV v u)
  (h:∀ s',Inv X pins (σ.set i (some v)) H s'→Q () s') (hf:X.fn x=true∨X.env.scope.names.lookup x=some .local:=by first | exact .inl rfl | exact .inr rfl | assumption):wpAny M A (storeName X.env x u) Q E s:=
 store_ok2 I hN hi hx r (fun s' I' _=>h s' I') hf
theorem Inv.call' {s':Shared} {ch:List Addr} (I:Inv X pins σ H s) (ho:s'.os=s.os) (u:Un (frs X.stack) ch H H' s.heap s'.heap) (hok:HOk X.prog X.w H' s'.heap) (hg:AllBare s'.gens)
  (hch:∀ b∈ch,(b∈X.ex∨X.s₀.heap.objs.size≤b)∧b≠X.env.locals∧(∀ x c,X.env.cells.lookup x=some c→c≠b)∧∀ p∈X.pn++pins,p.1≠b):Inv X pins σ H' s':=by
 obtain ⟨h',g',d',t',o'⟩:=s'
 have e:o'=s.os:=ho
 subst e
 exact I.call (g':=g') (t':=t') (d':=d') u hok hg hch
end
abbrev XK:=Value→Option Addr→Hp→Prop
abbrev St:=List (Option V)
abbrev VK:=V→Hp→Prop
abbrev TE:=St→Hp→VK→Prop
abbrev TT:=St→Hp→(Bool→Hp→Prop)→Prop
abbrev TA:=St→Hp→(List V→Hp→Prop)→Prop
structure Ends where
 nx:St→Hp→Prop
 rt:VK
 bk:St→Hp→Prop:=fun _ _=>False
 ct:St→Hp→Prop:=fun _ _=>False
abbrev TS:=Ends→St→Hp→Prop
def EP (X:Cx) (pins:List (Addr × Obj)) (σ:St) (Q:VK) (u:Value) (s':Shared):Prop:=∃ v H',Inv X pins σ H' s'∧RelV v u∧Q v H'
def TP (X:Cx) (pins:List (Addr × Obj)) (σ:St) (Q:Bool→Hp→Prop) (b:Bool) (s':Shared):Prop:=∃ H',Inv X pins σ H' s'∧Q b H'
def AP (X:Cx) (pins:List (Addr × Obj)) (σ:St) (Q:List V→Hp→Prop) (us:List Value) (s':Shared):Prop:=∃ vs H',Inv X pins σ H' s'∧Vals vs us∧Q vs H'
def SP (X:Cx) (pins:List (Addr × Obj)) (D:Ends) (f:Flow) (s':Shared):Prop:=
 match f with
 | .next=>∃ σ' H',Inv X pins σ' H' s'∧D.nx σ' H'
 | .brk=>∃ σ' H',Inv X pins σ' H' s'∧D.bk σ' H'
 | .cont=>∃ σ' H',Inv X pins σ' H' s'∧D.ct σ' H'
 | .ret u=>∃ v σ' H',Inv X pins σ' H' s'∧RelV v u∧D.rt v H'
def PE (X:Cx) (e:Expr) (t:TE):Prop:=
 ∀ (pins:List (Addr × Obj)) (s:Shared) (σ:St) (H:Hp) (Q:VK),Inv X pins σ H s→t σ H Q→wpAny (model X.prog X.w) X.A (eval e X.env) (EP X pins σ Q) X.xe s
def PT (X:Cx) (e:Expr) (t:TT):Prop:=
 ∀ (pins:List (Addr × Obj)) (s:Shared) (σ:St) (H:Hp) (Q:Bool→Hp→Prop),Inv X pins σ H s→t σ H Q→wpAny (model X.prog X.w) X.A (isTrue e X.env (eval e X.env)) (TP X pins σ Q) X.xe s
def PW (X:Cx) (e:Expr) (t:TT):Prop:=
 ∀ (whole:Sem Value) (pins:List (Addr × Obj)) (s:Shared) (σ:St) (H:Hp) (Q:Bool→Hp→Prop),Inv X pins σ H s→t σ H Q→wpAny (model X.prog X.w) X.A (isTrue e X.env whole) (TP X pins σ Q) X.xe s
theorem PW.pt {X:Cx} {e:Expr} {t:TT} (h:PW X e t):PT X e t:=h _
def PA (X:Cx) (es:List Expr) (t:TA):Prop:=
 ∀ (pos:Pos) (pins:List (Addr × Obj)) (s:Shared) (σ:St) (H:Hp) (Q:List V→Hp→Prop),Inv X pins σ H s→t σ H Q→wpAny (model X.prog X.w) X.A (spliced (backTo pos (starEach es X.env))) (AP X pins σ Q) X.xe s
def PS (X:Cx) (st:Stmt) (t:TS):Prop:=
 ∀ (pins:List (Addr × Obj)) (s:Shared) (σ:St) (H:Hp) (D:Ends),Inv X pins σ H s→t D σ H→wpAny (model X.prog X.w) X.A (exec st X.env) (SP X pins D) X.xe s
def PSs (X:Cx) (st:List Stmt) (t:TS):Prop:=
 ∀ (pins:List (Addr × Obj)) (s:Shared) (σ:St) (H:Hp) (D:Ends),Inv X pins σ H s→t D σ H→wpAny (model X.prog X.w) X.A (execs st X.env) (SP X pins D) X.xe s
theorem thn {α:Type} {t:Sem α} {Q Q':α→Shared→Prop} {M:Model} {A:Around} {E:Value→Shared→Prop} {s:Shared} (h:wpAny M A t Q E s) (hQ:∀ a s,Q a s→Q' a s):wpAny M A t Q' E s:=wpAny_mono h hQ fun _ _ x=>x
end L2
namespace L2
open PySem PySem.Spec PyProof.Rows
section
variable {X:Cx}
inductive ItVar (i:Nat) (σ:St) (H:Hp) (Q:VK):Prop
 | mk (v:_) (h1:σ[i]?=some (some v)) (h2:Q v H):ItVar i σ H Q
def tVar (i:Nat):TE:=fun σ H Q=>ItVar i σ H Q
def tC (v:V):TE:=fun _ H Q=>Q v H
theorem pe_var {i:Nat} {x:Str} {pos:Pos} (hN:X.N[i]?=some x) (hv:Vis X.env.scope x) (hd:(x == ("__debug__":Str))=false:=by decide) (hcd:(x == ("__classdict__":Str))=false:=by decide):PE X (.Name x pos) (tVar i):=by
 intro pins s σ H Q I h
 obtain ⟨v,e,h⟩:=h
 obtain ⟨m,hn,hl⟩:=I.loc
 obtain ⟨u,r,l⟩:=hl i x v hN e hv
 have fin:EP X pins σ Q u s:=⟨v,H,I,r,h⟩
 rcases l with ⟨hk,hm⟩ | ⟨hk,c,hc,hcell⟩
 ·exact wpAny_Name (wpAny_loadName_local I.ok.kind hk hn hm fin) hd
 ·rcases hk with hk | hk
  ·exact wpAny_Name (wpAny_loadName_cell I.ok.kind hk hc hcell fin) hd
  ·exact wpAny_Name (wpAny_loadName_free I.ok.kind hk hc hcell fin hcd) hd
theorem pe_int {i j pos}:PE X (.Constant (.int i) j pos) (tC (.int i)):=fun _ _ _ H _ I h=>wpAny_Constant_int ⟨.int i,H,I.tok _,⟨_,rfl⟩,h⟩
theorem pe_bl {b j pos}:PE X (.Constant (.bool b) j pos) (tC (.bl b)):=fun _ _ _ H _ I h=>Constant_bool ⟨.bl b,H,I,rfl,h⟩
theorem pe_non {j pos}:PE X (.Constant .none j pos) (tC .non):=fun _ _ _ H _ I h=>Constant_none ⟨.non,H,I,rfl,h⟩
theorem pe_str {x j pos}:PE X (.Constant (.str x) j pos) (tC (.str x)):=fun _ _ _ H _ I h=>Calls.Constant_str ⟨.str x,H,I.tok _,⟨_,rfl⟩,h⟩
def Gl (X:Cx) (x:Str):Prop:=X.env.kindOf x=some .globalImplicit
theorem ld_glob {E:Value→Shared→Prop} {pins:List (Addr × Obj)} {s:Shared} {σ:St} {H:Hp} {x:Str} {u:Value} {pos:Pos} {Q:Value→Shared→Prop} (I:Inv X pins σ H s) (hg:Gl X x) (hm:X.mg x=some u) (h:Q u s)
  (hd:(x == ("__debug__":Str))=false:=by decide):wpAny (model X.prog X.w) X.A (eval (.Name x pos) X.env) Q E s:=
 Calls.Name_function_global I.ok.kind hg (Calls.loadGlobal_global (by rw [I.ok.glob];exact I.mod.glob.keeps I.bk) hm h) hd
theorem ld_blt {E:Value→Shared→Prop} {pins:List (Addr × Obj)} {s:Shared} {σ:St} {H:Hp} {x:Str} {u:Value} {pos:Pos} {Q:Value→Shared→Prop} (I:Inv X pins σ H s) (hg:Gl X x) (hm:X.mg x=none) (hv:bootBuiltins x=some u) (h:Q u s)
  (hn:x≠"__name__":=by decide) (hd:(x == ("__debug__":Str))=false:=by decide):wpAny (model X.prog X.w) X.A (eval (.Name x pos) X.env) Q E s:=by
 obtain ⟨mb,h1,h2⟩:=I.mod.blt
 exact Calls.Name_function_global I.ok.kind hg (Calls.loadGlobal_builtin (by rw [I.ok.glob];exact I.mod.glob.keeps I.bk) hm (by rw [I.ok.blt];exact h1.keeps I.bk) ((h2 x hn).trans hv) h) hd
theorem pe_glob {x:Str} {v:V} {u:Value} {pos:Pos} (hg:Gl X x) (hm:X.mg x=some u) (r:RelV v u) (hd:(x == ("__debug__":Str))=false:=by decide):PE X (.Name x pos) (tC v):=
 fun _ _ _ H _ I h=>ld_glob I hg hm ⟨v,H,I,r,h⟩ hd
theorem pe_bltn {x:Str} {v:V} {u:Value} {pos:Pos} (hg:Gl X x) (hm:X.mg x=none) (hv:bootBuiltins x=some u) (r:RelV v u) (hn:x≠"__name__":=by decide) (hd:(x == ("__debug__":Str))=false:=by decide):PE X (.Name x pos) (tC v):=
 fun _ _ _ H _ I h=>ld_blt I hg hm hv ⟨v,H,I,r,h⟩ hn hd
def t2I (ta tb:TE) (k:Int→Int→Hp→Prop):St→Hp→Prop:=fun σ H=>ta σ H fun x H1=>tb σ H1 fun y H2=>∃ i j,x=.int i∧y=.int j∧k i j H2
def tAdd (ta tb:TE):TE:=fun σ H Q=>t2I ta tb (fun i j H2=>Q (.int (i+j)) H2) σ H
def tSub (ta tb:TE):TE:=fun σ H Q=>t2I ta tb (fun i j H2=>Q (.int (i-j)) H2) σ H
def tMul (ta tb:TE):TE:=fun σ H Q=>t2I ta tb (fun i j H2=>(-(2 ^ 64)<i∧i<2 ^ 64)∧Q (.int (i*j)) H2) σ H
variable {a b:Expr} {ta tb:TE} {pos:Pos}
def PC (X:Cx) (op:CmpOp) (a b:Expr) (t:TE):Prop:=
 ∀ (pins:List (Addr × Obj)) (s:Shared) (σ:St) (H:Hp) (Q:VK),Inv X pins σ H s→t σ H Q→
  wpAny (model X.prog X.w) X.A (eval a X.env) (fun v s₁=>wpAny (model X.prog X.w) X.A (eval b X.env) (fun u s₂=>wpAny (model X.prog X.w) X.A (compareOp op v u) (EP X pins σ Q) X.xe s₂) X.xe s₁) X.xe s
def tCmp (p:Int→Int→Bool) (ta tb:TE):TE:=fun σ H Q=>t2I ta tb (fun i j H2=>Q (.bl (p i j)) H2) σ H
abbrev tLt:TE→TE→TE:=tCmp fun i j=>decide (i<j)
abbrev tLe:TE→TE→TE:=tCmp fun i j=>decide (i≤j)
abbrev tGt:TE→TE→TE:=tCmp fun i j=>decide (j<i)
abbrev tGe:TE→TE→TE:=tCmp fun i j=>decide (j≤i)
abbrev tEqI:TE→TE→TE:=tCmp fun i j=>decide (i=j)
abbrev tNeI:TE→TE→TE:=tCmp fun i j=>!decide (i=j)
def tIsN (ta:TE):TE:=fun σ H Q=>ta σ H fun x H1=>Q (.bl (decide (x=.non))) H1
def tNotN (ta:TE):TE:=fun σ H Q=>ta σ H fun x H1=>Q (.bl (!decide (x=.non))) H1
inductive ItB (Q:Bool→Hp→Prop) (x:V) (H1:Hp):Prop
 | mk (c:_) (h1:x=.bl c) (h2:Q c H1):ItB Q x H1
def tB (t:TE):TT:=fun σ H Q=>t σ H fun x H1=>ItB Q x H1
theorem pt_cmp {op:CmpOp} {t:TE} (h:PC X op a b t) (h1:behindInMarks op b=false:=by first | exact nobehind _ (by decide) (by decide) | rfl):PT X (.Compare a [op] [b] pos) (tB t):=by
 intro pins s σ H Q I hw
 refine wpAny_isTrue_Compare1 (thn (h pins s σ H _ I hw) fun v s1 h1=>thn h1 fun u s2 h2=>thn h2 fun c s3 ⟨x,H1,I1,r1,q1⟩=>?_) h1
 obtain ⟨d,rfl,q⟩:=q1
 cases r1
 exact wpAny_truthy_bool ⟨H1,I1,q⟩
theorem pt_val {e:Expr} {t:TE} (h:PE X e t) (he:∀ whole,isTrue e X.env whole=(do let v ← whole;standAt e.pos;holding [v] (truthy v)):=by intro _;rfl):PT X e (tB t):=by
 intro pins s σ H Q I hw
 refine isTrue_plain (thn (h pins s σ H _ I hw) fun v s1 ⟨x,H1,I1,r1,q1⟩=>?_) (he _)
 obtain ⟨d,rfl,q⟩:=q1
 cases r1
 exact wpAny_truthy_bool ⟨H1,I1,q⟩
variable {tA tB':TT} {rest:List Expr}
def tAnd (t u:TT):TT:=fun σ H Q=>t σ H fun c H1=>if c=true then u σ H1 Q else Q false H1
def tOr (t u:TT):TT:=fun σ H Q=>t σ H fun c H1=>if c=true then Q true H1 else u σ H1 Q
def tNot (t:TT):TT:=fun σ H Q=>t σ H fun c H1=>Q (!c) H1
theorem pw_and1 (ha:PT X a tA):PW X (.BoolOp .And [a] pos) tA:=by
 intro wh pins s σ H Q I h
 refine isTrue_and (thn (ha pins s σ H Q I h) fun c s1 e=>?_)
 cases c with
 | true=>exact isTrue_and_nil e
 | false=>exact e
theorem pw_or1 (ha:PT X a tA):PW X (.BoolOp .Or [a] pos) tA:=by
 intro wh pins s σ H Q I h
 refine isTrue_or (thn (ha pins s σ H Q I h) fun c s1 e=>?_)
 cases c with
 | false=>exact isTrue_or_nil e
 | true=>exact e
theorem pw_and (ha:PT X a tA) (hb:PW X (.BoolOp .And (b::rest) pos) tB'):PW X (.BoolOp .And (a::b::rest) pos) (tAnd tA tB'):=by
 intro wh pins s σ H Q I h
 refine isTrue_and (thn (ha pins s σ H _ I h) fun c s1 ⟨H1,I1,q1⟩=>?_)
 cases c with
 | true=>exact hb wh pins s1 σ H1 Q I1 q1
 | false=>exact ⟨H1,I1,q1⟩
theorem pw_or (ha:PT X a tA) (hb:PW X (.BoolOp .Or (b::rest) pos) tB'):PW X (.BoolOp .Or (a::b::rest) pos) (tOr tA tB'):=by
 intro wh pins s σ H Q I h
 refine isTrue_or (thn (ha pins s σ H _ I h) fun c s1 ⟨H1,I1,q1⟩=>?_)
 cases c with
 | true=>exact ⟨H1,I1,q1⟩
 | false=>exact hb wh pins s1 σ H1 Q I1 q1
theorem pt_not (ha:PT X a tA):PT X (.UnaryOp .Not a pos) (tNot tA):=by
 intro pins s σ H Q I h
 exact isTrue_not (ha pins s σ H (fun c H1=>Q (!c) H1) I h)
def tAndV (ta tb:TE):TE:=fun σ H Q=>ta σ H fun x H1=>∃ c,x=.bl c∧if c=true then tb σ H1 Q else Q (.bl false) H1
def tOrV (ta tb:TE):TE:=fun σ H Q=>ta σ H fun x H1=>∃ c,x=.bl c∧if c=true then Q (.bl true) H1 else tb σ H1 Q
def tNotV (ta:TE):TE:=fun σ H Q=>ta σ H fun x H1=>∃ c,x=.bl c∧Q (.bl (!c)) H1
theorem pe_one {op} {t:TE} (h:PE X a t):PE X (.BoolOp op [a] pos) t:=fun pins s σ H Q I hw=>BoolOp_one (h pins s σ H Q I hw)
theorem pe_and (ha:PE X a ta) (hb:PE X (.BoolOp .And (b::rest) pos) tb):PE X (.BoolOp .And (a::b::rest) pos) (tAndV ta tb):=by
 intro pins s σ H Q I h
 refine BoolOp_and (thn (ha pins s σ H _ I h) fun v s1 ⟨x,H1,I1,r1,q1⟩=>?_)
 obtain ⟨c,rfl,q1⟩:=q1
 cases r1
 refine wpAny_truthy_bool ?_
 cases c with
 | true=>exact hb pins s1 σ H1 Q I1 q1
 | false=>exact ⟨.bl false,H1,I1,rfl,q1⟩
theorem pe_not (ha:PE X a ta):PE X (.UnaryOp .Not a pos) (tNotV ta):=by
 intro pins s σ H Q I h
 refine UnaryOp_ (thn (ha pins s σ H _ I h) fun v s1 ⟨x,H1,I1,r1,q1⟩=>?_)
 obtain ⟨c,rfl,q1⟩:=q1
 cases r1
 exact not_of (wpAny_truthy_bool ⟨.bl (!c),H1,I1,rfl,q1⟩)
def tIf (t:TT) (ta tb:TE):TE:=fun σ H Q=>t σ H fun c H1=>if c=true then ta σ H1 Q else tb σ H1 Q
theorem pe_ifExp {c:Expr} (hc:PT X c tA) (ha:PE X a ta) (hb:PE X b tb):PE X (.IfExp c a b pos) (tIf tA ta tb):=by
 intro pins s σ H Q I h
 refine wpAny_IfExp (thn (hc pins s σ H _ I h) fun d s1 ⟨H1,I1,q1⟩=>?_)
 cases d with
 | true=>exact ha pins s1 σ H1 Q I1 q1
 | false=>exact hb pins s1 σ H1 Q I1 q1
end
end L2
namespace L2
open PySem PySem.Spec PyProof.Rows
def SqL (K:PySem.W.Frag) (H:Hp) (a:Addr) (xs:List V):Prop:=
 Rd H a (.lst xs)∨
  ∃ (o:Obj) (its:Array Value) (n:Nat),K.lookup a=some o∧o.cls=.type "list"∧o.dict=none∧o.data=.seq its n∧its.size≤sizeLine∧Vals xs its.toList
def SqT (K:PySem.W.Frag) (H:Hp) (a:Addr) (xs:List V):Prop:=
 Rd H a (.tup xs)∨
  ∃ (o:Obj) (its:Array Value) (n:Nat),K.lookup a=some o∧o.cls=.type "tuple"∧o.data=.seq its n∧its.size≤sizeLine∧Vals xs its.toList
def absV:Value→Option V
 | .none=>some .non
 | .bool b=>some (.bl b)
 | .int i _=>some (.int i)
 | .str x _=>some (.str x)
 | .bytes b _=>some (.byt b)
 | .float b _=>some (.flt b)
 | .ref a=>some (.ref a)
 | .type n=>some (.ty n)
 | _=>none
theorem RelV.abs {x:V} {u:Value} (r:RelV x u):absV u=some x:=by
 cases x with
 | non=>cases r;rfl
 | bl _=>cases r;rfl
 | int _=>obtain ⟨t,rfl⟩:=r;rfl
 | str _=>obtain ⟨t,rfl⟩:=r;rfl
 | byt _=>obtain ⟨t,rfl⟩:=r;rfl
 | flt _=>obtain ⟨t,rfl⟩:=r;rfl
 | ref _=>cases r;rfl
 | ty _=>cases r;rfl
theorem RelV.inj {x y:V} {u:Value} (r:RelV x u) (q:RelV y u):x=y:=Option.some.inj (r.abs.symm.trans q.abs)
theorem Vals.inj:∀ {xs ys:List V} {us:List Value},Vals xs us→Vals ys us→xs=ys
 | _,_,_,.nil,.nil=>rfl
 | _,_,_,.cons r t,.cons r' t'=>by rw [r.inj r',Vals.inj t t']
section
variable {X:Cx} {pins:List (Addr × Obj)} {σ:St} {H:Hp} {s:Shared} {a:Addr} {xs ys:List V}
theorem SqL.of {K:PySem.W.Frag} (h:H a=some (.lst xs)):SqL K H a xs:=.inl (.inl h)
theorem SqT.of {K:PySem.W.Frag} (h:H a=some (.tup xs)):SqT K H a xs:=.inl (.inl h)
theorem Inv.list (I:Inv X pins σ H s) (h:SqL X.K H a xs):∃ its:List Value,Vals xs its∧PlainL s.heap a its.toArray∧xs.length≤sizeLine:=by
 rcases h with h | ⟨o,its,n,hk,hc,hd,hs,hz,r⟩
 ·obtain ⟨z,its,n,r,e⟩:=h.ok I.hok
  exact ⟨its,r,⟨_,n,e,rfl,rfl,rfl⟩,z⟩
 ·refine ⟨its.toList,r,⟨o,n,I.kIn a o hk,hc,hd,by simpa using hs⟩,?_⟩
  have e:=r.length
  simp only [Array.length_toList] at e
  omega
theorem Inv.tuple (I:Inv X pins σ H s) (h:SqT X.K H a xs):∃ its:List Value,Vals xs its∧IsTup s.heap a its.toArray∧xs.length≤sizeLine:=by
 rcases h with h | ⟨o,its,n,hk,hc,hs,hz,r⟩
 ·obtain ⟨z,its,r,p⟩:=h.ok I.hok
  exact ⟨its,r,p,z⟩
 ·refine ⟨its.toList,r,⟨o,I.kIn a o hk,hc,n,by simpa using hs⟩,?_⟩
  have e:=r.length
  simp only [Array.length_toList] at e
  omega
theorem Inv.list_inj (I:Inv X pins σ H s) (h:SqL X.K H a xs) (h':SqL X.K H a ys):xs=ys:=by
 obtain ⟨its,r,⟨o,n,e,_,_,d⟩,_⟩:=I.list h
 obtain ⟨its',r',⟨o',n',e',_,_,d'⟩,_⟩:=I.list h'
 rw [e] at e';cases e'
 rw [d] at d'
 injection d' with d1 _
 have:its=its':=by simpa using congrArg Array.toList d1
 subst this
 exact r.inj r'
theorem Inv.tuple_inj (I:Inv X pins σ H s) (h:SqT X.K H a xs) (h':SqT X.K H a ys):xs=ys:=by
 obtain ⟨its,r,⟨o,e,_,n,d⟩,_⟩:=I.tuple h
 obtain ⟨its',r',⟨o',e',_,n',d'⟩,_⟩:=I.tuple h'
 rw [e] at e';cases e'
 rw [d] at d'
 injection d' with d1 _
 have:its=its':=by simpa using congrArg Array.toList d1
 subst this
 exact r.inj r'
end
abbrev Cx.wish (X:Cx) (E:Value→Shared→Prop):Cx:={ X with xe:=E }
abbrev Cx.nox (X:Cx):Cx:=X.wish fun _ _=>False
theorem Cx.Ok.wish {X:Cx} (ok:X.Ok) (E:Value→Shared→Prop):(X.wish E).Ok:=
 ⟨ok.mod,ok.kind,ok.glob,ok.blt,ok.above,ok.inj,ok.has,ok.cab,ok.hd,ok.frames,ok.stk,ok.exf,ok.bs,ok.bsz,ok.noex,ok.exfs,ok.funs,ok.frf⟩
theorem Cx.Ok.unwish {X:Cx} {E:Value→Shared→Prop} (ok:(X.wish E).Ok):X.Ok:=
 ⟨ok.mod,ok.kind,ok.glob,ok.blt,ok.above,ok.inj,ok.has,ok.cab,ok.hd,ok.frames,ok.stk,ok.exf,ok.bs,ok.bsz,ok.noex,ok.exfs,ok.funs,ok.frf⟩
section
variable {X:Cx} {pins:List (Addr × Obj)} {σ:St} {H:Hp} {s:Shared} {E:Value→Shared→Prop}
theorem Inv.wish (I:Inv X pins σ H s) (E:Value→Shared→Prop):Inv (X.wish E) pins σ H s:=⟨I.ok.wish E,I.os,I.bare,I.base,I.loc,I.cell,I.free,I.freeC,I.pin,I.hok,I.len⟩
theorem Inv.unwish (I:Inv (X.wish E) pins σ H s):Inv X pins σ H s:=⟨I.ok.unwish,I.os,I.bare,I.base,I.loc,I.cell,I.free,I.freeC,I.pin,I.hok,I.len⟩
theorem SP.unwish {D:Ends} {f:Flow} {s':Shared} (h:SP (X.wish E) pins D f s'):SP X pins D f s':=by
 cases f with
 | next=>obtain ⟨σ',H',I,q⟩:=h;exact ⟨σ',H',I.unwish,q⟩
 | brk=>obtain ⟨σ',H',I,q⟩:=h;exact ⟨σ',H',I.unwish,q⟩
 | cont=>obtain ⟨σ',H',I,q⟩:=h;exact ⟨σ',H',I.unwish,q⟩
 | ret u=>obtain ⟨v,σ',H',I,r,q⟩:=h;exact ⟨v,σ',H',I.unwish,r,q⟩
theorem PSs.nox {st:List Stmt} {t:TS} (h:PSs X.nox st t):PSs X st t:=fun pins s σ H D I hw=>
 wpAny_mono (h pins s σ H D (I.wish _) hw) (fun _ _ q=>q.unwish) fun _ _ z=>False.elim z
end
section
variable {X:Cx} {st:Stmt} {rest:List Stmt} {t u:TS} {e:Expr} {te:TE} {pos:Pos}
def tNext:TS:=fun D σ H=>D.nx σ H
def tSeq (t u:TS):TS:=fun D σ H=>t { D with nx:=u D } σ H
theorem pss_nil:PSs X [] tNext:=fun _ _ σ H _ I h=>wpAny_execs_nil ⟨σ,H,I,h⟩
theorem pss_cons (h1:PS X st t) (h2:PSs X rest u):PSs X (st::rest) (tSeq t u):=by
 intro pins s σ H D I h
 refine wpAny_execs_cons (thn (h1 pins s σ H { D with nx:=u D } I h) fun f s1 q=>?_)
 cases f with
 | next=>
  obtain ⟨σ',H',I',q⟩:=q
  exact h2 pins s1 σ' H' D I' q
 | ret v=>exact q
 | brk=>exact q
 | cont=>exact q
theorem pss_one (h1:PS X st t):PSs X [st] t:=by
 intro pins s σ H D I h
 refine wpAny_execs_cons (thn (h1 pins s σ H D I h) fun f s1 q=>?_)
 cases f with
 | next=>exact wpAny_execs_nil q
 | ret v=>exact q
 | brk=>exact q
 | cont=>exact q
def tBreak:TS:=fun D σ H=>D.bk σ H
def tCont:TS:=fun D σ H=>D.ct σ H
theorem Inv.quiet {pins:List (Addr × Obj)} {σ:St} {H:Hp} {s:Shared} (I:Inv X pins σ H s):interactive X.env=false:=by simp [interactive,I.ok.kind]
def tDrop (te:TE):TS:=fun D σ H=>te σ H fun _ H1=>D.nx σ H1
theorem ps_expr (he:PE X e te) (hs:swapsWith e none pos.line X.env=pure false:=by rfl):PS X (.Expr e pos) (tDrop te):=by
 intro pins s σ H D I h
 exact wpAny_Expr_any (thn (he pins s σ H _ I h) fun v s1 ⟨x,H1,I1,r1,q1⟩=>⟨σ,H1,I1,q1⟩) I.quiet hs
def tRet (te:TE):TS:=fun D σ H=>te σ H D.rt
theorem ps_ret (he:PE X e te):PS X (.Return (some e) pos) (tRet te):=by
 intro pins s σ H D I h
 exact wpAny_Return_some (thn (he pins s σ H _ I h) fun v s1 ⟨x,H1,I1,r1,q1⟩=>⟨x,σ,H1,I1,r1,q1⟩)
def tRetN:TS:=fun D _ H=>D.rt .non H
def tIfS (c:TT) (t u:TS):TS:=fun D σ H=>c σ H fun b H1=>if b=true then t D σ H1 else u D σ H1
theorem ps_if {c:Expr} {a b:List Stmt} {tc:TT} (hc:PT X c tc) (ha:PSs X a t) (hb:PSs X b u):PS X (.If c a b pos) (tIfS tc t u):=by
 intro pins s σ H D I h
 refine wpAny_If (thn (hc pins s σ H _ I h) fun d s1 ⟨H1,I1,q1⟩=>?_)
 cases d with
 | true=>exact ha pins s1 σ H1 D I1 q1
 | false=>exact hb pins s1 σ H1 D I1 q1
def tNever:TS:=fun _ _ _=>False
theorem ps_never:PS X st tNever:=fun _ _ _ _ _ _ h=>h.elim
end
abbrev TG:=V→St→Hp→(St→Hp→Prop)→Prop
abbrev TGs:=List V→St→Hp→(St→Hp→Prop)→Prop
def PG (X:Cx) (target:Expr) (t:TG):Prop:=
 ∀ (pins:List (Addr × Obj)) (s:Shared) (σ:St) (H:Hp) (v:V) (u:Value) (Q:St→Hp→Prop),Inv X pins σ H s→RelV v u→t v σ H Q→
  wpAny (model X.prog X.w) X.A (assign target X.env u) (fun _ s'=>∃ σ' H',Inv X pins σ' H' s'∧Q σ' H') X.xe s
def PGs (X:Cx) (ts:List Expr) (t:TGs):Prop:=
 ∀ (pins:List (Addr × Obj)) (s:Shared) (σ:St) (H:Hp) (vs:List V) (us:List Value) (Q:St→Hp→Prop),Inv X pins σ H s→Vals vs us→t vs σ H Q→
  wpAny (model X.prog X.w) X.A (assignInOrder ((assignEach ts X.env).map (·.2)) us) (fun _ s'=>∃ σ' H',Inv X pins σ' H' s'∧Q σ' H') X.xe s
abbrev TSet:=V→V→V→Hp→(Hp→Prop)→Prop
def PSet (X:Cx) (t:TSet):Prop:=
 ∀ (pins:List (Addr × Obj)) (s:Shared) (σ:St) (H:Hp) (o i v:V) (ov iv u:Value) (Q:Hp→Prop),Inv X pins σ H s→RelV o ov→RelV i iv→RelV v u→t o i v H Q→
  wpAny (model X.prog X.w) X.A (setItem ov iv u) (fun _ s'=>∃ H',Inv X pins σ H' s'∧Q H') X.xe s
abbrev TIp:=V→V→Hp→VK→Prop
def PIp (X:Cx) (op:Operator) (t:TIp):Prop:=
 ∀ (pins:List (Addr × Obj)) (s:Shared) (σ:St) (H:Hp) (x y:V) (v u:Value) (Q:VK),Inv X pins σ H s→RelV x v→RelV y u→t x y H Q→
  wpAny (model X.prog X.w) X.A (inplaceOp op v u) (EP X pins σ Q) X.xe s
section
variable {X:Cx} {pos:Pos}
def gName (i:Nat):TG:=fun v σ H Q=>Q (σ.set i (some v)) H
theorem pg_name {i:Nat} {x:Str} (hN:X.N.Nodup) (hi:X.N[i]?=some x) (hx:Loc X.env.scope x) (hf:X.fn x=true∨X.env.scope.names.lookup x=some .local:=by first | exact .inl rfl | exact .inr rfl | assumption):PG X (.Name x pos) (gName i):=by
 intro pins s σ H v u Q I r h
 exact wpAny_assign_Name (store_ok I hN hi hx r (fun s' I'=>⟨_,H,I',h⟩) hf)
def gNil:TGs:=fun vs σ H Q=>vs=[]∧Q σ H
inductive IgCons (t:TG) (u:TGs) (vs:List V) (σ:St) (H:Hp) (Q:St→Hp→Prop):Prop
 | mk (v:_) (r:_) (h1:vs=v::r) (h2:t v σ H fun σ' H'=>u r σ' H' Q):IgCons t u vs σ H Q
def gCons (t:TG) (u:TGs):TGs:=fun vs σ H Q=>IgCons t u vs σ H Q
theorem pgs_nil:PGs X [] gNil:=by
 intro pins s σ H vs us Q I r h
 obtain ⟨e,h⟩:=h
 subst e
 cases r
 exact assignInOrder_nil ⟨σ,H,I,h⟩
theorem pgs_cons {e:Expr} {es:List Expr} {t:TG} {u:TGs} (h1:PG X e t) (h2:PGs X es u)
  (hs:(assignEach (e::es) X.env).map (·.2)=assign e X.env::(assignEach es X.env).map (·.2):=by rfl):PGs X (e::es) (gCons t u):=by
 intro pins s σ H vs us Q I r h
 obtain ⟨v,vr,e1,h⟩:=h
 subst e1
 cases r with
 | cons r rr=>
  rw [hs]
  refine assignInOrder_cons (thn (h1 pins s σ H _ _ _ I r h) fun _ s1 ⟨σ1,H1,I1,q1⟩=>?_)
  exact h2 pins s1 σ1 H1 _ _ Q I1 rr q1
inductive IgTup (K:PySem.W.Frag) (n:Nat) (t:TGs) (v:V) (σ:St) (H:Hp) (Q:St→Hp→Prop):Prop
 | mk (a:_) (xs:_) (h1:v=.ref a) (h2:SqT K H a xs) (h3:xs.length=n) (h4:t xs σ H Q):IgTup K n t v σ H Q
def gTup (K:PySem.W.Frag) (n:Nat) (t:TGs):TG:=fun v σ H Q=>IgTup K n t v σ H Q
theorem pg_tup {es:List Expr} {k:Nat} {t:TGs} {n:Nat} (hc:X.calm=true) (h:PGs X es t)
  (hn:(assignEach es X.env).length=n:=by rfl) (hst:(assignEach es X.env).findIdx? (·.1)=none:=by rfl):PG X (.Tuple es k pos) (gTup X.K n t):=by
 intro pins s σ H v u Q I r hw
 obtain ⟨a,xs,e1,hq,hl,hw⟩:=hw
 subst e1
 cases r
 obtain ⟨its,rv,ht,hz⟩:=I.tuple hq
 refine assign_Tuple_tuple (I.ok.hd hc) ht (by simp [hn,← hl,rv.length]) hst fun h' hx=>?_
 have I1:Inv X pins σ H { s with heap:=h' }:=I.kept (t':=s.toks) fun b o e=>hx b o (Nat.ne_of_lt (Heap.lt_size e)) e
 exact h pins _ σ H xs _ Q I1 (by simpa using rv) hw
def gSub (to ti:TE) (t:TSet):TG:=fun v σ H Q=>to σ H fun o H1=>ti σ H1 fun i H2=>t o i v H2 fun H3=>Q σ H3
theorem pg_sub {o i:Expr} {to ti:TE} {t:TSet} (ho:PE X o to) (hi:PE X i ti) (hs:PSet X t)
  (ha:∀ v,assign (.Subscript o i pos) X.env v=(do
   let ov ← holding [v] (eval o X.env)
   let iv ← holding [v,ov] (eval i X.env)
   standAt pos
   holding [v,ov,iv] (setItem ov iv v)
   release [v,ov,iv] []):=by intro _;rfl):PG X (.Subscript o i pos) (gSub to ti t):=by
 intro pins s σ H v u Q I r h
 rw [ha]
 refine wpAny_bind (wpAny_holding (thn (ho pins s σ H _ I h) fun ov s1 ⟨x,H1,I1,r1,q1⟩=>?_))
 refine wpAny_bind (wpAny_holding (thn (hi pins s1 σ H1 _ I1 q1) fun iv s2 ⟨y,H2,I2,r2,q2⟩=>?_))
 refine wpAny_bind (wpAny_standAt (wpAny_bind (wpAny_holding (thn (hs pins s2 σ H2 x y v ov iv u _ I2 r1 r2 r q2) fun _ s3 ⟨H3,I3,q3⟩=>?_))))
 exact wpAny_release ⟨σ,H3,I3,q3⟩
def tAsg (te:TE) (g:TG):TS:=fun D σ H=>te σ H fun x H1=>g x σ H1 D.nx
theorem ps_asg {tg e:Expr} {te:TE} {g:TG} (he:PE X e te) (hg:PG X tg g) (hs:swapsWithSole [tg] e pos.line X.env=pure false:=by rfl) (hw:swappedStores [tg] e X.env=pure none:=by rfl)
  (h1:(assignEach [tg] X.env).map (·.2)=[assign tg X.env]:=by rfl):PS X (.Assign [tg] e pos) (tAsg te g):=by
 intro pins s σ H D I h
 refine wpAny_Assign_stores (thn (he pins s σ H _ I h) fun v s1 ⟨x,H1,I1,r1,q1⟩=>?_) hs hw
 rw [h1]
 exact thn (hg pins s1 σ H1 x v _ I1 r1 q1) fun _ s2 q=>q
theorem ps_set {i:Nat} {x:Str} {e:Expr} {te:TE} {pos':Pos} (hN:X.N.Nodup) (hi:X.N[i]?=some x) (hx:Loc X.env.scope x) (he:PE X e te) (hs:swapsWith e (some (.Name x pos')) pos.line X.env=pure false:=by rfl) (hf:X.fn x=true∨X.env.scope.names.lookup x=some .local:=by first | exact .inl rfl | exact .inr rfl | assumption) :
  PS X (.Assign [.Name x pos'] e pos) (tAsg te (gName i)):=by
 intro pins s σ H D I h
 refine wpAny_Assign_Name (thn (he pins s σ H _ I h) fun v s1 ⟨y,H1,I1,r1,q1⟩=>?_) hs
 exact store_ok I1 hN hi hx r1 (fun s2 I2=>⟨_,H1,I2,q1⟩) hf
inductive ItPar (i:Nat) (j:Nat) (D:Ends) (σ:St) (vs:List V) (H1:Hp):Prop
 | mk (v:_) (w:_) (h1:vs=[v,w]) (h2:D.nx ((σ.set i (some v)).set j (some w)) H1):ItPar i j D σ vs H1
def tPar (i j:Nat) (ta:TA):TS:=fun D σ H=>ta σ H fun vs H1=>ItPar i j D σ vs H1
def tAug (i:Nat) (te:TE) (ti:TIp):TS:=fun D σ H=>∃ x,σ[i]?=some (some x)∧te σ H fun y H1=>ti x y H1 fun z H2=>D.nx (σ.set i (some z)) H2
def tAugS (to ti te:TE) (tget:V→V→Hp→VK→Prop) (tip:TIp) (tset:TSet):TS:=fun D σ H=>to σ H fun o H1=>ti σ H1 fun i H2=>tget o i H2 fun x H3=>te σ H3 fun y H4=>tip x y H4 fun z H5=>tset o i z H5 fun H6=>D.nx σ H6
def PGet (X:Cx) (t:V→V→Hp→VK→Prop):Prop:=
 ∀ (pins:List (Addr × Obj)) (s:Shared) (σ:St) (H:Hp) (o i:V) (ov iv:Value) (Q:VK),Inv X pins σ H s→RelV o ov→RelV i iv→t o i H Q→
  wpAny (model X.prog X.w) X.A (getItem ov iv) (EP X pins σ Q) X.xe s
def ipI (f:Int→Int→Int):TIp:=fun x y H Q=>∃ i j,x=.int i∧y=.int j∧Q (.int (f i j)) H
end
section
variable {X:Cx} {pos:Pos}
def tWhile (c:TT) (tb:TS):TS:=fun D σ H=>∃ W:Nat→St→Hp→Prop,(∃ m,W m σ H)∧∀ m σ H,W m σ H→
 c σ H fun b H1=>if b=true then ∃ N:St→Hp→Prop,(∀ σ' H',N σ' H'→∃ m',m'<m∧W m' σ' H')∧tb { D with nx:=N,ct:=N,bk:=D.nx } σ H1 else D.nx σ H1
theorem ps_while {c:Expr} {body:List Stmt} {tc:TT} {tb:TS} (hp:PassesOwn (model X.prog X.w) X.A X.env X.xe) (hc:PT X c tc) (hb:PSs X body tb):PS X (.While c body [] pos) (tWhile tc tb):=by
 intro pins s σ H D I h
 obtain ⟨W,⟨m0,w0⟩,turn⟩:=h
 refine wpAny_While (codeAny_whileLoop (fun n s'=>∃ σ' H',Inv X pins σ' H' s'∧W n σ' H') ?_ m0 ⟨σ,H,I,w0⟩)
 rintro n s1 ⟨σ1,H1,I1,w1⟩
 refine wpAny_passesOwn hp (thn (hc pins s1 σ1 H1 _ I1 (turn n σ1 H1 w1)) fun b s2 ⟨H2,I2,q2⟩=>?_)
 cases b with
 | true=>
  obtain ⟨N,hN,q2⟩:=q2
  rw [if_pos rfl]
  refine wpAny_passesOwn hp (thn (hb pins s2 σ1 H2 _ I2 q2) fun f s3 q3=>?_)
  cases f with
  | next=>
   obtain ⟨σ3,H3,I3,n3⟩:=q3
   obtain ⟨m',hm,w3⟩:=hN σ3 H3 n3
   exact ⟨m',hm,σ3,H3,I3,w3⟩
  | cont=>
   obtain ⟨σ3,H3,I3,n3⟩:=q3
   obtain ⟨m',hm,w3⟩:=hN σ3 H3 n3
   exact ⟨m',hm,σ3,H3,I3,w3⟩
  | brk=>exact q3
  | ret v=>exact q3
 | false=>
  rw [if_neg Bool.false_ne_true]
  exact wpAny_execs_nil ⟨σ1,H2,I2,q2⟩
end
structure It where
 go:Nat→Hp→Prop
 yld:Nat→Hp→V→Hp→Prop
 stop:Nat→Hp→Prop
def FpOk (X:Cx) (pins:List (Addr × Obj)) (H:Hp) (b:Addr):Prop:=
 H b=none∧b≠X.env.locals∧b ∉ X.fs∧(b∈X.ex∨X.s₀.heap.objs.size≤b)∧(∀ x c,X.env.cells.lookup x=some c→c≠b)∧∀ p∈X.pn++pins,p.1≠b
theorem Inv.fpOk {X:Cx} {pins:List (Addr × Obj)} {σ:St} {H H':Hp} {s:Shared} {b:Addr} (I:Inv X pins σ H s) (hb:s.heap.objs.size≤b) (hn:H' b=none):FpOk X pins H' b:=by
 refine ⟨hn,Nat.ne_of_gt (Nat.lt_of_lt_of_le I.lt hb),I.nofs hb,.inr (Nat.le_trans I.sz hb),fun x c e z=>?_,fun p hp z=>?_⟩
 ·obtain ⟨v,q⟩:=I.cell x c e
  exact absurd (Nat.lt_of_lt_of_le q.lt (by rw [z];exact hb)) (Nat.lt_irrefl _)
 ·exact absurd (Nat.lt_of_lt_of_le (Heap.lt_size (I.pin p hp).1) (by rw [z];exact hb)) (Nat.lt_irrefl _)
structure Turn (P:Program) (w:World) (K:PySem.W.Frag) (tg:Expr) (J:It) (fp:List Addr) (it:Addr) (tn:Nat→Heap→Prop):Prop where
 mem:it∈fp
 obj:∀ i h,tn i h→∀ b∈fp,∃ o,h.get? b=some o∧∀ v,o.data≠.cell v
 keep:∀ i h h',tn i h→(∀ b∈fp,∀ o,h.get? b=some o→h'.get? b=some o)→tn i h'
 item:∀ (X:Cx),X.prog=P→X.w=w→X.K=K→X.calm=true→∀ (i:Nat) (pins:List (Addr × Obj)) (s:Shared) (σ:St) (H:Hp) (E:Value→Shared→Prop),Inv X pins σ H s→(∀ b∈fp,FpOk X pins H b)→tn i s.heap→J.go i H→
  wpAny (model P w) X.A (pyNext (.ref it)) (fun r s1=>∃ u,r=some u∧
   wpAny (model P w) X.A (letOwnedTupleGo tg (.ref it) u) (fun _ s2=>∃ x H',Inv X pins σ H' s2∧RelV x u∧J.yld i H x H'∧tn (i+1) s2.heap∧∀ b∈fp,H' b=none) E s1) E s
 done:∀ (X:Cx),X.prog=P→X.w=w→X.K=K→X.calm=true→∀ (i:Nat) (pins:List (Addr × Obj)) (s:Shared) (σ:St) (H:Hp) (E:Value→Shared→Prop),Inv X pins σ H s→(∀ b∈fp,FpOk X pins H b)→tn i s.heap→J.stop i H→
  wpAny (model P w) X.A (pyNext (.ref it)) (fun r s1=>r=none∧Inv X pins σ H s1) E s
 self:∀ (A:Around) (i:Nat) (s:Shared) (Q:Value→Shared→Prop) (E:Value→Shared→Prop),tn i s.heap→Q (.ref it) s→wpAny (model P w) A (pyIter (.ref it)) Q E s
abbrev TI:=St→Hp→(It→Hp→Prop)→Prop
def PIE (X:Cx) (pins:List (Addr × Obj)) (σ:St) (tg:Expr) (R:It→Hp→Prop) (itv:Value) (s2:Shared):Prop:=
 ∃ (it:Addr) (fp:List Addr) (tn:Nat→Heap→Prop) (J:It) (H':Hp),itv=.ref it∧Inv X pins σ H' s2∧Turn X.prog X.w X.K tg J fp it tn∧tn 0 s2.heap∧(∀ b∈fp,FpOk X pins H' b)∧R J H'
def PI (X:Cx) (tg iter:Expr) (wi:TI):Prop:=
 ∀ (pins:List (Addr × Obj)) (s:Shared) (σ:St) (H:Hp) (R:It→Hp→Prop),Inv X pins σ H s→wi σ H R→
  wpAny (model X.prog X.w) X.A (eval iter X.env) (fun v s1=>wpAny (model X.prog X.w) X.A (pyIter v) (PIE X pins σ tg R) X.xe s1) X.xe s
theorem go_of {M:Model} {A:Around} {E:Value→Shared→Prop} {s:Shared} {tg:Expr} {it:Addr} {u:Value} {o:Obj} {n:String} {vs:Array Value} {Q:Unit→Shared→Prop} (ho:s.heap.get? it=some o) (hc:o.cls=.type n) (hd:o.data=.fields vs)
    (hn:["enumerate","zip","dict_itemiterator","dict_reverseitemiterator","odict_iterator","itertools.zip_longest","itertools.pairwise"].contains n=false) (hQ:Q () s):wpAny M A (letOwnedTupleGo tg (.ref it) u) Q E s:=by
  unfold letOwnedTupleGo
  cases tg <;> first
    | exact wpAny_pure hQ
    | (cases u <;> first
        | exact wpAny_pure hQ
        | (refine wpAny_bind (wpAny_load ho ?_)
           rw [hc,hd]
           show wpAny M A (if (["enumerate","zip","dict_itemiterator","dict_reverseitemiterator","odict_iterator","itertools.zip_longest","itertools.pairwise"].contains n && vs[0]? == some (rawInt _))=true then _ else _) Q E s
           rw [if_neg (by intro h;rw [hn,Bool.false_and] at h;cases h)]
           exact wpAny_pure hQ))
def Itl (K:PySem.W.Frag) (a:Addr):It:=
 ⟨fun i H=>∃ xs x,SqL K H a xs∧xs[i]?=some x,fun i H x H'=>H'=H∧∀ xs,SqL K H a xs→xs[i]?=some x,fun i H=>∃ xs,SqL K H a xs∧xs.length≤i⟩
def Itt (K:PySem.W.Frag) (a:Addr):It:=
 ⟨fun i H=>∃ xs x,SqT K H a xs∧xs[i]?=some x,fun i H x H'=>H'=H∧∀ xs,SqT K H a xs→xs[i]?=some x,fun i H=>∃ xs,SqT K H a xs∧xs.length≤i⟩
def Itr (lo:Int) (n:Nat):It:=⟨fun i _=>i<n,fun i H x H'=>H'=H∧x=.int (lo+i),fun i _=>n≤i⟩
theorem turn_list {P:Program} {w:World} {K:PySem.W.Frag} {tg:Expr} (a it:Addr):Turn P w K tg (Itl K a) [it] it (fun i h=>h.IsListIter it a i) where
 mem:=by simp
 obj:=fun i h st b hb=>by
  have e:b=it:=by simpa using hb
  subst e
  obtain ⟨o,e,c,d⟩:=st
  exact ⟨o,e,fun v z=>by rw [d] at z;cases z⟩
 keep:=fun i h h' st k=>st.at fun o e=>k it (by simp) o e
 item:=by
  intro X hP hw hK hc i pins s σ H E I hf st hg
  subst hP hw hK
  obtain ⟨xs,x,hq,hx⟩:=hg
  obtain ⟨its,rv,p,hz⟩:=I.list hq
  obtain ⟨u,hu,ru⟩:=rv.get hx
  obtain ⟨f0,f1,f2,f3,f4,f5⟩:=hf it (by simp)
  refine wpAny_pyNext_list_item st p.isList (x:=u) (by simpa using hu) fun h' st' sb=>?_
  have I1:Inv X pins σ H { s with heap:=h' }:=I.turned (t':=s.toks) (fun b o hb e=>(sb.2 b hb).trans e) f0 f1 f3 f4 f5
  obtain ⟨o,e,c,d⟩:=id st'
  exact ⟨u,rfl,go_of (s:={ s with heap:=h' }) e c d (by decide) ⟨x,H,I1,ru,⟨rfl,fun ys hy=>by rw [I.list_inj hy hq];exact hx⟩,st',fun b hb=>(hf b hb).1⟩⟩
 done:=by
  intro X hP hw hK hc i pins s σ H E I hf st hg
  subst hP hw hK
  obtain ⟨xs,hq,hx⟩:=hg
  obtain ⟨its,rv,p,hz⟩:=I.list hq
  obtain ⟨f0,f1,f2,f3,f4,f5⟩:=hf it (by simp)
  have hl:=rv.length
  exact wpAny_pyNext_list_end (I.ok.hd hc) st p.isList (by simp;omega) fun h' eb=>⟨rfl,I.turned (t':=s.toks) (fun b o hb e=>eb b o hb e) f0 f1 f3 f4 f5⟩
 self:=fun _ _ _ _ _ st h=>wpAny_pyIter_listiter st h
theorem turn_tuple {P:Program} {w:World} {K:PySem.W.Frag} {tg:Expr} (a it:Addr):Turn P w K tg (Itt K a) [it] it (fun i h=>h.IsTupleIter it a i) where
 mem:=by simp
 obj:=fun i h st b hb=>by
  have e:b=it:=by simpa using hb
  subst e
  obtain ⟨o,e,c,d⟩:=st
  exact ⟨o,e,fun v z=>by rw [d] at z;cases z⟩
 keep:=fun i h h' st k=>st.at fun o e=>k it (by simp) o e
 item:=by
  intro X hP hw hK hc i pins s σ H E I hf st hg
  subst hP hw hK
  obtain ⟨xs,x,hq,hx⟩:=hg
  obtain ⟨its,rv,p,hz⟩:=I.tuple hq
  obtain ⟨u,hu,ru⟩:=rv.get hx
  obtain ⟨f0,f1,f2,f3,f4,f5⟩:=hf it (by simp)
  refine wpAny_pyNext_tuple_item st (show s.heap.IsTuple a its.toArray from p) (x:=u) (by simpa using hu) fun h' st' sb=>?_
  have I1:Inv X pins σ H { s with heap:=h' }:=I.turned (t':=s.toks) (fun b o hb e=>(sb.2 b hb).trans e) f0 f1 f3 f4 f5
  obtain ⟨o,e,c,d⟩:=id st'
  exact ⟨u,rfl,go_of (s:={ s with heap:=h' }) e c d (by decide) ⟨x,H,I1,ru,⟨rfl,fun ys hy=>by rw [I.tuple_inj hy hq];exact hx⟩,st',fun b hb=>(hf b hb).1⟩⟩
 done:=by
  intro X hP hw hK hc i pins s σ H E I hf st hg
  subst hP hw hK
  obtain ⟨xs,hq,hx⟩:=hg
  obtain ⟨its,rv,p,hz⟩:=I.tuple hq
  obtain ⟨f0,f1,f2,f3,f4,f5⟩:=hf it (by simp)
  have hl:=rv.length
  exact wpAny_pyNext_tuple_end (I.ok.hd hc) st (show s.heap.IsTuple a its.toArray from p) (by simp;omega) fun h' eb=>⟨rfl,I.turned (t':=s.toks) (fun b o hb e=>eb b o hb e) f0 f1 f3 f4 f5⟩
 self:=fun _ _ _ _ _ st h=>wpAny_pyIter_tupleiter st h
theorem turn_range {P:Program} {w:World} {K:PySem.W.Frag} {tg:Expr} (it:Addr) (lo:Int) (n:Nat):Turn P w K tg (Itr lo n) [it] it (fun i h=>IsRangeIter h it (lo+(i:Nat)*1) ((n:Int)-(i:Nat)) 1) where
 mem:=by simp
 obj:=fun i h st b hb=>by
  have e:b=it:=by simpa using hb
  subst e
  exact ⟨_,st,fun v z=>by
   have z':Data.fields _=Data.cell v:=z
   cases z'⟩
 keep:=fun i h h' st k=>k it (by simp) _ st
 item:=by
  intro X hP hw hK hc i pins s σ H E I hf st hg
  subst hP hw hK
  obtain ⟨f0,f1,f2,f3,f4,f5⟩:=hf it (by simp)
  have W:=Walks.range (prog:=X.prog) (w:=X.w) (I.ok.hd hc) it lo 1 n
  refine W.item i s _ _ hg st fun v h' tk hv st' kk=>?_
  obtain ⟨t,rfl⟩:=hv
  have I1:Inv X pins σ H { s with heap:=h',toks:=tk }:=I.turned (fun b o hb e=>kk b o (by simpa using hb) e) f0 f1 f3 f4 f5
  refine ⟨_,rfl,go_of (s:={ s with heap:=h',toks:=tk }) (n:="range_iterator") st' rfl rfl (by decide) ⟨.int (lo+i),H,I1,⟨t,?_⟩,⟨rfl,rfl⟩,st',fun b hb=>(hf b hb).1⟩⟩
  rw [Int.mul_one]
 done:=by
  intro X hP hw hK hc i pins s σ H E I hf st hg
  subst hP hw hK
  obtain ⟨f0,f1,f2,f3,f4,f5⟩:=hf it (by simp)
  exact wpAny_pyNext_range_end (I.ok.hd hc) st (by have:n≤i:=hg;omega) fun h' eb=>⟨rfl,I.turned (t':=s.toks) (fun b o hb e=>eb b o hb e) f0 f1 f3 f4 f5⟩
 self:=fun _ _ _ _ _ st h=>wpAny_pyIter_rangeiter st h
end L2
namespace L2
open PySem PySem.Spec PyProof.Rows
section
variable {X:Cx} {tg:Expr}
inductive IiList (K:PySem.W.Frag) (R:It→Hp→Prop) (x:V) (H1:Hp):Prop
 | mk (a:_) (h1:x=.ref a) (h2:(∃ xs,SqL K H1 a xs)) (h3:R (Itl K a) H1):IiList K R x H1
def iList (K:PySem.W.Frag) (tl:TE):TI:=fun σ H R=>tl σ H fun x H1=>IiList K R x H1
inductive IiTup (K:PySem.W.Frag) (R:It→Hp→Prop) (x:V) (H1:Hp):Prop
 | mk (a:_) (h1:x=.ref a) (h2:(∃ xs,SqT K H1 a xs)) (h3:R (Itt K a) H1):IiTup K R x H1
def iTup (K:PySem.W.Frag) (tl:TE):TI:=fun σ H R=>tl σ H fun x H1=>IiTup K R x H1
theorem pi_list {l:Expr} {tl:TE} (hl:PE X l tl):PI X tg l (iList X.K tl):=by
 intro pins s σ H R I h
 refine thn (hl pins s σ H _ I h) fun v s1 ⟨x,H1,I1,r1,q1⟩=>?_
 obtain ⟨a,e,⟨xs,hq⟩,q⟩:=q1
 subst e
 cases r1
 obtain ⟨its,rv,p,hz⟩:=I1.list hq
 refine wpAny_pyIter_list p.isList ?_
 refine ⟨s1.heap.objs.size,[s1.heap.objs.size],_,_,H1,rfl,I1.kept (t':=s1.toks) fun b o e=>Heap.get?_push_of_some _ e,turn_list a _,⟨_,Heap.get?_push_size _ rfl,rfl,rfl⟩,fun b hb=>?_,q⟩
 have e:b=s1.heap.objs.size:=by simpa using hb
 subst e
 exact I1.fpOk (Nat.le_refl _) (I1.hok.fresh (Nat.le_refl _))
theorem pi_tup {l:Expr} {tl:TE} (hl:PE X l tl):PI X tg l (iTup X.K tl):=by
 intro pins s σ H R I h
 refine thn (hl pins s σ H _ I h) fun v s1 ⟨x,H1,I1,r1,q1⟩=>?_
 obtain ⟨a,e,⟨xs,hq⟩,q⟩:=q1
 subst e
 cases r1
 obtain ⟨its,rv,p,hz⟩:=I1.tuple hq
 refine wpAny_pyIter_tuple (show s1.heap.IsTuple a its.toArray from p) ?_
 refine ⟨s1.heap.objs.size,[s1.heap.objs.size],_,_,H1,rfl,I1.kept (t':=s1.toks) fun b o e=>Heap.get?_push_of_some _ e,turn_tuple a _,⟨_,Heap.get?_push_size _ rfl,rfl,rfl⟩,fun b hb=>?_,q⟩
 have e:b=s1.heap.objs.size:=by simpa using hb
 subst e
 exact I1.fpOk (Nat.le_refl _) (I1.hok.fresh (Nat.le_refl _))
theorem range_it {pins:List (Addr × Obj)} {σ:St} {H:Hp} {s:Shared} {R:It→Hp→Prop} {E:Value→Shared→Prop} {lo hi:Int} {t u v:Tok} {tk:Nat} (I:Inv X pins σ H s) (h1:-(2 ^ 62)≤lo) (h2:lo<2 ^ 62) (h3:-(2 ^ 62)≤hi) (h4:hi<2 ^ 62)
  (q:R (Itr lo (hi-lo).toNat) H):wpAny (model X.prog X.w) X.A (pyIter (.ref s.heap.objs.size)) (PIE X pins σ tg R) E { s with heap:=s.heap.push { cls:=.type "range",data:=.fields #[.int lo t,.int hi u,.int 1 v] },toks:=tk }:=by
 refine wpAny_pyIter_range (IsRange.new ..) (small_one h1 h2 h3 h4) ?_
 have I1:Inv X pins σ H { s with heap:=s.heap.push { cls:=.type "range",data:=.fields #[.int lo t,.int hi u,.int 1 v] },toks:=tk }:=I.kept fun b o e=>Heap.get?_push_of_some _ e
 refine ⟨(s.heap.push { cls:=.type "range",data:=.fields #[.int lo t,.int hi u,.int 1 v] }).objs.size,[(s.heap.push { cls:=.type "range",data:=.fields #[.int lo t,.int hi u,.int 1 v] }).objs.size],_,_,H,rfl,
  I1.kept (t':=tk) fun b o e=>Heap.get?_push_of_some _ e,turn_range _ lo (hi-lo).toNat,?_,fun b hb=>?_,q⟩
 ·have e1:lo+((0:Nat):Int)*1=lo:=by simp
  have e2:(((hi-lo).toNat:Nat):Int)-((0:Nat):Int)=Builtin.Range.rangeSize lo hi 1:=by rw [rangeSize_one];split <;> omega
  show IsRangeIter _ _ (lo+((0:Nat):Int)*1) ((((hi-lo).toNat:Nat):Int)-((0:Nat):Int)) 1
  rw [e1,e2]
  exact Heap.get?_push_size _ rfl
 ·have e:b=(s.heap.push { cls:=.type "range",data:=.fields #[.int lo t,.int hi u,.int 1 v] }).objs.size:=by simpa using hb
  subst e
  exact I1.fpOk (Nat.le_refl _) (I1.hok.fresh (Nat.le_refl _))
def iRng1 (ta:TA):TI:=fun σ H R=>ta σ H fun vs H1=>∃ j:Int,vs=[.int j]∧-(2 ^ 62)≤j∧j<2 ^ 62∧R (Itr 0 j.toNat) H1
def iRng2 (ta:TA):TI:=fun σ H R=>ta σ H fun vs H1=>∃ i j:Int,vs=[.int i,.int j]∧(-(2 ^ 62)≤i∧i<2 ^ 62∧-(2 ^ 62)≤j∧j<2 ^ 62)∧R (Itr i (j-i).toNat) H1
theorem pi_range1 {a:Expr} {ta:TA} {p pos:Pos} (hg:Gl X "range") (hm:X.mg "range"=none) (ha:PA X [a] ta) (hs:starEach [a] X.env=[(false,eval a X.env)]:=by rfl):PI X tg (.Call (.Name "range" p) [a] [] pos) (iRng1 ta):=by
 intro pins s σ H R I h
 refine Call_ (ld_blt I hg hm boot_range (PyProof.Rows.callWith_type1 (thn (ha pos pins s σ H _ I h) fun us s1 ⟨vs,H1,I1,r1,q1⟩=>?_) hs rfl))
 obtain ⟨j,e,q1,q2,q⟩:=q1
 subst e
 cases r1 with
 | cons r rr=>
  cases rr
  obtain ⟨t,rfl⟩:=r
  exact call_range_1 (range_it I1 (by omega) (by omega) q1 q2 (by simpa using q))
theorem pi_range2 {a b:Expr} {ta:TA} {p pos:Pos} (hg:Gl X "range") (hm:X.mg "range"=none) (ha:PA X [a,b] ta) (hs:starEach [a,b] X.env=[(false,eval a X.env),(false,eval b X.env)]:=by rfl) (hs2:starEach [b] X.env=[(false,eval b X.env)]:=by rfl) :
  PI X tg (.Call (.Name "range" p) [a,b] [] pos) (iRng2 ta):=by
 intro pins s σ H R I h
 refine Call_ (ld_blt I hg hm boot_range (PyProof.Rows.callWith_type1 (thn (ha pos pins s σ H _ I h) fun us s1 ⟨vs,H1,I1,r1,q1⟩=>?_) (by rw [hs,hs2]) (by rw [hs2];rfl)))
 obtain ⟨i,j,e,⟨q1,q2,q3,q4⟩,q⟩:=q1
 subst e
 cases r1 with
 | cons r rr=>
  cases rr with
  | cons r' rr=>
   cases rr
   obtain ⟨t,rfl⟩:=r
   obtain ⟨t',rfl⟩:=r'
   exact call_range_2 (range_it I1 q1 q2 q3 q4 q)
def tFor (wi:TI) (g:TG) (tb:TS):TS:=fun D σ H=>wi σ H fun J H1=>∃ W:Nat→Nat→St→Hp→Prop,(∃ m,W 0 m σ H1)∧∀ i m σ H,W i m σ H→
 (J.stop i H∧D.nx σ H)∨(J.go i H∧∃ N:St→Hp→Prop,(∀ σ' H',N σ' H'→∃ m',m'<m∧W (i+1) m' σ' H')∧∀ x H',J.yld i H x H'→g x σ H' fun σ2 H2=>tb { D with nx:=N,ct:=N,bk:=D.nx } σ2 H2)
def pinsAt (fp:List Addr) (h:Heap):List (Addr × Obj):=fp.filterMap fun b=>(h.get? b).map fun o=>(b,o)
theorem mem_pinsAt {fp:List Addr} {h:Heap} {b:Addr} {o:Obj} (hb:b∈fp) (e:h.get? b=some o):(b,o)∈pinsAt fp h:=List.mem_filterMap.mpr ⟨b,hb,by rw [e];rfl⟩
theorem of_pinsAt {fp:List Addr} {h:Heap} {p:Addr × Obj} (hp:p∈pinsAt fp h):p.1∈fp∧h.get? p.1=some p.2:=by
 obtain ⟨b,hb,e⟩:=List.mem_filterMap.mp hp
 cases q:h.get? b with
 | none=>rw [q] at e;cases e
 | some o=>
  rw [q] at e
  have e':(b,o)=p:=Option.some.inj e
  subst e'
  exact ⟨hb,q⟩
theorem Inv.pinned {pins:List (Addr × Obj)} {σ:St} {H:Hp} {s:Shared} {fp:List Addr} (I:Inv X pins σ H s) (hf:∀ b∈fp,FpOk X pins H b) (ho:∀ b∈fp,∃ o,s.heap.get? b=some o∧∀ v,o.data≠.cell v):Inv X (pins++pinsAt fp s.heap) σ H s:=
 I.pins_of fun p hp=>(List.mem_append.mp hp).elim (fun z=>I.pin p (List.mem_append_right _ z)) fun z=>by
  obtain ⟨hb,e⟩:=of_pinsAt z
  obtain ⟨f0,f1,f2,_⟩:=hf p.1 hb
  obtain ⟨o,e',d⟩:=ho p.1 hb
  rw [e] at e';cases e'
  exact ⟨e,f0,f1,f2,d⟩
theorem Inv.unpinned {pins pl:List (Addr × Obj)} {σ:St} {H:Hp} {s:Shared} (I:Inv X (pins++pl) σ H s):Inv X pins σ H s:=I.pins_of fun p hp=>I.pin p (List.mem_append_right _ (List.mem_append_left _ hp))
theorem ps_for {iter:Expr} {body:List Stmt} {wi:TI} {g:TG} {tb:TS} {pos:Pos} (hp:PassesOwn (model X.prog X.w) X.A X.env X.xe) (hc:X.calm=true) (hi:PI X tg iter wi) (hg:PG X tg g) (hb:PSs X body tb)
  (hs:∀ x,foldedSetIterable iter X.env x=pure x:=by intro _;rfl):PS X (.For tg iter body [] pos) (tFor wi g tb):=by
 intro pins s σ H D I h
 refine wpAny_For (thn (hi pins s σ H _ I h) fun v s1 h1=>thn h1 fun itv s2 h2=>?_) hs
 obtain ⟨it,fp,tn,J,H2,e,I2,T,st2,f2,W,⟨m0,w0⟩,turn⟩:=h2
 subst e
 have stat:∀ {H':Hp},(∀ b∈fp,H' b=none)→∀ b∈fp,FpOk X pins H' b:=fun hn b hb=>⟨hn b hb,(f2 b hb).2⟩
 refine codeAny_forLoop_any (fun n s'=>∃ i σ' H',Inv X pins σ' H' s'∧tn i s'.heap∧(∀ b∈fp,H' b=none)∧W i n σ' H') ?_ m0 ⟨0,σ,H2,I2,st2,fun b hb=>(f2 b hb).1,w0⟩
 rintro n s3 ⟨i,σ3,H3,I3,st3,fr3,w3⟩
 rcases turn i n σ3 H3 w3 with ⟨stop,qn⟩ | ⟨go,N,hN,step⟩
 ·refine wpAny_passesOwn hp (thn (T.done X rfl rfl rfl hc i pins s3 σ3 H3 X.xe I3 (stat fr3) st3 stop) fun r s4 ⟨hr,I4⟩=>?_)
  subst hr
  exact wpAny_execs_nil ⟨σ3,H3,I4,qn⟩
 ·refine wpAny_passesOwn hp (thn (T.item X rfl rfl rfl hc i pins s3 σ3 H3 X.xe I3 (stat fr3) st3 go) fun r s4 ⟨u,hr,h4⟩=>?_)
  subst hr
  refine wpAny_passesOwn hp (thn h4 fun _ s5 ⟨x,H5,I5,r5,y5,st5,fr5⟩=>?_)
  have I5':=I5.pinned (stat fr5) (T.obj _ _ st5)
  refine wpAny_passesOwn hp (thn (hg _ s5 σ3 H5 x u _ I5' r5 (step x H5 y5)) fun _ s6 ⟨σ6,H6,I6,q6⟩=>?_)
  refine wpAny_passesOwn hp (thn (hb _ s6 σ6 H6 _ I6 q6) fun f s7 q7=>?_)
  have again:∀ {σ7:St} {H7:Hp},Inv X (pins++pinsAt fp s5.heap) σ7 H7 s7→N σ7 H7→∃ m,m<n∧∃ i σ' H',Inv X pins σ' H' s7∧tn i s7.heap∧(∀ b∈fp,H' b=none)∧W i m σ' H':=fun {σ7 H7} I7 n7=>by
   obtain ⟨m',hm,w7⟩:=hN σ7 H7 n7
   refine ⟨m',hm,i+1,σ7,H7,I7.unpinned,T.keep _ _ _ st5 fun b hb o e=>(I7.pin (b,o) (List.mem_append_right _ (List.mem_append_right _ (mem_pinsAt hb e)))).1,fun b hb=>?_,w7⟩
   obtain ⟨o,e,d⟩:=T.obj _ _ st5 b hb
   exact (I7.pin (b,o) (List.mem_append_right _ (List.mem_append_right _ (mem_pinsAt hb e)))).2.1
  cases f with
  | next=>obtain ⟨σ7,H7,I7,n7⟩:=q7;exact again I7 n7
  | cont=>obtain ⟨σ7,H7,I7,n7⟩:=q7;exact again I7 n7
  | brk=>obtain ⟨σ7,H7,I7,q7⟩:=q7;exact ⟨σ7,H7,I7.unpinned,q7⟩
  | ret v=>obtain ⟨x7,σ7,H7,I7,r7,q7⟩:=q7;exact ⟨x7,σ7,H7,I7.unpinned,r7,q7⟩
end
theorem for_list {K:PySem.W.Frag} {a:Addr} {xs:List V} {g:TG} {tb:TS} {D:Ends} {σ:St} {H:Hp} (Pv:Nat→St→Hp→Prop) (h0:Pv 0 σ H) (hl:∀ i σ H,i≤xs.length→Pv i σ H→SqL K H a xs)
  (hs:∀ i x σ H,xs[i]?=some x→Pv i σ H→g x σ H fun σ2 H2=>tb { D with nx:=Pv (i+1),ct:=Pv (i+1),bk:=D.nx } σ2 H2) (hd:∀ σ H,Pv xs.length σ H→D.nx σ H) :
  ∃ W:Nat→Nat→St→Hp→Prop,(∃ m,W 0 m σ H)∧∀ i m σ H,W i m σ H→
   ((Itl K a).stop i H∧D.nx σ H)∨((Itl K a).go i H∧∃ N:St→Hp→Prop,(∀ σ' H',N σ' H'→∃ m',m'<m∧W (i+1) m' σ' H')∧∀ x H',(Itl K a).yld i H x H'→g x σ H' fun σ2 H2=>tb { D with nx:=N,ct:=N,bk:=D.nx } σ2 H2):=by
 refine ⟨fun i m σ H=>m=xs.length-i∧i≤xs.length∧Pv i σ H,⟨xs.length,by simp,Nat.zero_le _,h0⟩,?_⟩
 rintro i m σ H ⟨rfl,hi,p⟩
 have q:=hl i σ H hi p
 by_cases hlt:i<xs.length
 ·refine .inr ⟨⟨xs,xs[i],q,by simp [hlt]⟩,Pv (i+1),fun σ' H' p'=>⟨xs.length-(i+1),by omega,rfl,hlt,p'⟩,fun x H' y=>?_⟩
  obtain ⟨e,y⟩:=y
  subst e
  exact hs i x σ _ (y xs q) p
 ·have e:i=xs.length:=by omega
  subst e
  exact .inl ⟨⟨xs,q,Nat.le_refl _⟩,hd σ H p⟩
theorem for_tup {K:PySem.W.Frag} {a:Addr} {xs:List V} {g:TG} {tb:TS} {D:Ends} {σ:St} {H:Hp} (Pv:Nat→St→Hp→Prop) (h0:Pv 0 σ H) (hl:∀ i σ H,i≤xs.length→Pv i σ H→SqT K H a xs)
  (hs:∀ i x σ H,xs[i]?=some x→Pv i σ H→g x σ H fun σ2 H2=>tb { D with nx:=Pv (i+1),ct:=Pv (i+1),bk:=D.nx } σ2 H2) (hd:∀ σ H,Pv xs.length σ H→D.nx σ H) :
  ∃ W:Nat→Nat→St→Hp→Prop,(∃ m,W 0 m σ H)∧∀ i m σ H,W i m σ H→
   ((Itt K a).stop i H∧D.nx σ H)∨((Itt K a).go i H∧∃ N:St→Hp→Prop,(∀ σ' H',N σ' H'→∃ m',m'<m∧W (i+1) m' σ' H')∧∀ x H',(Itt K a).yld i H x H'→g x σ H' fun σ2 H2=>tb { D with nx:=N,ct:=N,bk:=D.nx } σ2 H2):=by
 refine ⟨fun i m σ H=>m=xs.length-i∧i≤xs.length∧Pv i σ H,⟨xs.length,by simp,Nat.zero_le _,h0⟩,?_⟩
 rintro i m σ H ⟨rfl,hi,p⟩
 have q:=hl i σ H hi p
 by_cases hlt:i<xs.length
 ·refine .inr ⟨⟨xs,xs[i],q,by simp [hlt]⟩,Pv (i+1),fun σ' H' p'=>⟨xs.length-(i+1),by omega,rfl,hlt,p'⟩,fun x H' y=>?_⟩
  obtain ⟨e,y⟩:=y
  subst e
  exact hs i x σ _ (y xs q) p
 ·have e:i=xs.length:=by omega
  subst e
  exact .inl ⟨⟨xs,q,Nat.le_refl _⟩,hd σ H p⟩
theorem for_range {lo:Int} {n:Nat} {g:TG} {tb:TS} {D:Ends} {σ:St} {H:Hp} (Pv:Nat→St→Hp→Prop) (h0:Pv 0 σ H)
  (hs:∀ i σ H,i<n→Pv i σ H→g (.int (lo+i)) σ H fun σ2 H2=>tb { D with nx:=Pv (i+1),ct:=Pv (i+1),bk:=D.nx } σ2 H2) (hd:∀ σ H,Pv n σ H→D.nx σ H) :
  ∃ W:Nat→Nat→St→Hp→Prop,(∃ m,W 0 m σ H)∧∀ i m σ H,W i m σ H→
   ((Itr lo n).stop i H∧D.nx σ H)∨((Itr lo n).go i H∧∃ N:St→Hp→Prop,(∀ σ' H',N σ' H'→∃ m',m'<m∧W (i+1) m' σ' H')∧∀ x H',(Itr lo n).yld i H x H'→g x σ H' fun σ2 H2=>tb { D with nx:=N,ct:=N,bk:=D.nx } σ2 H2):=by
 refine ⟨fun i m σ H=>m=n-i∧i≤n∧Pv i σ H,⟨n,by simp,Nat.zero_le _,h0⟩,?_⟩
 rintro i m σ H ⟨rfl,hi,p⟩
 by_cases hlt:i<n
 ·refine .inr ⟨hlt,Pv (i+1),fun σ' H' p'=>⟨n-(i+1),by omega,rfl,hlt,p'⟩,fun x H' y=>?_⟩
  obtain ⟨e,y⟩:=y
  subst e y
  exact hs i σ _ hlt p
 ·have e:i=n:=by omega
  subst e
  exact .inl ⟨Nat.le_refl _,hd σ H p⟩
theorem while_by {c:TT} {tb:TS} {D:Ends} {σ:St} {H:Hp} (Pv:St→Hp→Prop) (μ:St→Hp→Nat) (h0:Pv σ H)
  (hs:∀ σ H,Pv σ H→c σ H fun b H1=>if b=true then tb { D with nx:=fun σ' H'=>Pv σ' H'∧μ σ' H' < μ σ H,ct:=fun σ' H'=>Pv σ' H'∧μ σ' H' < μ σ H,bk:=D.nx } σ H1 else D.nx σ H1)
  (mono:∀ σ H Q Q',(∀ b H1,Q b H1→Q' b H1)→c σ H Q→c σ H Q'):tWhile c tb D σ H:=by
 refine ⟨fun m σ H=>m = μ σ H∧Pv σ H,⟨_,rfl,h0⟩,?_⟩
 rintro m σ H ⟨rfl,p⟩
 refine mono σ H _ _ (fun b H1 q=>?_) (hs σ H p)
 cases b with
 | true=>exact ⟨_,fun σ' H' ⟨p',l⟩=>⟨_,l,rfl,p'⟩,q⟩
 | false=>exact q
end L2
namespace L2
open PySem PySem.Spec PyProof.Rows
abbrev R2:=V→V→Hp→VK→Prop
def OpR (X:Cx) (f:Value→Value→Sem Value) (r:R2):Prop:=
 ∀ (pins:List (Addr × Obj)) (s:Shared) (σ:St) (H:Hp) (x y:V) (v u:Value) (Q:VK),Inv X pins σ H s→RelV x v→RelV y u→r x y H Q→
  wpAny (model X.prog X.w) X.A (f v u) (EP X pins σ Q) X.xe s
def UnR (X:Cx) (f:Value→Sem Value) (r:V→Hp→VK→Prop):Prop:=
 ∀ (pins:List (Addr × Obj)) (s:Shared) (σ:St) (H:Hp) (x:V) (v:Value) (Q:VK),Inv X pins σ H s→RelV x v→r x H Q→
  wpAny (model X.prog X.w) X.A (f v) (EP X pins σ Q) X.xe s
def CallR (X:Cx) (f:Value) (r:List V→Hp→VK→Prop):Prop:=
 ∀ (pins:List (Addr × Obj)) (s:Shared) (σ:St) (H:Hp) (xs:List V) (us:List Value) (Q:VK),Inv X pins σ H s→Vals xs us→r xs H Q→
  wpAny (model X.prog X.w) X.A (call f us) (EP X pins σ Q) X.xe s
def TruR (X:Cx) (r:V→Hp→(Bool→Hp→Prop)→Prop):Prop:=
 ∀ (pins:List (Addr × Obj)) (s:Shared) (σ:St) (H:Hp) (x:V) (v:Value) (Q:Bool→Hp→Prop),Inv X pins σ H s→RelV x v→r x H Q→
  wpAny (model X.prog X.w) X.A (truthy v) (TP X pins σ Q) X.xe s
def tOp (r:R2) (ta tb:TE):TE:=fun σ H Q=>ta σ H fun x H1=>tb σ H1 fun y H2=>r x y H2 Q
def tUn (r:V→Hp→VK→Prop) (ta:TE):TE:=fun σ H Q=>ta σ H fun x H1=>r x H1 Q
def rI (C:Int→Int→Prop) (g:Int→Int→V):R2:=fun x y H Q=>∃ i j,x=.int i∧y=.int j∧C i j∧Q (g i j) H
inductive IrI0 (g:Int→Int→V) (x:V) (y:V) (H:Hp) (Q:VK):Prop
 | mk (i:_) (j:_) (h1:x=.int i) (h2:y=.int j) (h3:Q (g i j) H):IrI0 g x y H Q
def rI0 (g:Int→Int→V):R2:=fun x y H Q=>IrI0 g x y H Q
inductive IrU (g:Int→V) (x:V) (H:Hp) (Q:VK):Prop
 | mk (i:_) (h1:x=.int i) (h2:Q (g i) H):IrU g x H Q
def rU (g:Int→V):V→Hp→VK→Prop:=fun x H Q=>IrU g x H Q
section
variable {X:Cx} {a b c:Expr} {ta tb tc:TE} {pos:Pos}
theorem binT (ha:PE X a ta) (hb:PE X b tb) {pins:List (Addr × Obj)} {s:Shared} {σ:St} {H:Hp} {R:V→V→Hp→Prop} (I:Inv X pins σ H s)
  (h:ta σ H fun x H1=>tb σ H1 fun y H2=>R x y H2) {Q:Value→Shared→Prop} {f:Value→Value→Sem Value}
  (hf:∀ v u s2 x y H2,Inv X pins σ H2 s2→RelV x v→RelV y u→R x y H2→wpAny (model X.prog X.w) X.A (f v u) Q X.xe s2) :
  wpAny (model X.prog X.w) X.A (eval a X.env) (fun v s₁=>wpAny (model X.prog X.w) X.A (eval b X.env) (fun u s₂=>wpAny (model X.prog X.w) X.A (f v u) Q X.xe s₂) X.xe s₁) X.xe s:=by
 refine thn (ha pins s σ H _ I h) fun v s1 ⟨x,H1,I1,r1,q1⟩=>?_
 refine thn (hb pins s1 σ H1 _ I1 q1) fun u s2 ⟨y,H2,I2,r2,q2⟩=>?_
 exact hf v u s2 x y H2 I2 r1 r2 q2
theorem pe_op {op:Operator} {r:R2} (ho:OpR X (binaryOp op) r) (ha:PE X a ta) (hb:PE X b tb):PE X (.BinOp a op b pos) (tOp r ta tb):=by
 intro pins s σ H Q I h
 exact wpAny_BinOp (binT ha hb I h fun v u s2 x y H2 I2 rx ry q=>ho pins s2 σ H2 x y v u Q I2 rx ry q)
theorem pe_un {op:UnaryOp} {r:V→Hp→VK→Prop} (ho:UnR X (unaryOp op) r) (ha:PE X a ta):PE X (.UnaryOp op a pos) (tUn r ta):=by
 intro pins s σ H Q I h
 exact UnaryOp_ (thn (ha pins s σ H _ I h) fun v s1 ⟨x,H1,I1,r1,q1⟩=>ho pins s1 σ H1 x v Q I1 r1 q1)
theorem opI {f:Value→Value→Sem Value} {C:Int→Int→Prop} {g:Int→Int→Int}
  (rule:∀ (i j:Int) (t u:Tok) (s:Shared) (Q:Value→Shared→Prop) (E:Value→Shared→Prop),C i j→Q (.int (g i j) s.toks) { s with toks:=s.toks+1 }→wpAny (model X.prog X.w) X.A (f (.int i t) (.int j u)) Q E s) :
  OpR X f (rI C fun i j=>.int (g i j)):=by
 intro pins s σ H x y v u Q I rx ry h
 obtain ⟨i,j,rfl,rfl,hc,q⟩:=h
 obtain ⟨t,rfl⟩:=rx
 obtain ⟨t',rfl⟩:=ry
 exact rule i j t t' s _ _ hc ⟨.int (g i j),H,I.tok _,⟨_,rfl⟩,q⟩
theorem opI0 {f:Value→Value→Sem Value} {g:Int→Int→Int}
  (rule:∀ (i j:Int) (t u:Tok) (s:Shared) (Q:Value→Shared→Prop) (E:Value→Shared→Prop),Q (.int (g i j) s.toks) { s with toks:=s.toks+1 }→wpAny (model X.prog X.w) X.A (f (.int i t) (.int j u)) Q E s) :
  OpR X f (rI0 fun i j=>.int (g i j)):=by
 intro pins s σ H x y v u Q I rx ry h
 obtain ⟨i,j,rfl,rfl,q⟩:=h
 obtain ⟨t,rfl⟩:=rx
 obtain ⟨t',rfl⟩:=ry
 exact rule i j t t' s _ _ ⟨.int (g i j),H,I.tok _,⟨_,rfl⟩,q⟩
theorem opB0 {f:Value→Value→Sem Value} {g:Int→Int→Bool}
  (rule:∀ (i j:Int) (t u:Tok) (s:Shared) (Q:Value→Shared→Prop) (E:Value→Shared→Prop),Q (.bool (g i j)) s→wpAny (model X.prog X.w) X.A (f (.int i t) (.int j u)) Q E s) :
  OpR X f (rI0 fun i j=>.bl (g i j)):=by
 intro pins s σ H x y v u Q I rx ry h
 obtain ⟨i,j,rfl,rfl,q⟩:=h
 obtain ⟨t,rfl⟩:=rx
 obtain ⟨t',rfl⟩:=ry
 exact rule i j t t' s _ _ ⟨.bl (g i j),H,I,rfl,q⟩
def CDiv (i j:Int):Prop:=0<j∧j<1073741824
def CDivN (i j:Int):Prop:=j≠0∧j.natAbs<1073741824
def CPow (i j:Int):Prop:=0≤j∧j≤1000000∧i.natAbs<2 ^ 64
def CMul (i j:Int):Prop:=(-(2 ^ 64)<i∧i<2 ^ 64)∨(-(2 ^ 64)<j∧j<2 ^ 64)
theorem op_add:OpR X (binaryOp .Add) (rI0 fun i j=>.int (i+j)):=opI0 fun _ _ _ _ _ _ _ q=>add_int q
theorem op_sub:OpR X (binaryOp .Sub) (rI0 fun i j=>.int (i-j)):=opI0 fun _ _ _ _ _ _ _ q=>sub_int q
theorem op_fdiv:OpR X (binaryOp .FloorDiv) (rI CDiv fun i j=>.int (i / j)):=opI fun i j _ _ _ _ _ hc q=>by
 have h1:(0:Int)<j:=hc.1
 have h2:j<1073741824:=hc.2
 exact floordiv_int (by omega) (by rw [Int.fdiv_eq_ediv_of_nonneg i (by omega)];exact q) (.inl (PyProof.noPylong_small (by omega)))
theorem op_mod:OpR X (binaryOp .Mod) (rI (fun _ j=>0<j) fun i j=>.int (i % j)):=opI fun i j _ _ _ _ _ hc q=>by
 have h1:(0:Int)<j:=hc
 exact mod_int' (by omega) (by rw [Int.fmod_eq_emod_of_nonneg i (by omega)];exact q)
theorem unI {f:Value→Sem Value} {g:Int→Int}
  (rule:∀ (i:Int) (t:Tok) (s:Shared) (Q:Value→Shared→Prop) (E:Value→Shared→Prop),Q (.int (g i) s.toks) { s with toks:=s.toks+1 }→wpAny (model X.prog X.w) X.A (f (.int i t)) Q E s) :
  UnR X f (rU fun i=>.int (g i)):=by
 intro pins s σ H x v Q I rx h
 obtain ⟨i,rfl,q⟩:=h
 obtain ⟨t,rfl⟩:=rx
 exact rule i t s _ _ ⟨.int (g i),H,I.tok _,⟨_,rfl⟩,q⟩
theorem un_neg:UnR X (unaryOp .USub) (rU fun i=>.int (-i)):=unI fun _ _ _ _ _ q=>neg_int q
end
def scal:V→V→Bool
 | .non,.non=>true | .non,.int _=>true | .int _,.non=>true | .non,.bl _=>true | .bl _,.non=>true | .non,.str _=>true | .str _,.non=>true
 | .int _,.int _=>true | .bl _,.bl _=>true | .str _,.str _=>true | .byt _,.byt _=>true
 | .int _,.str _=>true | .str _,.int _=>true | .bl _,.str _=>true | .str _,.bl _=>true
 | _,_=>false
def rEq:R2:=fun x y H Q=>scal x y=true∧Q (.bl (decide (x=y))) H
def rNe:R2:=fun x y H Q=>scal x y=true∧Q (.bl (!decide (x=y))) H
theorem dec_int {i j:Int}:decide (V.int i=V.int j)=(i == j):=by
 rw [Bool.eq_iff_iff]
 simp
theorem dec_bl {i j:Bool}:decide (V.bl i=V.bl j)=(i == j):=by
 rw [Bool.eq_iff_iff]
 simp
theorem dec_str {i j:Str}:decide (V.str i=V.str j)=(i == j):=by
 rw [Bool.eq_iff_iff]
 simp
theorem dec_byt {i j:Array UInt8}:decide (V.byt i=V.byt j)=(i.toList == j.toList):=by
 rw [Bool.eq_iff_iff]
 cases i
 cases j
 simp
section
variable {X:Cx} {a b c:Expr} {ta tb tc:TE} {pos:Pos}
theorem fin_bl {pins:List (Addr × Obj)} {σ:St} {H:Hp} {s:Shared} {Q:VK} {k k':Bool} (I:Inv X pins σ H s) (q:Q (.bl k) H) (e:k=k'):EP X pins σ Q (.bool k') s:=by
 subst e
 exact ⟨.bl k,H,I,rfl,q⟩
theorem op_eq:OpR X (compareOp .Eq) rEq:=by
 intro pins s σ H x y v u Q I rx ry h
 obtain ⟨hs,q⟩:=h
 cases x with
 | non=>
  cases rx
  cases y with
  | non=>cases ry;exact PySem.EqNone.eq_none_none (fin_bl I q (by simp))
  | bl j=>cases ry;exact PySem.EqNone.eq_none_bool (fin_bl I q (by simp))
  | int j=>obtain ⟨t',rfl⟩:=ry;exact PySem.EqNone.eq_none_int (fin_bl I q (by simp))
  | str j=>obtain ⟨t',rfl⟩:=ry;exact PySem.EqNone.eq_none_str (fin_bl I q (by simp))
  | _=>exact absurd (show false=true from hs) Bool.false_ne_true
 | bl i=>
  cases rx
  cases y with
  | non=>cases ry;exact PySem.EqNone.eq_bool_none (fin_bl I q (by simp))
  | bl j=>cases ry;exact eq_bool (fin_bl I q dec_bl)
  | str j=>obtain ⟨t',rfl⟩:=ry;exact PySem.EqMixed.eq_bool_str (fin_bl I q (by simp))
  | _=>exact absurd (show false=true from hs) Bool.false_ne_true
 | int i=>
  obtain ⟨t,rfl⟩:=rx
  cases y with
  | non=>cases ry;exact PySem.EqNone.eq_int_none (fin_bl I q (by simp))
  | int j=>obtain ⟨t',rfl⟩:=ry;exact eq_int (fin_bl I q dec_int)
  | str j=>obtain ⟨t',rfl⟩:=ry;exact PySem.EqMixed.eq_int_str (fin_bl I q (by simp))
  | _=>exact absurd (show false=true from hs) Bool.false_ne_true
 | str i=>
  obtain ⟨t,rfl⟩:=rx
  cases y with
  | non=>cases ry;exact PySem.EqNone.eq_str_none (fin_bl I q (by simp))
  | bl j=>cases ry;exact PySem.EqMixed.eq_str_bool (fin_bl I q (by simp))
  | int j=>obtain ⟨t',rfl⟩:=ry;exact PySem.EqMixed.eq_str_int (fin_bl I q (by simp))
  | str j=>obtain ⟨t',rfl⟩:=ry;exact eq_str (fin_bl I q dec_str)
  | _=>exact absurd (show false=true from hs) Bool.false_ne_true
 | byt i=>
  obtain ⟨t,rfl⟩:=rx
  cases y with
  | byt j=>obtain ⟨t',rfl⟩:=ry;exact PySem.W.eq_bytes (fin_bl I q dec_byt)
  | _=>exact absurd (show false=true from hs) Bool.false_ne_true
 | _=>cases y <;> exact absurd (show false=true from hs) Bool.false_ne_true
theorem op_ne:OpR X (compareOp .NotEq) rNe:=by
 intro pins s σ H x y v u Q I rx ry h
 obtain ⟨hs,q⟩:=h
 cases x with
 | non=>
  cases rx
  cases y with
  | non=>cases ry;exact PySem.EqNone.ne_none_none (fin_bl I q (by simp))
  | bl j=>cases ry;exact PySem.EqNone.ne_none_bool (fin_bl I q (by simp))
  | int j=>obtain ⟨t',rfl⟩:=ry;exact PySem.EqNone.ne_none_int (fin_bl I q (by simp))
  | str j=>obtain ⟨t',rfl⟩:=ry;exact PySem.EqNone.ne_none_str (fin_bl I q (by simp))
  | _=>exact absurd (show false=true from hs) Bool.false_ne_true
 | bl i=>
  cases rx
  cases y with
  | non=>cases ry;exact PySem.EqNone.ne_bool_none (fin_bl I q (by simp))
  | bl j=>cases ry;exact ne_bool (fin_bl I q (congrArg not dec_bl))
  | str j=>obtain ⟨t',rfl⟩:=ry;exact PySem.EqMixed.ne_bool_str (fin_bl I q (by simp))
  | _=>exact absurd (show false=true from hs) Bool.false_ne_true
 | int i=>
  obtain ⟨t,rfl⟩:=rx
  cases y with
  | non=>cases ry;exact PySem.EqNone.ne_int_none (fin_bl I q (by simp))
  | int j=>obtain ⟨t',rfl⟩:=ry;exact ne_int (fin_bl I q (congrArg not dec_int))
  | str j=>obtain ⟨t',rfl⟩:=ry;exact PySem.EqMixed.ne_int_str (fin_bl I q (by simp))
  | _=>exact absurd (show false=true from hs) Bool.false_ne_true
 | str i=>
  obtain ⟨t,rfl⟩:=rx
  cases y with
  | non=>cases ry;exact PySem.EqNone.ne_str_none (fin_bl I q (by simp))
  | bl j=>cases ry;exact PySem.EqMixed.ne_str_bool (fin_bl I q (by simp))
  | int j=>obtain ⟨t',rfl⟩:=ry;exact PySem.EqMixed.ne_str_int (fin_bl I q (by simp))
  | str j=>obtain ⟨t',rfl⟩:=ry;exact ne_str (fin_bl I q (congrArg not dec_str))
  | _=>exact absurd (show false=true from hs) Bool.false_ne_true
 | byt i=>
  obtain ⟨t,rfl⟩:=rx
  cases y with
  | byt j=>obtain ⟨t',rfl⟩:=ry;exact PySem.W.ne_bytes (fin_bl I q (congrArg not dec_byt))
  | _=>exact absurd (show false=true from hs) Bool.false_ne_true
 | _=>cases y <;> exact absurd (show false=true from hs) Bool.false_ne_true
theorem op_lt:OpR X (compareOp .Lt) (rI0 fun i j=>.bl (decide (i<j))):=opB0 fun _ _ _ _ _ _ _ q=>lt_int q
theorem op_le:OpR X (compareOp .LtE) (rI0 fun i j=>.bl (decide (i≤j))):=opB0 fun _ _ _ _ _ _ _ q=>le_int q
theorem op_gt:OpR X (compareOp .Gt) (rI0 fun i j=>.bl (decide (j<i))):=opB0 fun _ _ _ _ _ _ _ q=>gt_int q
theorem op_isN:OpR X (compareOp .Is) (fun x y H Q=>y=.non∧Q (.bl (decide (x=.non))) H):=by
 intro pins s σ H x y v u Q I rx ry h
 obtain ⟨rfl,q⟩:=h
 cases ry
 refine is_none_gen (fin_bl I q ?_)
 cases x <;> first
  | (cases rx;rfl)
  | (obtain ⟨t,rfl⟩:=rx;rfl)
theorem op_notN:OpR X (compareOp .IsNot) (fun x y H Q=>y=.non∧Q (.bl (!decide (x=.non))) H):=by
 intro pins s σ H x y v u Q I rx ry h
 obtain ⟨rfl,q⟩:=h
 cases ry
 refine isnot_none_gen (fin_bl I q ?_)
 cases x <;> first
  | (cases rx;rfl)
  | (obtain ⟨t,rfl⟩:=rx;rfl)
def isObj:HO→Bool
 | .lst _=>true
 | .ins _ _ _=>true
 | _=>false
theorem nomark (b:Expr) {op:CmpOp} (h:op≠.In:=by decide) (h2:op≠.NotIn:=by decide):behindInMarks op b=false:=by
 have e1:(op == CmpOp.In)=false:=by cases op <;> first | rfl | exact absurd rfl h
 have e2:(op == CmpOp.NotIn)=false:=by cases op <;> first | rfl | exact absurd rfl h2
 cases b <;> simp [behindInMarks,e1,e2]
theorem pe_cmpR {op:CmpOp} {r:R2} (ho:OpR X (compareOp op) r) (ha:PE X a ta) (hb:PE X b tb) (hm:behindInMarks op b=false):PE X (.Compare a [op] [b] pos) (tOp r ta tb):=by
 intro pins s σ H Q I h
 exact wpAny_Compare1 (binT ha hb I h fun v u s2 x y H2 I2 rx ry q=>ho pins s2 σ H2 x y v u Q I2 rx ry q) hm
inductive ItTest (Q:Bool→Hp→Prop) (x:V) (H':Hp):Prop
 | mk (k:_) (h1:x=.bl k) (h2:Q k H'):ItTest Q x H'
def tTest (t:TE):TT:=fun σ H Q=>t σ H fun x H'=>ItTest Q x H'
theorem pt_cmpR {op:CmpOp} {r:R2} (ho:OpR X (compareOp op) r) (ha:PE X a ta) (hb:PE X b tb) (hm:behindInMarks op b=false):PT X (.Compare a [op] [b] pos) (tTest (tOp r ta tb)):=by
 intro pins s σ H Q I h
 refine wpAny_isTrue_Compare1 (thn (ha pins s σ H _ I h) fun v s1 ⟨x,H1,I1,r1,q1⟩=>thn (hb pins s1 σ H1 _ I1 q1) fun u s2 ⟨y,H2,I2,r2,q2⟩=>
  thn (ho pins s2 σ H2 x y v u _ I2 r1 r2 q2) fun c s3 ⟨z,H3,I3,r3,k,e,q3⟩=>?_) hm
 subst e
 cases r3
 exact wpAny_truthy_bool ⟨H3,I3,q3⟩
def tChain (r r':R2) (ta tb tc:TE):TE:=fun σ H Q=>ta σ H fun x H1=>tb σ H1 fun y H2=>r x y H2 fun z H3=>∃ k,z=.bl k∧
 (if k=true then tc σ H3 fun w' H4=>r' y w' H4 Q else Q (.bl false) H3)
def TruV (K:PySem.W.Frag) (x:V) (H:Hp) (k:Bool):Prop:=
 match x with
 | .non=>k=false
 | .bl b=>k=b
 | .int i=>k=(i != 0)
 | .str y=>y.length≤sizeLine∧k=((y.length:Int) != 0)
 | .byt y=>y.size≤sizeLine∧k=((y.size:Int) != 0)
 | .ref p=>(∃ xs,SqL K H p xs∧k = !xs.isEmpty)∨(∃ xs,SqT K H p xs∧k = !xs.isEmpty)∨∃ kvs,H p=some (.dK kvs)∧k = !kvs.isEmpty
 | _=>False
theorem line63:(sizeLine:Nat)<2 ^ 63:=by rw [sizeLine_eq];decide
theorem op_add_str:OpR X (binaryOp .Add) (fun x y H Q=>∃ i j,x=.str i∧y=.str j∧i.length+j.length≤sizeLine∧Q (.str (i++j)) H):=by
 intro pins s σ H x y v u Q I rx ry h
 obtain ⟨i,j,rfl,rfl,hz,q⟩:=h
 obtain ⟨t,rfl⟩:=rx
 obtain ⟨t',rfl⟩:=ry
 exact add_str (fun t' tk=>⟨.str (i++j),H,I.tok _,⟨_,rfl⟩,q⟩) hz
def PlainIxT (b:Expr):Prop:=∀ o i,subscripted b false o i=operate [o,i] (getItem o i)
theorem vals1 {x:V} {us:List Value} (r:Vals [x] us):∃ u,us=[u]∧RelV x u:=by
 cases r with
 | cons r1 r2=>cases r2;exact ⟨_,rfl,r1⟩
theorem vals2 {x y:V} {us:List Value} (r:Vals [x,y] us):∃ u w',us=[u,w']∧RelV x u∧RelV y w':=by
 cases r with
 | cons r1 r2=>
  cases r2 with
  | cons r3 r4=>cases r4;exact ⟨_,_,rfl,r1,r3⟩
theorem call_abs:CallR X (.builtin "abs") (fun xs H Q=>∃ i,xs=[.int i]∧Q (.int (if i<0 then -i else i)) H):=by
 intro pins s σ H xs us Q I r h
 obtain ⟨i,rfl,q⟩:=h
 obtain ⟨u,rfl,t,rfl⟩:=vals1 r
 exact call_abs_int fun u tk=>⟨.int (if i<0 then -i else i),H,I.tok _,⟨_,rfl⟩,q⟩
theorem call_max2 (hc:X.calm=true):CallR X (.builtin "max") (fun xs H Q=>∃ i j,xs=[.int i,.int j]∧Q (.int (if j > i then j else i)) H):=by
 intro pins s σ H xs us Q I r h
 obtain ⟨i,j,rfl,q⟩:=h
 obtain ⟨u,w',rfl,⟨t,rfl⟩,⟨t',rfl⟩⟩:=vals2 r
 refine max_two_ints (I.ok.hd hc) fun h' tk k=>⟨_,H,I.kept k,?_,q⟩
 by_cases hj:j > i
 ·rw [if_pos hj,if_pos hj];exact ⟨_,rfl⟩
 ·rw [if_neg hj,if_neg hj];exact ⟨_,rfl⟩
theorem call_str_int:CallR X (.type "str") (fun xs H Q=>∃ i,xs=[.int i]∧i.natAbs.log2<1920∧Q (.str (toString i)) H):=by
 intro pins s σ H xs us Q I r h
 obtain ⟨i,rfl,hz,q⟩:=h
 obtain ⟨u,rfl,t,rfl⟩:=vals1 r
 exact PySem.P.str_of_int hz ⟨.str _,H,I.tok _,⟨_,rfl⟩,q⟩
def LenV (K:PySem.W.Frag) (x:V) (H:Hp) (n:Nat):Prop:=
 match x with
 | .str y=>y.length≤sizeLine∧n=y.length
 | .byt y=>y.size≤sizeLine∧n=y.size
 | .ref p=>(∃ xs,SqL K H p xs∧n=xs.length)∨∃ xs,SqT K H p xs∧n=xs.length
 | _=>False
end
end L2
namespace L2
open PySem PySem.Spec PyProof.Rows
structure ObjM (h:Heap) (x dx C:Addr) (mA:Str→Option Value):Prop where
 obj:h.get? x=some (PySem.W.instObj C dx)
 ns:h.Ns1 dx mA
 ne:dx≠x
theorem lookIn_ns {h:Heap} {dx:Addr} {mA:Str→Option Value} (n:h.Ns1 dx mA):∃ od,h.get? dx=some od∧∀ name,PySem.W.lookIn name od=some (mA name):=by
 obtain ⟨o,es,ep,ho,hd,hk,_,hm⟩:=n
 refine ⟨o,ho,fun name=>?_⟩
 have e:=hm name
 unfold nsFind findBy at e
 rw [← Array.find?_toList] at e
 unfold PySem.W.lookIn
 rw [hd]
 dsimp only
 split
 ·rename_i y q
  rw [q] at e
  exact congrArg some e
 ·rename_i q
  rw [q] at e
  have a:es.toList.any (·.refKey)=false:=by
   rw [List.any_eq_false]
   intro y hy
   obtain ⟨z,t,hkey⟩:=hk y (Array.mem_toList_iff.mp hy)
   simp [DictEntry.refKey,hkey]
  have a':¬ es.toList.any (·.refKey)=true:=by rw [a];exact Bool.false_ne_true
  rw [if_neg a']
  exact congrArg some e
theorem ObjM.look {h:Heap} {x dx C:Addr} {mA:Str→Option Value} (I:ObjM h x dx C mA):∃ od,PySem.W.InstAt h x (PySem.W.instObj C dx) C (some od)∧∀ name,PySem.W.lookIn name od=some (mA name):=
 let ⟨od,ho,hl⟩:=lookIn_ns I.ns
 ⟨od,⟨I.obj,rfl,rfl,ho⟩,hl⟩
section
variable {prog:Program} {w:World} {A:Around} {E:Value→Shared→Prop} {s:Shared} {K:PySem.W.Frag} {x dx C f:Addr} {mA:Str→Option Value} {name:Str} {v:Value}
theorem get_map {expr:Bool} {Q:Value→Shared→Prop} (X:K.In s.heap) (I:ObjM s.heap x dx C mA) (hg:PySem.W.plainGet K C name=true) (hh:PySem.W.hasDictIn K C=true)
  (ha:PySem.W.findIn K (.ref C) name=some none) (hv:mA name=some v) (hv':PySem.W.handedIn v=true) (h:Q v { s with toks:=s.toks+1 }) :
  wpAny (model prog w) A (getAttr (.ref x) name expr) Q E s:=by
 obtain ⟨od,J,hl⟩:=I.look
 exact PySem.W.get_value X J (PySem.W.plainGet_of hg).1 (PySem.W.findObj_own hh ha rfl (by rw [hl,hv])) hv' h
theorem get_meth {pl:Sem Bool} {Q:Value × List Value→Shared→Prop} (X:K.In s.heap) (I:ObjM s.heap x dx C mA) (hg:PySem.W.plainGet K C name=true)
  (hf:PySem.W.findIn K (.ref C) name=some (some (.ref f))) (ht:PySem.W.isFn K (.ref f)=true) (hv:mA name=none) (h:Q (.ref f,[.ref x]) s) :
  wpAny (model prog w) A (getMethod (.ref x) name pl) Q E s:=by
 obtain ⟨od,J,hl⟩:=I.look
 exact PySem.W.method_fn X J (PySem.W.plainGet_of hg).1 (PySem.W.plainGet_of hg).2 hf (beq_iff_eq.mp ht) (by show (PySem.W.lookIn name od).map (·.isSome)=some false;rw [hl,hv];rfl) h
theorem set_map {ns:List Str} {Q:Unit→Shared→Prop} (X:K.In s.heap) (I:ObjM s.heap x dx C mA)
  (hs:PySem.W.findIn K (.ref C) "__setattr__"=some (some (.builtin "object.__setattr__"))) (hp:PySem.W.plainOver K C=true) (ht:PySem.W.takerIn K C name=some none) (hh:PySem.W.hasDictIn K C=true)
  (hw:PySem.Within mA ns) (hsz:ns.length≤sizeLine)
  (h:∀ h',ObjM h' x dx C (fun y=>if y=name then some v else mA y)→Heap.SameBut dx s.heap h'→Q () { s with heap:=h',toks:=s.toks+2 }) :
  wpAny (model prog w) A (setAttr (.ref x) name v) Q E s:=by
 obtain ⟨od,J,hl⟩:=I.look
 refine PySem.W.set_plain X J hs (PySem.W.osa_open (s:={ s with toks:=s.toks+1 }) (r:=none) X J hp ht fun b=>?_)
 obtain ⟨cd,hc,hd'⟩:=PySem.W.any_some hh
 have hx:s.heap.get? x=some ⟨.ref C,some dx,.plain,#[]⟩:=I.obj
 refine wpAny_bind (wpAny_pure (wpAny_bind (wpAny_bind (wpAny_loadPart hx (wpAny_bind (PySem.W.Looks.here (s:={ s with toks:=s.toks+1 }) (PySem.W.looks_clsIn X hc) ?_))))))
 rw [hd']
 refine wpAny_pure (a:=some dx) (wpAny_bind (wpAny_pure (wpAny_bind ?_)))
 refine wpAny_nsSet1 (s:={ s with toks:=s.toks+1 }) I.ns fun h' hn2 hs2=>?_
 obtain ⟨oD,esD,epD,hoD,hdD,hcD⟩:=hn2.count (PySem.Within.cons name v hw)
 refine wpAny_bind (wpAny_lookBehind hoD (by rw [hdD];exact pastItsLine_dict (Nat.le_trans hcD (by rw [List.length_cons];omega))) ?_)
 exact wpAny_pure (h _ ⟨(hs2.2 _ (Ne.symm I.ne)).trans I.obj,hn2,I.ne⟩ hs2)
theorem make_map {R:Result→Shared→Prop} {vs:List Value} {kw:List (Str × Value)} (X:K.In s.heap) (hm:PySem.W.makesIn K C=true)
  (hi:PySem.W.findIn K (.ref C) "__init__"=some (some (.ref f))) (hf:PySem.W.typeIn K (.ref f)=some (.type "function"))
  (h:codeAny (model prog w) (A.under (.builtin "type.__call__" ⟨.ref C::vs,kw⟩)) (.call (.ref f) ⟨.ref (s.heap.objs.size+1)::vs,kw⟩) (PySem.W.InitBack (s.heap.objs.size+1) R)
   { s with heap:=(s.heap.push PySem.W.emptyDict).push (PySem.W.instObj C s.heap.objs.size) }) :
  codeAny (model prog w) A (.call (.ref C) ⟨vs,kw⟩) R s:=by
 obtain ⟨hh,g,d,t,os⟩:=s
 exact PySem.W.make_core (PySem.W.makes_of X hm) (PySem.W.looks_findIn X hi) (fun self=>PySem.W.bind_fn X self hf) (.inl rfl) h
end
def putF (f:Str) (v:V):List (Str × V)→List (Str × V)
 | []=>[(f,v)]
 | (g,x)::r=>if g=f then (g,v)::r else (g,x)::putF f v r
theorem lookup_putF (f g:Str) (v:V):∀ fs:List (Str × V),(putF f v fs).lookup g=if g=f then some v else fs.lookup g
 | []=>by
  show List.lookup g [(f,v)]=_
  by_cases h:g=f
  ·have hb:(g == f)=true:=beq_iff_eq.mpr h
   simp only [List.lookup,hb,if_pos h]
  ·have hb:(g == f)=false:=beq_eq_false_iff_ne.mpr h
   simp only [List.lookup,hb,if_neg h]
 | (k,x)::r=>by
  have ih:=lookup_putF f g v r
  rw [show putF f v ((k,x)::r)=(if k=f then (k,v)::r else (k,x)::putF f v r) from rfl]
  by_cases hk:k=f
  ·rw [if_pos hk]
   by_cases h:g=k
   ·have hb:(g == k)=true:=beq_iff_eq.mpr h
    simp only [List.lookup,hb,if_pos (h.trans hk)]
   ·have hb:(g == k)=false:=beq_eq_false_iff_ne.mpr h
    simp only [List.lookup,hb,if_neg (fun e:g=f=>h (e.trans hk.symm))]
  ·rw [if_neg hk]
   by_cases h:g=k
   ·have hb:(g == k)=true:=beq_iff_eq.mpr h
    simp only [List.lookup,hb,if_neg (fun e:g=f=>hk (h.symm.trans e))]
   ·have hb:(g == k)=false:=beq_eq_false_iff_ne.mpr h
    simp only [List.lookup,hb]
    exact ih
theorem keys_putF (f:Str) (v:V):∀ fs:List (Str × V),f∈(putF f v fs).map (·.1)∧∀ g,g∈fs.map (·.1)→g∈(putF f v fs).map (·.1)
 | []=>⟨by simp [putF],fun g h=>by simp at h⟩
 | (k,x)::r=>by
  obtain ⟨i1,i2⟩:=keys_putF f v r
  rw [show putF f v ((k,x)::r)=(if k=f then (k,v)::r else (k,x)::putF f v r) from rfl]
  by_cases hk:k=f
  ·rw [if_pos hk]
   subst hk
   exact ⟨by simp,fun g h=>by simpa using h⟩
  ·rw [if_neg hk]
   refine ⟨?_,fun g h=>?_⟩
   ·rw [List.map_cons]
    exact List.mem_cons_of_mem _ i1
   ·rw [List.map_cons] at h ⊢
    rcases List.mem_cons.mp h with e | e
    ·exact List.mem_cons.mpr (.inl e)
    ·exact List.mem_cons_of_mem _ (i2 g e)
theorem length_putF (f:Str) (v:V):∀ fs:List (Str × V),(putF f v fs).length≤fs.length+1
 | []=>by simp [putF]
 | (k,x)::r=>by
  have ih:=length_putF f v r
  rw [show putF f v ((k,x)::r)=(if k=f then (k,v)::r else (k,x)::putF f v r) from rfl]
  by_cases hk:k=f
  ·rw [if_pos hk,List.length_cons,List.length_cons];omega
  ·rw [if_neg hk,List.length_cons,List.length_cons];omega
theorem RelO.some_of {v:V} {o:Option Value} (r:RelO (some v) o):∃ u,o=some u∧RelV v u:=by
 cases o with
 | none=>exact (show False from r).elim
 | some u=>exact ⟨u,rfl,r⟩
theorem RelO.none_of {o:Option Value} (r:RelO none o):o=none:=by
 cases o with
 | none=>rfl
 | some u=>exact (show False from r).elim
theorem handed_of {v:V} {u:Value} (r:RelV v u):PySem.W.handedIn u=true:=by
 cases v with
 | non=>cases (show u=Value.none from r);rfl
 | bl b=>cases (show u=Value.bool b from r);rfl
 | int i=>obtain ⟨t,e⟩:=(show ∃ t,u=Value.int i t from r);cases e;rfl
 | str x=>obtain ⟨t,e⟩:=(show ∃ t,u=Value.str x t from r);cases e;rfl
 | byt b=>obtain ⟨t,e⟩:=(show ∃ t,u=Value.bytes b t from r);cases e;rfl
 | flt b=>obtain ⟨t,e⟩:=(show ∃ t,u=Value.float b t from r);cases e;rfl
 | ref a=>cases (show u=Value.ref a from r);rfl
 | ty n=>cases (show u=Value.type n from r);rfl
section
variable {P:Program} {w:World} {H H':Hp} {h h':Heap} {a C dx:Addr} {fs fs':List (Str × V)}
theorem ins_get (hok:HOk P w H h) (e:H a=some (.ins C dx fs)):∃ mA,ObjM h a dx C mA∧(∀ f,RelO (fs.lookup f) (mA f))∧PySem.Within mA (fs.map (·.1))∧fs.length≤1000∧H dx=some (.own a):=by
 obtain ⟨d,z,ne,ob,mA,n,r,q⟩:=(show ObjOk P w H h a (.ins C dx fs) from hok a _ e)
 exact ⟨mA,⟨ob,n,ne⟩,r,q,z,d⟩
end
structure Cls (K:PySem.W.Frag) (C:Addr):Prop where
 pg:PySem.W.plainGet K C Str.empty=true
 hd:PySem.W.hasDictIn K C=true
 po:PySem.W.plainOver K C=true
 sa:PySem.W.findIn K (.ref C) "__setattr__"=some (some (.builtin "object.__setattr__"))
theorem Cls.get {K:PySem.W.Frag} {C:Addr} (c:Cls K C) (f:Str):PySem.W.plainGet K C f=true:=c.pg
def NoAttr (K:PySem.W.Frag) (C:Addr) (f:Str):Prop:=PySem.W.findIn K (.ref C) f=some none
theorem NoAttr.taker {K:PySem.W.Frag} {C:Addr} {f:Str} (n:NoAttr K C f):PySem.W.takerIn K C f=some none:=by
 unfold PySem.W.takerIn
 rw [show PySem.W.findIn K (.ref C) f=some none from n]
 rfl
structure Con (K:PySem.W.Frag) (C:Addr) (f:Str) (v:V) (u:Value):Prop where
 at_:PySem.W.findIn K (.ref C) f=some (some u)
 rel:RelV v u
 get:PySem.W.specialIn K u "__get__"=some none
 cp:PySem.W.copiedNames.contains f=false
structure Meth (K:PySem.W.Frag) (C:Addr) (m:Str) (f:Addr):Prop where
 at_:PySem.W.findIn K (.ref C) m=some (some (.ref f))
 fn:PySem.W.isFn K (.ref f)=true
 kp:PySem.W.keepIn K (.ref f)=true
section
variable {X:Cx} {pins:List (Addr × Obj)} {σ:St} {H:Hp} {s:Shared} {a C dx:Addr} {fs:List (Str × V)} {f:Str} {v:V} {A:Around} {E:Value→Shared→Prop}
theorem getattr_ok {b:Bool} {Q:Value→Shared→Prop} (I:Inv X pins σ H s) (e:H a=some (.ins C dx fs)) (c:Cls X.K C) (n:NoAttr X.K C f) (l:fs.lookup f=some v)
  (h:∀ u s',Inv X pins σ H s'→RelV v u→Q u s'):wpAny (model X.prog X.w) A (getAttr (.ref a) f b) Q E s:=by
 obtain ⟨mA,O,r,_,_,_⟩:=ins_get I.hok e
 obtain ⟨u,hu,ru⟩:=RelO.some_of (v:=v) (o:=mA f) (by rw [← l];exact r f)
 exact get_map I.kIn O (c.get f) c.hd n hu (handed_of ru) (h u _ (I.tok _) ru)
theorem getmeth_ok {m:Str} {g:Addr} {pl:Sem Bool} {Q:Value × List Value→Shared→Prop} (I:Inv X pins σ H s) (e:H a=some (.ins C dx fs)) (c:Cls X.K C) (k:Meth X.K C m g) (l:fs.lookup m=none)
  (h:Q (.ref g,[.ref a]) s):wpAny (model X.prog X.w) A (getMethod (.ref a) m pl) Q E s:=by
 obtain ⟨mA,O,r,_,_,_⟩:=ins_get I.hok e
 have hn:mA m=none:=RelO.none_of (by rw [← l];exact r m)
 exact get_meth I.kIn O (c.get m) k.at_ k.fn hn h
theorem setattr_ok {y:V} {u:Value} {Q:Unit→Shared→Prop} (I:Inv X pins σ H s) (e:H a=some (.ins C dx fs)) (c:Cls X.K C) (n:NoAttr X.K C f) (hl:fs.length<1000) (ry:RelV y u)
  (h:∀ s',Inv X pins σ (upd H a (.ins C dx (putF f y fs))) s'→Q () s'):wpAny (model X.prog X.w) A (setAttr (.ref a) f u) Q E s:=by
 obtain ⟨mA,O,r,wi,_,ho⟩:=ins_get I.hok e
 have hz:(fs.map (·.1)).length≤sizeLine:=by rw [List.length_map,sizeLine_eq];omega
 refine set_map I.kIn O c.sa c.po n.taker c.hd wi hz fun h' O' sb=>h _ ?_
 have hd:∃ o,h'.get? dx=some o:=let ⟨o,_,_,e',_⟩:=O'.ns;⟨o,e'⟩
 refine I.write (x:=a) (e:=dx) (by rw [e];exact True.intro) (.inr ho) (fun b q hb z=>(sb.2 b hb).trans z) hd ?_
 refine ⟨by rw [upd_ne O.ne];exact ho,?_,O.ne,O'.obj,_,O'.ns,fun g=>?_,fun g hg=>?_⟩
 ·have:=length_putF f y fs;omega
 ·show RelO ((putF f y fs).lookup g) (if g=f then some u else mA g)
  rw [lookup_putF]
  by_cases q:g=f
  ·rw [if_pos q,if_pos q];exact ry
  ·rw [if_neg q,if_neg q];exact r g
 ·by_cases q:g=f
  ·rw [q];exact (keys_putF f y fs).1
  ·refine (keys_putF f y fs).2 g (wi g fun z=>hg ?_)
   show (if g=f then some u else mA g)=none
   rw [if_neg q];exact z
theorem Inv.made (I:Inv X pins σ H s):Inv X pins σ (upd (upd H s.heap.objs.size (.own (s.heap.objs.size+1))) (s.heap.objs.size+1) (.ins C s.heap.objs.size []))
  { s with heap:=(s.heap.push PySem.W.emptyDict).push (PySem.W.instObj C s.heap.objs.size) }:=by
 have e1:(s.heap.push PySem.W.emptyDict).get? s.heap.objs.size=some PySem.W.emptyDict:=Heap.get?_push_size s.heap rfl
 have e2:((s.heap.push PySem.W.emptyDict).push (PySem.W.instObj C s.heap.objs.size)).get? (s.heap.objs.size+1)=some (PySem.W.instObj C s.heap.objs.size):=by
  have:=Heap.get?_push_size (s.heap.push PySem.W.emptyDict) (o:=PySem.W.instObj C s.heap.objs.size) rfl
  rwa [Heap.size_push] at this
 have e3:(s.heap.push PySem.W.emptyDict).Ns s.heap.objs.size (fun _=>none):=⟨PySem.W.emptyDict,#[],_,e1,rfl,(fun e he=>absurd he (by simp)),fun _=>rfl⟩
 have I1:=I.laid (a:=s.heap.objs.size) (o:=.own (s.heap.objs.size+1)) (h':=s.heap.push PySem.W.emptyDict) (t':=s.toks) (fun b u q=>Heap.get?_push_of_some _ q) (Nat.le_refl _) ⟨_,e1⟩
 refine I1.laid (a:=s.heap.objs.size+1) (o:=.ins C s.heap.objs.size []) (t':=s.toks) (fun b u q=>Heap.get?_push_of_some _ q) (Nat.le_of_eq (Heap.size_push _ _)) ?_
 have ne:s.heap.objs.size≠s.heap.objs.size+1:=Nat.ne_of_lt (Nat.lt_succ_self _)
 refine ⟨by rw [upd_ne ne,upd_same],Nat.zero_le _,ne,e2,fun _=>none,(Heap.Ns1.of_empty e3).at fun o q=>Heap.get?_push_of_some _ q,fun _=>True.intro,fun y hy=>absurd rfl hy⟩
theorem attr_of {prog:Program} {w:World} {env:Env} {e:Expr} {f:Str} {pos:Pos} {s:Shared} {Q:Value→Shared→Prop} (hb:attributeBase e f env (eval e env)=eval e env)
  (h:wpAny (model prog w) A (eval e env) (fun o s₁=>wpAny (model prog w) A (getAttr o f true) Q E s₁) E s):wpAny (model prog w) A (eval (.Attribute e f pos) env) Q E s:=
 Attribute_any_ h (by rw [arm_eval_Attribute,hb])
end
inductive ItFld (K:PySem.W.Frag) (f:Str) (Q:VK) (x:V) (H1:Hp):Prop
 | mk (a:_) (C:_) (dx:_) (fs:_) (v:_) (h1:x=.ref a) (h2:H1 a=some (.ins C dx fs)) (h3:Cls K C) (h4:NoAttr K C f) (h5:fs.lookup f=some v) (h6:Q v H1):ItFld K f Q x H1
def tFld (K:PySem.W.Frag) (ta:TE) (f:Str):TE:=fun σ H Q=>ta σ H fun x H1=>ItFld K f Q x H1
def tCon (K:PySem.W.Frag) (ta:TE) (f:Str):TE:=fun σ H Q=>ta σ H fun x H1=>∃ a C dx fs v u,x=.ref a∧H1 a=some (.ins C dx fs)∧Cls K C∧Con K C f v u∧fs.lookup f=none∧Q v H1
def sFld (K:PySem.W.Frag) (ta tv:TE) (f:Str):TS:=fun D σ H=>tv σ H fun y H1=>ta σ H1 fun x H2=>∃ a C dx fs,x=.ref a∧H2 a=some (.ins C dx fs)∧Cls K C∧NoAttr K C f∧fs.length<1000∧
 D.nx σ (upd H2 a (.ins C dx (putF f y fs)))
def InOp (X:Cx) (op:Operator) (rd:V→V→Hp→VK→Prop):Prop:=
 ∀ (pins:List (Addr × Obj)) (s:Shared) (σ:St) (H:Hp) (x y:V) (u v:Value) (Q:VK),Inv X pins σ H s→RelV x u→RelV y v→rd x y H Q→wpAny (model X.prog X.w) X.A (inplaceOp op u v) (EP X pins σ Q) X.xe s
def sFldAug (K:PySem.W.Frag) (ta tv:TE) (rd:V→V→Hp→VK→Prop) (f:Str):TS:=fun D σ H=>ta σ H fun x H1=>∃ a C dx fs v,x=.ref a∧H1 a=some (.ins C dx fs)∧Cls K C∧NoAttr K C f∧fs.lookup f=some v∧
 tv σ H1 fun y H2=>rd v y H2 fun z H3=>∃ dx' fs',H3 a=some (.ins C dx' fs')∧fs'.length<1000∧D.nx σ (upd H3 a (.ins C dx' (putF f z fs')))
section
variable {X:Cx} {o e value:Expr} {f:Str} {pos pos' tpos:Pos} {ta tv:TE}
theorem pe_fld (he:PE X e ta) (hb:attributeBase e f X.env (eval e X.env)=eval e X.env):PE X (.Attribute e f pos) (tFld X.K ta f):=by
 intro pins s σ H Q I h
 refine attr_of hb (thn (he pins s σ H _ I h) fun u s1 ⟨x,H1,I1,rx,a,C,dx,fs,v,ex,ea,c,n,l,q⟩=>?_)
 subst ex
 obtain rfl:u=Value.ref a:=rx
 exact getattr_ok I1 ea c n l fun u' s2 I2 ru=>⟨v,H1,I2,ru,q⟩
theorem ps_fld (ha:PE X o ta) (hv:PE X value tv) (hs:swapsWith value (some (.Attribute o f pos')) pos.line X.env=pure false):PS X (.Assign [.Attribute o f pos'] value pos) (sFld X.K ta tv f):=by
 intro pins s σ H D I h
 refine plainObj_wpAny_Assign_Attribute (thn (hv pins s σ H _ I h) fun u s1 ⟨y,H1,I1,ry,q⟩=>thn (ha pins s1 σ H1 _ I1 q) fun ov s2 ⟨x,H2,I2,rx,a,C,dx,fs,ex,ea,c,n,l,q2⟩=>?_) hs
 subst ex
 obtain rfl:ov=Value.ref a:=rx
 exact setattr_ok I2 ea c n l ry fun s3 I3=>⟨σ,_,I3,q2⟩
def rAdd:V→V→Hp→VK→Prop:=fun x y H Q=>∃ i j,x=.int i∧y=.int j∧Q (.int (i+j)) H
def rSub:V→V→Hp→VK→Prop:=fun x y H Q=>∃ i j,x=.int i∧y=.int j∧Q (.int (i-j)) H
end
section
variable {X:Cx} {pins:List (Addr × Obj)} {σ:St} {H:Hp} {s:Shared} {A:Around} {E:Value→Shared→Prop} {Q:Value→Shared→Prop} {c:Value} {b:Bool}
inductive TyOf (K:PySem.W.Frag) (H:Hp):V→Value→Prop where
 | non:TyOf K H .non (.type "NoneType")
 | bl (x:Bool):TyOf K H (.bl x) (.type "bool")
 | int (i:Int):TyOf K H (.int i) (.type "int")
 | str (x:Str):TyOf K H (.str x) (.type "str")
 | flt (x:UInt64):TyOf K H (.flt x) (.type "float")
 | lst {a:Addr} {xs:List V} (e:H a=some (.lst xs)):TyOf K H (.ref a) (.type "list")
 | frz {a:Addr} {o:Obj} {xs:List V} (e:H a=some (.frz o (.lst xs))):TyOf K H (.ref a) (.type "list")
 | tup {a:Addr} {xs:List V} (e:H a=some (.tup xs)):TyOf K H (.ref a) (.type "tuple")
 | dK {a:Addr} {kvs:List (Key × V)} (e:H a=some (.dK kvs)):TyOf K H (.ref a) (.type "dict")
 | dT {a:Addr} {kvs:List (List Key × V)} (e:H a=some (.dT kvs)):TyOf K H (.ref a) (.type "dict")
 | ins {a C dx:Addr} {fs:List (Str × V)} (e:H a=some (.ins C dx fs)) (cl:Cls K C) (ha:PySem.W.findIn K (.ref C) "__class__"=some (some (.builtin "object.__class__")))
   (hn:PySem.W.specialIn K (.builtin "object.__class__") "__get__"=some (some (.builtin "getset_descriptor.__get__"))) (htk:PySem.W.takesIn K (.builtin "object.__class__")=some true)
   (hm:PySem.W.mroIn K C (.type "object")=some true):TyOf K H (.ref a) (.ref C)
theorem isinst_ok {x:V} {u t:Value} (I:Inv X pins σ H s) (rx:RelV x u) (ty:TyOf X.K H x t) (e:PySem.W.kitOne X.K t c=some b) (h:∀ tk,Q (.bool b) { s with toks:=tk }) :
  wpAny (model X.prog X.w) A (call (.builtin "isinstance") [u,c]) Q E s:=by
 cases ty with
 | non=>cases (show u=Value.none from rx);exact PySem.W.kia_one PySem.W.kitx_none I.kIn True.intro e (fun z=>nomatch z) h
 | bl y=>cases (show u=Value.bool y from rx);exact PySem.W.kia_one PySem.W.kitx_bool I.kIn True.intro e (fun z=>nomatch z) h
 | int i=>obtain ⟨t,q⟩:=(show ∃ t,u=Value.int i t from rx);cases q;exact PySem.W.kia_one PySem.W.kitx_int I.kIn True.intro e (fun z=>nomatch z) h
 | str y=>obtain ⟨t,q⟩:=(show ∃ t,u=Value.str y t from rx);cases q;exact PySem.W.kia_one PySem.W.kitx_str I.kIn True.intro e (fun z=>nomatch z) h
 | flt y=>obtain ⟨t,q⟩:=(show ∃ t,u=Value.float y t from rx);cases q;exact PySem.W.kia_one PySem.W.kitx_float I.kIn True.intro e (fun z=>nomatch z) h
 | @lst a xs ea=>
  cases (show u=Value.ref a from rx)
  obtain ⟨_,_,n,_,h1⟩:=(show ObjOk X.prog X.w H s.heap a (.lst xs) from I.hok a _ ea)
  exact PySem.W.kia_one PySem.W.kitx_list I.kIn ⟨_,h1,rfl⟩ e (fun z=>nomatch z) h
 | @frz a ob xs ea=>
  cases (show u=Value.ref a from rx)
  obtain ⟨_,_,_,n,_,h1⟩:=(show ObjOk X.prog X.w H s.heap a (.frz ob (.lst xs)) from I.hok a _ ea)
  exact PySem.W.kia_one PySem.W.kitx_list I.kIn ⟨_,h1,rfl⟩ e (fun z=>nomatch z) h
 | @tup a xs ea=>
  cases (show u=Value.ref a from rx)
  obtain ⟨_,_,_,p⟩:=(show ObjOk X.prog X.w H s.heap a (.tup xs) from I.hok a _ ea)
  obtain ⟨o,h1,h2,_⟩:=p
  exact PySem.W.kia_one PySem.W.kitx_tuple I.kIn ⟨o,h1,h2⟩ e (fun z=>nomatch z) h
 | @dK a kvs ea=>
  cases (show u=Value.ref a from rx)
  obtain ⟨_,_,vs,_,p⟩:=(show ObjOk X.prog X.w H s.heap a (.dK kvs) from I.hok a _ ea)
  obtain ⟨o,es,ep,h1,h2,_⟩:=p
  exact PySem.W.kia_one PySem.W.kitx_dict I.kIn ⟨o,h1,h2.1⟩ e (fun z=>nomatch z) h
 | @dT a kvs ea=>
  cases (show u=Value.ref a from rx)
  obtain ⟨_,_,xs,_,o,es,ep,h1,h2,_⟩:=(show ObjOk X.prog X.w H s.heap a (.dT kvs) from I.hok a _ ea)
  exact PySem.W.kia_one PySem.W.kitx_dict I.kIn ⟨o,h1,h2.1⟩ e (fun z=>nomatch z) h
 | @ins a C dx fs ea cl ha hn htk hm=>
  cases (show u=Value.ref a from rx)
  obtain ⟨mA,O,_⟩:=ins_get I.hok ea
  obtain ⟨od,J,_⟩:=O.look
  exact PySem.W.kia_one (PySem.W.kitx_own (cl.get _) cl.hd ha hn htk hm) I.kIn J e (fun z=>nomatch z) h
end
end L2
namespace L2
open PySem PySem.Spec PyProof.Rows
structure Room (k:Nat) (A:Around):Prop where
 hd:A.handled=none
 dp:A.depth+3*k+5<recursionLimit
 un:A.units+16*k+200<cLine
theorem Room.mono {j k:Nat} {A:Around} (r:Room k A) (h:j≤k):Room j A:=⟨r.hd,by have:=r.dp;omega,by have:=r.un;omega⟩
theorem Room.deeper {k:Nat} {A:Around} (r:Room (k+1) A) (env:Env):Room k (A.deeper env):=
 ⟨r.hd,by have:=r.dp;show A.depth+1+3*k+5<_;omega,by have:=r.un;show A.units+3+16*k+200<_;omega⟩
theorem make_depth {A:Around} {C:Addr} {us:List Value} {kw:List (Str × Value)}:(A.under (.builtin "type.__call__" ⟨.ref C::us,kw⟩)).depth=A.depth+1:=by
 first | rfl | simp [Around.under,Code.weight,Code.isCreation,Code.isGuard,Code.isCaller,Code.frames,Code.isFrame,guardIds]
theorem make_units {A:Around} {C:Addr} {us:List Value} {kw:List (Str × Value)}:(A.under (.builtin "type.__call__" ⟨.ref C::us,kw⟩)).units=A.units+1:=by
 first | rfl | simp [Around.under,Code.cUnits,Code.frames,Code.isFrame]
theorem Room.make {k:Nat} {A:Around} (r:Room (k+1) A) (C:Addr) (us:List Value) (kw:List (Str × Value)):Room k (A.under (.builtin "type.__call__" ⟨.ref C::us,kw⟩)):=
 ⟨r.hd,by have:=r.dp;rw [make_depth];omega,by have:=r.un;rw [make_units];omega⟩
theorem Room.depth {k:Nat} {A:Around} (r:Room k A):A.depth<recursionLimit:=by have:=r.dp;omega
theorem Room.units {k:Nat} {A:Around} (r:Room k A):A.units+64<cLine:=by have:=r.un;omega
theorem Room.units0 {k:Nat} {A:Around} (r:Room k A):A.units<cLine:=by have:=r.un;omega
def tNil:TA:=fun _ H Q=>Q [] H
def tCons (ta:TE) (tr:TA):TA:=fun σ H Q=>ta σ H fun x H1=>tr σ H1 fun xs H2=>Q (x::xs) H2
section
variable {X:Cx} {e:Expr} {es:List Expr} {te:TE} {t:TA} {pos:Pos}
theorem pa_nil:PA X [] tNil:=fun _ _ _ _ H Q I h=>Calls.spliced_nil ⟨[],H,I,.nil,h⟩
theorem pa_cons (ha:PE X e te) (hr:PA X es t) (hs:starEach (e::es) X.env=(false,eval e X.env)::starEach es X.env:=by rfl):PA X (e::es) (tCons te t):=by
 intro pos pins s σ H Q I h
 rw [hs]
 show wpAny _ _ (spliced ((false,eval e X.env)::backTo pos (starEach es X.env))) _ _ s
 refine Calls.spliced_cons (thn (ha pins s σ H _ I h) fun u s1 ⟨x,H1,I1,r1,q1⟩=>?_)
 exact thn (hr pos pins s1 σ H1 _ I1 q1) fun us s2 ⟨xs,H2,I2,r2,q2⟩=>⟨x::xs,H2,I2,.cons r1 r2,q2⟩
def tTup (t:TA):TE:=fun σ H Q=>t σ H fun xs H1=>xs.length≤sizeLine∧∀ p,H1 p=none→Q (.ref p) (upd H1 p (.tup xs))
def tLst (t:TA):TE:=fun σ H Q=>t σ H fun xs H1=>xs.length≤sizeLine∧∀ p,H1 p=none→Q (.ref p) (upd H1 p (.lst xs))
theorem pe_tup {x1} (h:PA X es t):PE X (.Tuple es x1 pos) (tTup t):=by
 intro pins s σ H Q I hq
 refine wpAny_Tuple_spliced (thn (h pos pins s σ H _ I hq) fun us s1 ⟨xs,H1,I1,r,z,q⟩=>⟨by rw [← r.length];exact z,?_⟩)
 have hf:H1 s1.heap.objs.size=none:=I1.hok.fresh (Nat.le_refl _)
 refine ⟨.ref s1.heap.objs.size,upd H1 s1.heap.objs.size (.tup xs),I1.laid (t':=s1.toks) (fun b u e=>Heap.get?_push_of_some _ e) (Nat.le_refl _) ?_,rfl,q _ hf⟩
 exact ⟨z,us,r,⟨_,Heap.get?_push_size _ rfl,rfl,_,rfl⟩⟩
theorem pe_lst (h:PA X es t):PE X (.List es pos) (tLst t):=by
 intro pins s σ H Q I hq
 refine wpAny_List_spliced (thn (h pos pins s σ H _ I hq) fun us s1 ⟨xs,H1,I1,r,z,q⟩=>⟨by rw [← r.length];exact z,?_⟩)
 have hf:H1 s1.heap.objs.size=none:=I1.hok.fresh (Nat.le_refl _)
 refine ⟨.ref s1.heap.objs.size,upd H1 s1.heap.objs.size (.lst xs),I1.laid (t':=s1.toks) (fun b u e=>Heap.get?_push_of_some _ e) (Nat.le_refl _) ?_,rfl,q _ hf⟩
 exact ⟨z,us,0,r,Heap.get?_push_size _ rfl⟩
end
abbrev Sp:=List V→Hp→VK→XK→Prop
abbrev CXT:=List Env→Hp→Shared→XK→Value→Shared→Prop
structure Env0 (P:Program) (w:World) (K:PySem.W.Frag) (mg:Str→Option Value) (base:Heap) (A:Around) (outer:List Env) (s:Shared) (H:Hp):Prop where
 frames:A.frames=some outer
 mod:Mod K mg base
 bs:∀ b o,base.get? b=some o→s.heap.get? b=some o∧H b=none
 bsz:base.objs.size≤s.heap.objs.size
 funs:s.heap.FunFrames base outer
 frf:∀ b∈frs outer,H b=none
 hok:HOk P w H s.heap
 bare:AllBare s.gens
def CE (outer:List Env) (P:Program) (w:World) (H:Hp) (s:Shared) (Q:VK) (u:Value) (s':Shared):Prop:=
 ∃ v H',s'.os=s.os∧AllBare s'.gens∧Un (frs outer) [] H H' s.heap s'.heap∧HOk P w H' s'.heap∧RelV v u∧Q v H'
def CR (CX:CXT) (outer:List Env) (P:Program) (w:World) (H:Hp) (s:Shared) (Q:VK) (E:XK) (r:Result) (s':Shared):Prop:=
 match r with
 | .ok (.ret u)=>CE outer P w H s Q u s'
 | .ok _=>False
 | .error e=>CX outer H s E e s'
structure FnOk (P:Program) (w:World) (K:PySem.W.Frag) (mg:Str→Option Value) (base:Heap) (CX:CXT) (k:Nat) (f:Addr) (fd:FuncData) (ps:List Str) (sp:Sp):Prop where
 len:∀ vs H Q E,sp vs H Q E→vs.length=ps.length
 run:∀ (A:Around) (outer:List Env) (s:Shared) (H:Hp) (args:Args) (us:List Value) (vs:List V) (Q:VK) (E:XK),Room k A→Env0 P w K mg base A outer s H→BindsTo s fd args (ps.zip us)→Vals vs us→sp vs H Q E→
  codeAny (model P w) A (.call (.ref f) args) (CR CX outer P w H s Q E) s
theorem Env0.make {P:Program} {w:World} {K:PySem.W.Frag} {mg:Str→Option Value} {base:Heap} {A:Around} {outer:List Env} {s:Shared} {H:Hp} (e:Env0 P w K mg base A outer s H) (C:Addr) (us:List Value) (kw:List (Str × Value)) :
  Env0 P w K mg base (A.under (.builtin "type.__call__" ⟨.ref C::us,kw⟩)) outer s H:=⟨by first | exact e.frames | (simpa [Around.under,Code.envs,Code.isFrame,pushEnvs] using e.frames),e.mod,e.bs,e.bsz,e.funs,e.frf,e.hok,e.bare⟩
section
variable {X:Cx} {pins:List (Addr × Obj)} {σ:St} {H:Hp} {s s':Shared}
theorem Inv.env0 (I:Inv X pins σ H s):Env0 X.prog X.w X.K X.mg X.base X.A X.stack s H:=
 ⟨I.ok.frames,I.ok.mod,I.bs,Nat.le_trans I.ok.bsz I.sz,I.stack,I.stkFree,I.hok,I.bare⟩
theorem Inv.after {Q:VK} {u:Value} (I:Inv X pins σ H s) (h:CE X.stack X.prog X.w H s Q u s'):EP X pins σ Q u s':=by
 obtain ⟨v,H',os,bare,un,hok,r,q⟩:=h
 obtain ⟨hh,g,d,t,os'⟩:=s'
 obtain rfl:os'=s.os:=os
 exact ⟨v,H',I.call (h':=hh) (g':=g) (d':=d) (t':=t) (ch:=[]) un hok bare (fun b z=>absurd z (by simp)),r,q⟩
end
def tCall (sp:Sp) (dvs:List V) (E:XK) (t:TA):TE:=fun σ H Q=>t σ H fun vs H1=>sp (vs++dvs) H1 Q E
inductive ItMeth (C:Addr) (m:Str) (sp:Sp) (dvs:List V) (E:XK) (t:TA) (σ:St) (Q:VK) (x:V) (H1:Hp):Prop
 | mk (a:_) (dx:_) (fs:_) (h1:x=.ref a) (h2:H1 a=some (.ins C dx fs)) (h3:fs.lookup m=none) (h4:t σ H1 fun vs H2=>sp (x::(vs++dvs)) H2 Q E):ItMeth C m sp dvs E t σ Q x H1
def tMeth (C:Addr) (m:Str) (sp:Sp) (dvs:List V) (E:XK) (ta:TE) (t:TA):TE:=fun σ H Q=>ta σ H fun x H1=>ItMeth C m sp dvs E t σ Q x H1
def tMake (C:Addr) (sp:Sp) (dvs:List V) (E:XK) (t:TA):TE:=fun σ H Q=>t σ H fun vs H1=>∀ x dx,H1 x=none→H1 dx=none→dx≠x→
 sp (.ref x::(vs++dvs)) (upd (upd H1 dx (.own x)) x (.ins C dx [])) (fun v H2=>v=.non∧Q (.ref x) H2) E
def Binds (K:PySem.W.Frag) (fd:FuncData) (ps:List Str) (ds:List Value):Prop:=
 ∀ (s:Shared) (us:List Value),K.In s.heap→(us++ds).length=ps.length→BindsTo s fd ⟨us,[]⟩ (ps.zip (us++ds))
theorem Binds.all {K:PySem.W.Frag} {fd:FuncData} {ps:List Str} (h:∀ us:List Value,us.length=ps.length→bindArgs fd ⟨us,[]⟩=pure (ps.zip us)):Binds K fd ps []:=fun s us _ hl=>by
 rw [List.append_nil] at hl ⊢
 exact .of_eq (h us hl)
def Passes (CX:CXT) (X:Cx) (E:XK):Prop:=∀ (pins:List (Addr × Obj)) (σ:St) (H:Hp) (s:Shared) (e:Value) (s':Shared),Inv X pins σ H s→CX X.stack H s E e s'→X.xe e s'
section
variable {X:Cx} {CX:CXT} {k:Nat} {f C:Addr} {fd:FuncData} {ps:List Str} {sp:Sp} {dvs:List V} {ds:List Value} {E:XK} {x m:Str} {p pos apos:Pos} {e o:Expr} {es:List Expr} {ta:TE} {t:TA}
theorem run_fn {pins:List (Addr × Obj)} {σ:St} {H:Hp} {s:Shared} {Q:VK} {us:List Value} {vs:List V} (F:FnOk X.prog X.w X.K X.mg X.base CX k f fd ps sp) (hr:Room k X.A) (hb:Binds X.K fd ps ds) (hd:Vals dvs ds) (hx:Passes CX X E)
  (I:Inv X pins σ H s) (r:Vals vs us) (h:sp (vs++dvs) H Q E):wpAny (model X.prog X.w) X.A (call (.ref f) us) (EP X pins σ Q) X.xe s:=by
 have r2:Vals (vs++dvs) (us++ds):=r.append hd
 have hl:(us++ds).length=ps.length:=by rw [← r2.length];exact F.len _ _ _ _ h
 refine wpAny_call (codeAny_mono (F.run X.A X.stack s H ⟨us,[]⟩ (us++ds) (vs++dvs) Q E hr I.env0 (hb s us I.kIn hl) r2 h) fun r s' hq=>?_)
 cases r with
 | error e=>exact hx pins σ H s e s' I hq
 | ok fl=>
  cases fl with
  | ret u=>exact I.after hq
  | next=>exact False.elim hq
  | brk=>exact False.elim hq
  | cont=>exact False.elim hq
theorem pe_call (F:FnOk X.prog X.w X.K X.mg X.base CX k f fd ps sp) (hr:Room k X.A) (hg:Gl X x) (hm:X.mg x=some (.ref f)) (hk:PySem.W.keepIn X.K (.ref f)=true) (hb:Binds X.K fd ps ds) (hd:Vals dvs ds) (hx:Passes CX X E)
  (ha:PA X (e::es) t) (hdb:(x == ("__debug__":Str))=false:=by decide) (he:starEach (e::es) X.env=(false,eval e X.env)::starEach es X.env:=by rfl) (hpl:(backTo pos (starEach es X.env)).any (·.1)=false:=by rfl) :
  PE X (.Call (.Name x p) (e::es) [] pos) (tCall sp dvs E t):=by
 intro pins s σ H Q I h
 refine wpAny_Call_Name_kw (ld_glob I hg hm ?_ hdb)
 refine PySem.W.callWith_K (h₀:=X.base) I.ok.mod.kin hk (thn (ha pos pins s σ H _ I h) fun us s1 ⟨vs,H1,I1,r,q⟩=>⟨I1.kIn,?_⟩) he hpl
 exact run_fn F hr hb hd hx I1 r q
structure Mk (K:PySem.W.Frag) (C f:Addr):Prop where
 makes:PySem.W.makesIn K C=true
 init:PySem.W.findIn K (.ref C) "__init__"=some (some (.ref f))
 fn:PySem.W.isFn K (.ref f)=true
 kp:PySem.W.keepIn K (.ref C)=true
theorem run_make {pins:List (Addr × Obj)} {σ:St} {H:Hp} {s:Shared} {Q:VK} {us:List Value} {vs:List V} (M:Mk X.K C f) (F:FnOk X.prog X.w X.K X.mg X.base CX k f fd ps sp) (hr:Room (k+1) X.A) (hb:Binds X.K fd ps ds) (hd:Vals dvs ds)
  (hx:Passes CX X E) (I:Inv X pins σ H s) (r:Vals vs us)
  (h:∀ x dx,H x=none→H dx=none→dx≠x→sp (.ref x::(vs++dvs)) (upd (upd H dx (.own x)) x (.ins C dx [])) (fun v H2=>v=.non∧Q (.ref x) H2) E) :
  wpAny (model X.prog X.w) X.A (call (.ref C) us) (EP X pins σ Q) X.xe s:=by
 have hq:=h (s.heap.objs.size+1) s.heap.objs.size (I.hok.fresh (Nat.le_succ _)) (I.hok.fresh (Nat.le_refl _)) (Nat.ne_of_lt (Nat.lt_succ_self _))
 have I2:=Inv.made (C:=C) I
 have r2:Vals (V.ref (s.heap.objs.size+1)::(vs++dvs)) (Value.ref (s.heap.objs.size+1)::(us++ds)):=.cons rfl (r.append hd)
 have hl:(Value.ref (s.heap.objs.size+1)::us++ds).length=ps.length:=by
  have e:=r2.length
  rw [F.len _ _ _ _ hq] at e
  exact e.symm
 refine wpAny_call (make_map (f:=f) I.kIn M.makes M.init (beq_iff_eq.mp M.fn) (codeAny_mono (F.run _ X.stack _ _ ⟨Value.ref (s.heap.objs.size+1)::us,[]⟩ (Value.ref (s.heap.objs.size+1)::(us++ds)) _ _ E (hr.make C us [])
  (I2.env0.make C us []) (hb _ (Value.ref (s.heap.objs.size+1)::us) I2.kIn hl) r2 hq) fun r s' hq'=>?_))
 cases r with
 | error e=>exact hx pins σ _ _ e s' I2 hq'
 | ok fl=>
  cases fl with
  | ret u=>
   obtain ⟨v,H',I3,rv,ev,q3⟩:=I2.after hq'
   subst ev
   exact ⟨rv,⟨V.ref (s.heap.objs.size+1),H',I3,rfl,q3⟩⟩
  | next=>exact False.elim hq'
  | brk=>exact False.elim hq'
  | cont=>exact False.elim hq'
theorem pe_make (M:Mk X.K C f) (F:FnOk X.prog X.w X.K X.mg X.base CX k f fd ps sp) (hr:Room (k+1) X.A) (hg:Gl X x) (hm:X.mg x=some (.ref C)) (hb:Binds X.K fd ps ds) (hd:Vals dvs ds) (hx:Passes CX X E)
  (ha:PA X (e::es) t) (hdb:(x == ("__debug__":Str))=false:=by decide) (he:starEach (e::es) X.env=(false,eval e X.env)::starEach es X.env:=by rfl) (hpl:(backTo pos (starEach es X.env)).any (·.1)=false:=by rfl) :
  PE X (.Call (.Name x p) (e::es) [] pos) (tMake C sp dvs E t):=by
 intro pins s σ H Q I h
 refine wpAny_Call_Name_kw (ld_glob I hg hm ?_ hdb)
 refine PySem.W.callWith_K (h₀:=X.base) I.ok.mod.kin M.kp (thn (ha pos pins s σ H _ I h) fun us s1 ⟨vs,H1,I1,r,q⟩=>⟨I1.kIn,?_⟩) he hpl
 exact run_make M F hr hb hd hx I1 r q
end
def PK (X:Cx) (kws:List Keyword) (t:TA):Prop:=
 ∀ (pos:Pos) (pins:List (Addr × Obj)) (s:Shared) (σ:St) (H:Hp) (Q:List V→Hp→Prop),Inv X pins σ H s→t σ H Q→wpAny (model X.prog X.w) X.A (evalAll ((backToKw pos (keywordEach kws X.env)).map (·.2))) (AP X pins σ Q) X.xe s
section
variable {X:Cx} {CX:CXT} {k:Nat} {f C:Addr} {fd:FuncData} {ps ks:List Str} {sp:Sp} {E:XK} {x m:Str} {p pos apos kpos:Pos} {e o:Expr} {es:List Expr} {kws:List Keyword} {te ta:TE} {t tk:TA} {nm:Option Str}
structure KBinds (K:PySem.W.Frag) (fd:FuncData) (ps ks:List Str) (g:List Value→List Value→List Value) (gV:List V→List V→List V):Prop where
 to:∀ (s:Shared) (us ws:List Value),K.In s.heap→(g us ws).length=ps.length→BindsTo s fd ⟨us,ks.zip ws⟩ (ps.zip (g us ws))
 rel:∀ {vs:List V} {us:List Value} {zs:List V} {ws:List Value},Vals vs us→Vals zs ws→Vals (gV vs zs) (g us ws)
def tCallK (sp:Sp) (gV:List V→List V→List V) (E:XK) (t tk:TA):TE:=fun σ H Q=>t σ H fun vs H1=>tk σ H1 fun zs H2=>sp (gV vs zs) H2 Q E
variable {g:List Value→List Value→List Value} {gV:List V→List V→List V}
end
structure FnScope (N P:List Str) (sc:Scope):Prop where
 kind:sc.kind=.function
 co:sc.isCoroutine=false
 gen:sc.isGenerator=false
 nd:N.Nodup
 pre:N.take P.length=P
 par:∀ x∈P,sc.names.lookup x=some .local∨sc.names.lookup x=some .cell
 nofree:∀ y∈sc.names,y.2≠.free
theorem bindL_out {kindOf:Str→Option NameKind} {x:Str}:∀ {binds:List (Str × Value)} {m:Str→Option Value},(∀ v,(x,v) ∉ binds)→bindL kindOf binds m x=m x
 | [],_,_=>rfl
 | (n,v)::r,m,h=>by
  unfold bindL
  rw [bindL_out fun w hw=>h w (List.mem_cons_of_mem _ hw)]
  split
  ·have:x≠n:=by rintro rfl;exact h v List.mem_cons_self
   simp [this]
  ·rfl
theorem bindC_out {kindOf:Str→Option NameKind} {x:Str}:∀ {binds:List (Str × Value)} {m:Str→Option Value},(∀ v,(x,v) ∉ binds)→bindC kindOf binds m x=m x
 | [],_,_=>rfl
 | (n,v)::r,m,h=>by
  unfold bindC
  rw [bindC_out fun w hw=>h w (List.mem_cons_of_mem _ hw)]
  split
  ·rfl
  ·have:x≠n:=by rintro rfl;exact h v List.mem_cons_self
   simp [this]
theorem bindL_get {kindOf:Str→Option NameKind} {x:Str} {v:Value}:∀ {P:List Str} {vs:List Value} {i:Nat} {m:Str→Option Value},P.Nodup→P[i]?=some x→vs[i]?=some v→kindOf x=some .local→
  bindL kindOf (P.zip vs) m x=some v
 | [],_,_,_,_,h,_,_=>by simp at h
 | _::_,[],_,_,_,_,h,_=>by simp at h
 | p::P,w::vs,0,m,nd,h1,h2,hk=>by
  simp at h1 h2;subst h1;subst h2
  show bindL kindOf ((p,w)::P.zip vs) m p=_
  unfold bindL
  rw [bindL_out fun v hv=>(List.nodup_cons.mp nd).1 (List.of_mem_zip hv).1,if_pos hk]
  simp
 | p::P,w::vs,i+1,m,nd,h1,h2,hk=>by
  show bindL kindOf ((p,w)::P.zip vs) m x=_
  unfold bindL
  exact bindL_get (i:=i) (List.nodup_cons.mp nd).2 (by simpa using h1) (by simpa using h2) hk
theorem bindC_get {kindOf:Str→Option NameKind} {x:Str} {v:Value}:∀ {P:List Str} {vs:List Value} {i:Nat} {m:Str→Option Value},P.Nodup→P[i]?=some x→vs[i]?=some v→kindOf x≠some .local→
  bindC kindOf (P.zip vs) m x=some v
 | [],_,_,_,_,h,_,_=>by simp at h
 | _::_,[],_,_,_,_,h,_=>by simp at h
 | p::P,w::vs,0,m,nd,h1,h2,hk=>by
  simp at h1 h2;subst h1;subst h2
  show bindC kindOf ((p,w)::P.zip vs) m p=_
  unfold bindC
  rw [bindC_out fun v hv=>(List.nodup_cons.mp nd).1 (List.of_mem_zip hv).1,if_neg hk]
  simp
 | p::P,w::vs,i+1,m,nd,h1,h2,hk=>by
  show bindC kindOf ((p,w)::P.zip vs) m x=_
  unfold bindC
  exact bindC_get (i:=i) (List.nodup_cons.mp nd).2 (by simpa using h1) (by simpa using h2) hk
def start (N:List Str) (vs:List V):St:=vs.map some++List.replicate (N.length-vs.length) none
def cxOf (CX:CXT) (P:Program) (w:World) (K:PySem.W.Frag) (mg:Str→Option Value) (base:Heap) (N:List Str) (qual:Str) (scope:Scope) (f:Addr) (cd:Value) (A:Around) (outer:List Env) (s:Shared) (H:Hp) (E:XK):Cx where
 prog:=P
 w:=w
 K:=K
 mg:=mg
 base:=base
 A:=A.deeper (envOfC qual scope s.heap.objs.size f cd)
 N:=N
 s₀:=s
 H₀:=H
 env:=envOfC qual scope s.heap.objs.size f cd
 outer:=outer
 stack:=envOfC qual scope s.heap.objs.size f cd::outer
 ex:=[]
 calm:=true
 fn:=fun _=>true
 pn:=[]
 xe:=fun e s'=>wpAny (model P w) (A.deeper (envOfC qual scope s.heap.objs.size f cd)) (leaving (envOfC qual scope s.heap.objs.size f cd) e) (fun _ s''=>CX outer H s E e s'') (fun e' s''=>CX outer H s E e' s'') s'
theorem cell_has {sc:Scope} {n:Nat} {x:Str} (h:sc.names.lookup x=some .cell):∃ c,(cellsFrom n sc.names []).lookup x=some c:=by
 have q:=PySem.W.cellsFrom_some sc.names n [] (.inl h)
 exact Option.isSome_iff_exists.mp q
theorem inv_start {CX:CXT} {P:Program} {w:World} {K:PySem.W.Frag} {mg:Str→Option Value} {base:Heap} {N ps:List Str} {qual:Str} {scope:Scope} {f:Addr} {cd:Value} {A:Around} {outer:List Env} {s s1:Shared} {H:Hp} {E:XK} {us:List Value} {vs:List V}
  (S:FnScope N ps scope) (hd:A.handled=none) (e0:Env0 P w K mg base A outer s H) (hl:vs.length=ps.length) (r:Vals vs us)
  (x:InCallC s s.heap.objs.size (bindL (envOfC qual scope s.heap.objs.size f cd).kindOf (ps.zip us) fun _=>none) (cellsFrom (s.heap.objs.size+1) scope.names []) (bindC (envOfC qual scope s.heap.objs.size f cd).kindOf (ps.zip us) fun _=>none) s1) :
  Inv (cxOf CX P w K mg base N qual scope f cd A outer s H E) [] (start N vs) H s1:=by
 have hpl:ps.length≤N.length:=by have:=congrArg List.length S.pre;rw [List.length_take] at this;omega
 obtain ⟨h1,tk,rfl,hk⟩:=x.done
 have noA:∀ b:Addr,b ∉ (cxOf CX P w K mg base N qual scope f cd A outer s H E).ex:=fun b z=>absurd (show b∈([]:List Addr) from z) (by simp)
 refine ⟨⟨e0.mod,S.kind,rfl,rfl,Nat.le_refl _,fun y z c h1 h2=>?_,fun y hy=>?_,fun y c _ h=>?_,fun _=>hd,Around.frames_deeper e0.frames,.inr ⟨rfl,rfl⟩,fun b z=>absurd z (noA b),e0.bs,e0.bsz,fun b _ _=>noA b,fun b z=>absurd z (noA b),e0.funs,e0.frf⟩,
  rfl,e0.bare,Un.kept hk,⟨_,x.toInCall.ns,fun i y v h1 h2 h3=>?_⟩,fun y c h=>⟨_,x.cell y c h⟩,e0.hok.fresh (Nat.le_refl _),fun y c h=>?_,fun p hp=>absurd (show p∈([]:List (Addr × Obj)) from hp) (by simp),e0.hok.kept hk,?_⟩
 ·exact name_of_addr x.apart (PySem.mem_of_lookup h1) (PySem.mem_of_lookup h2)
 ·have hy:scope.names.lookup y=some .cell∨scope.names.lookup y=some .free:=hy
  rcases hy with hy | hy
  ·exact cell_has hy
  ·exact absurd rfl (S.nofree _ (PySem.mem_of_lookup hy))
 ·exact Nat.le_of_lt (x.above y c (PySem.mem_of_lookup h))
 ·have hi:i<vs.length:=by
   unfold start at h2
   by_cases hi:i<vs.length
   ·exact hi
   ·rw [List.getElem?_append_right (by simpa using hi)] at h2
    rw [List.getElem?_replicate] at h2
    split at h2 <;> cases h2
  have ha:vs[i]?=some v:=by
   unfold start at h2
   rw [List.getElem?_append_left (by simpa using hi),List.getElem?_map] at h2
   cases e:vs[i]? with
   | none=>rw [e] at h2;cases h2
   | some a=>rw [e] at h2;cases h2;rfl
  obtain ⟨u,hu,rv⟩:=r.get ha
  have hp:ps[i]?=some y:=by
   rw [← S.pre,List.getElem?_take_of_lt (by omega)];exact h1
  have ndP:ps.Nodup:=by rw [← S.pre];exact S.nd.sublist (List.take_sublist _ _)
  refine ⟨u,rv,?_⟩
  rcases S.par y (List.mem_of_getElem? hp) with k | k
  ·exact .inl ⟨k,bindL_get ndP hp hu k⟩
  ·obtain ⟨c,e⟩:=cell_has (n:=s.heap.objs.size+1) k
   refine .inr ⟨.inl k,c,e,?_⟩
   have q:=x.cell y c e
   rw [bindC_get ndP hp hu (by show scope.names.lookup y≠_;rw [k];decide)] at q
   exact q
 ·exact e0.hok.fresh (Nat.le_of_lt (x.above y c (PySem.mem_of_lookup h)))
 ·unfold start
  show _=N.length
  rw [List.length_append,List.length_map,List.length_replicate]
  omega
theorem fn_of {CX:CXT} {P:Program} {w:World} {K:PySem.W.Frag} {mg:Str→Option Value} {base:Heap} {k:Nat} {f:Addr} {name qual:Str} {params:Arguments} {body:List Stmt} {scope:Scope} {dV kV doc pm cdv ct oc:Value} {an od:Option Addr}
  {osl:Array (Option Value)} {N ps:List Str} {sp:Sp} (lk:K.lookup f=some ⟨oc,od,.func (PySem.W.fnOf name qual params body scope dV kV doc pm an cdv ct),osl⟩) (hcd:PySem.W.codeIn K cdv qual=true) (S:FnScope N ps scope)
  (len:∀ vs H Q E,sp vs H Q E→vs.length=ps.length)
  (hbody:∀ (A:Around) (outer:List Env) (s:Shared) (H:Hp) (vs:List V) (Q:VK) (E:XK),Room k (A.deeper (envOfC qual scope s.heap.objs.size f cdv))→sp vs H Q E→
   ∃ t,PSs (cxOf CX P w K mg base N qual scope f cdv A outer s H E) body t∧t { nx:=fun _ H'=>Q .non H',rt:=Q } (start N vs) H) :
  FnOk P w K mg base CX (k+1) f (PySem.W.fnOf name qual params body scope dV kV doc pm an cdv ct) ps sp:=by
 refine ⟨len,fun A outer s H args us vs Q E hr e0 hb r hsp=>?_⟩
 have hl:=len _ _ _ _ hsp
 have KX:K.In s.heap:=e0.mod.kin.keeps fun b o e=>(e0.bs b o e).1
 have lim:s.heap.NoLimit:=e0.mod.nolimit.keeps fun b o e=>(e0.bs b o e).1
 have hkind:∀ y∈ps.zip us,scope.names.lookup y.1=some .local∨(scope.names.lookup y.1=some .cell∧((cellsFrom (s.heap.objs.size+1) scope.names []).lookup y.1).isSome=true):=fun ⟨n,v⟩ hy=>by
  rcases S.par n (List.of_mem_zip hy).1 with q | q
  ·exact .inl q
  ·exact .inr ⟨q,PySem.W.cellsFrom_some _ _ _ (.inl q)⟩
 refine codeAny_call_function hr.depth (KX _ _ lk) rfl S.co S.gen rfl (PySem.W.codeRec_of KX hcd) (hb _ _ _ _ ?_)
 refine wpAny_newFunctionEnv_cells S.kind hkind fun env he s1 x=>?_
 subst he
 refine ⟨lim.keeps x.toInCall.keep,codeAny_func ?_⟩
 obtain ⟨t,ht,hq⟩:=hbody A outer s H vs Q E (hr.deeper _) hsp
 have I:Inv (cxOf CX P w K mg base N qual scope f cdv A outer s H E) [] (start N vs) H s1:=inv_start S hr.hd e0 hl r x
 refine wpAny_mono (ht [] s1 (start N vs) H _ I hq) (fun fl s' hs=>?_) fun e s' hs=>hs
 have fin:∀ {σ':St} {H':Hp} {v:V} {u:Value},Inv (cxOf CX P w K mg base N qual scope f cdv A outer s H E) [] σ' H' s'→RelV v u→Q v H'→CE outer P w H s Q u s':=
  fun {σ' H' v u} J rv q=>⟨v,H',J.os,J.bare,J.base,J.hok,rv,q⟩
 cases fl with
 | ret u=>
  obtain ⟨v,σ',H',J,rv,q⟩:=hs
  exact fin J rv q
 | next=>
  obtain ⟨σ',H',J,q⟩:=hs
  exact fin (v:=V.non) (u:=Value.none) J rfl q
 | brk=>
  obtain ⟨_,_,_,q⟩:=hs
  exact False.elim q
 | cont=>
  obtain ⟨_,_,_,q⟩:=hs
  exact False.elim q
end L2
namespace L2
open PySem PySem.Spec PyProof.Rows
section
variable {X:Cx} {x:Str} {p pos:Pos} {e:Expr} {es:List Expr} {t:TA} {id T:String} {r:List V→Hp→VK→Prop}
def tCB (r:List V→Hp→VK→Prop) (t:TA):TE:=fun σ H Q=>t σ H fun vs H1=>r vs H1 Q
theorem pe_callB (hc:CallR X (.builtin id) r) (hg:Gl X x) (hm:X.mg x=none) (hv:bootBuiltins x=some (.builtin id)) (ha:PA X (e::es) t) (hn:x≠"__name__":=by decide) (hdb:(x == ("__debug__":Str))=false:=by decide)
  (he:starEach (e::es) X.env=(false,eval e X.env)::starEach es X.env:=by rfl) (hpl:(backTo pos (starEach es X.env)).any (·.1)=false:=by rfl):PE X (.Call (.Name x p) (e::es) [] pos) (tCB r t):=by
 intro pins s σ H Q I h
 refine wpAny_Call_Name_kw (ld_blt I hg hm hv ?_ hn hdb)
 exact PyProof.Rows.callWith_builtin1 (thn (ha pos pins s σ H _ I h) fun us s1 ⟨vs,H1,I1,r1,q1⟩=>hc pins s1 σ H1 vs us Q I1 r1 q1) he hpl
theorem pe_callTy (hc:CallR X (.type T) r) (hg:Gl X x) (hm:X.mg x=none) (hv:bootBuiltins x=some (.type T)) (ha:PA X (e::es) t) (hn:x≠"__name__":=by decide) (hdb:(x == ("__debug__":Str))=false:=by decide)
  (he:starEach (e::es) X.env=(false,eval e X.env)::starEach es X.env:=by rfl) (hpl:(backTo pos (starEach es X.env)).any (·.1)=false:=by rfl):PE X (.Call (.Name x p) (e::es) [] pos) (tCB r t):=by
 intro pins s σ H Q I h
 refine wpAny_Call_Name_kw (ld_blt I hg hm hv ?_ hn hdb)
 exact PyProof.Rows.callWith_type1 (thn (ha pos pins s σ H _ I h) fun us s1 ⟨vs,H1,I1,r1,q1⟩=>hc pins s1 σ H1 vs us Q I1 r1 q1) he hpl
end
end L2
namespace HT
open PySem PyProof.Rows
def lexLt:List Int→List Int→Bool
 | [],[]=>false
 | [],_::_=>true
 | _::_,[]=>false
 | x::xs,y::ys=>if x=y then lexLt xs ys else decide (x<y)
section
open PySem.SeqAt
open PySem.AutoSeq1 (wpAny_loadPart')
open PySem.MeetsSeq PySem.MeetsSeq2 PySem.MeetsSeq3
end
section
variable {prog:Program} {w:World} {A:Around} {E:Value→Shared→Prop} {s:Shared}
def sIx (n d:Nat):Option Int→Nat
 | none=>d
 | some v=>if v<0 then (v+(n:Int)).toNat else min v.toNat n
end
end HT
namespace L2
open PySem PySem.Spec PyProof.Rows
abbrev TO:=St→Hp→(Option Int→Hp→Prop)→Prop
def PO (X:Cx) (e:Option Expr) (t:TO):Prop:=
 ∀ (pins:List (Addr × Obj)) (s:Shared) (σ:St) (H:Hp) (Q:Option Int→Hp→Prop),Inv X pins σ H s→t σ H Q→
  wpAny (model X.prog X.w) X.A (evalPart e X.env) (fun u s'=>∃ o H',Inv X pins σ H' s'∧IsPart u o∧Q o H') X.xe s
def tNoPart:TO:=fun _ H Q=>Q none H
def tPart (t:TE):TO:=fun σ H Q=>t σ H fun x H1=>∃ i,x=.int i∧Q (some i) H1
section
variable {X:Cx} {e:Expr} {te:TE} {lo hi:Option Expr} {tl th:TO} {pos p2:Pos}
def SlR (X:Cx) (r:V→Option Int→Option Int→Hp→VK→Prop):Prop:=
 ∀ (pins:List (Addr × Obj)) (s:Shared) (σ:St) (H:Hp) (x:V) (v vl vu:Value) (lo hi:Option Int) (sl:Addr) (Q:VK),Inv X pins σ H s→RelV x v→s.heap.IsSliceOf sl vl vu .none→IsPart vl lo→IsPart vu hi→r x lo hi H Q→
  ∃ T id,typeLookup (.type T) "__getitem__"=pure (some (.builtin id))∧s.TypeIs v T∧wpAny (model X.prog X.w) X.A (getItem v (.ref sl)) (EP X pins σ Q) X.xe s
def tSl (r:V→Option Int→Option Int→Hp→VK→Prop) (te:TE) (tl th:TO):TE:=fun σ H Q=>te σ H fun x H1=>tl σ H1 fun l H2=>th σ H2 fun u H3=>r x l u H3 Q
def cutV (xs:List V) (lo hi:Option Int):List V:=(xs.drop (HT.sIx xs.length 0 lo)).take (HT.sIx xs.length xs.length hi-HT.sIx xs.length 0 lo)
def rSlT (K:PySem.W.Frag):V→Option Int→Option Int→Hp→VK→Prop:=fun x lo hi H Q=>∃ a xs,x=.ref a∧SqT K H a xs∧
 ¬ (HT.sIx xs.length 0 lo=0∧HT.sIx xs.length xs.length hi=xs.length)∧∀ p,H p=none→Q (.ref p) (upd H p (.tup (cutV xs lo hi)))
def rLtT (K:PySem.W.Frag):R2:=fun x y H Q=>∃ a b ns ms,x=.ref a∧y=.ref b∧SqT K H a (ns.map V.int)∧SqT K H b (ms.map V.int)∧Q (.bl (HT.lexLt ns ms)) H
def rCatT (K:PySem.W.Frag):R2:=fun x y H Q=>∃ a b xs ys,x=.ref a∧y=.ref b∧SqT K H a xs∧SqT K H b ys∧xs≠[]∧xs.length+ys.length≤sizeLine∧
 (ys=[]→Q (.ref a) H)∧(ys≠[]→∀ p,H p=none→Q (.ref p) (upd H p (.tup (xs++ys))))
end
end L2
namespace L2
open PySem PySem.Spec PyProof.Rows
def ixN (n:Nat) (i:Int):Option Nat:=if 0≤i then (if i<n then some i.toNat else none) else if -(n:Int)≤i then some (i+n).toNat else none
def atI {α:Type} (xs:List α) (i:Int):Option α:=(ixN xs.length i).bind fun j=>xs[j]?
theorem ixN_seq {n:Nat} {i:Int} {j:Nat} (h:ixN n i=some j):seqIndex? i n=some j∧j<n∧-(n:Int)≤i∧i<n:=by
 unfold ixN at h
 by_cases h0:0≤i
 ·rw [if_pos h0] at h
  by_cases h1:i<n
  ·rw [if_pos h1] at h
   have e:i.toNat=j:=Option.some.inj h
   exact ⟨by rw [seqIndex_of h0 h1,e],by omega,by omega,h1⟩
  ·rw [if_neg h1] at h;cases h
 ·rw [if_neg h0] at h
  by_cases h1:-(n:Int)≤i
  ·rw [if_pos h1] at h
   have e:(i+n).toNat=j:=Option.some.inj h
   exact ⟨by rw [seqIndex_neg (by omega) h1,e],by omega,h1,by omega⟩
  ·rw [if_neg h1] at h;cases h
theorem atI_get {α:Type} {xs:List α} {i:Int} {v:α} (h:atI xs i=some v):∃ j,seqIndex? i xs.length=some j∧xs[j]?=some v∧j<xs.length∧-(xs.length:Int)≤i∧i<xs.length:=by
 unfold atI at h
 cases e:ixN xs.length i with
 | none=>rw [e] at h;cases h
 | some j=>
  rw [e] at h
  obtain ⟨h1,h2,h3,h4⟩:=ixN_seq e
  exact ⟨j,h1,h,h2,h3,h4⟩
theorem atI_nat {α:Type} {xs:List α} {j:Nat} {v:α} (h:xs[j]?=some v):atI xs (j:Int)=some v:=by
 have hj:j<xs.length:=(List.getElem?_eq_some_iff.mp h).1
 have e:ixN xs.length (j:Int)=some j:=by
  unfold ixN
  rw [if_pos (by omega),if_pos (by omega)];simp
 unfold atI;rw [e];exact h
def PlainIx (b:Expr):Prop:=∀ o i,subscripted b false o i=operate [o,i] (getItem o i)
def IxR (X:Cx) (r:R2):Prop:=
 ∀ (value slice:Expr) (pins:List (Addr × Obj)) (s:Shared) (σ:St) (H:Hp) (x y:V) (v u:Value) (Q:VK),Inv X pins σ H s→RelV x v→RelV y u→r x y H Q→
  subscripted slice false v u=operate [v,u] (getItem v u)→wpAny (model X.prog X.w) X.A (subscriptTail value slice v u) (EP X pins σ Q) X.xe s
def MtR (X:Cx) (id:String) (r:V→List V→Hp→VK→Prop):Prop:=
 ∀ (pins:List (Addr × Obj)) (s:Shared) (σ:St) (H:Hp) (x:V) (xs:List V) (v:Value) (us:List Value) (Q:VK),Inv X pins σ H s→RelV x v→Vals xs us→r x xs H Q→
  wpAny (model X.prog X.w) X.A (call (.builtin id) (v::us)) (EP X pins σ Q) X.xe s
section
variable {X:Cx} {a b:Expr} {ta tb:TE} {pos:Pos}
theorem pe_ix {r:R2} (hr:IxR X r) (ha:PE X a ta) (hb:PE X b tb) (hs:PlainIx b):PE X (.Subscript a b pos) (tOp r ta tb):=by
 intro pins s σ H Q I h
 exact Subscript_ (binT ha hb I h fun v u s2 x y H2 I2 rx ry q=>hr a b pins s2 σ H2 x y v u Q I2 rx ry q (hs _ _))
def rIxL (K:PySem.W.Frag):R2:=fun x y H Q=>∃ p xs i v,x=.ref p∧y=.int i∧SqL K H p xs∧atI xs i=some v∧Q v H
def rIxT (K:PySem.W.Frag):R2:=fun x y H Q=>∃ p xs i v,x=.ref p∧y=.int i∧SqT K H p xs∧atI xs i=some v∧Q v H
def rIxS:R2:=fun x y H Q=>∃ z i c,x=.str z∧y=.int i∧z.length≤sizeLine∧atI z.cps.toList i=some c∧Q (.str ⟨#[c]⟩) H
theorem ix_list:IxR X (rIxL X.K):=by
 intro value slice pins s σ H x y v u Q I rx ry h hs
 obtain ⟨p,xs,i,z,rfl,rfl,hq,he,q⟩:=h
 cases rx
 obtain ⟨t,rfl⟩:=ry
 obtain ⟨its,r,pl,hz⟩:=I.list hq
 obtain ⟨j,h1,h2,h3,h4,h5⟩:=atI_get he
 obtain ⟨w,ew,rw'⟩:=r.get h2
 have hl:=r.length
 have hn:=line63
 have fin:EP X pins σ Q w s:=⟨z,H,I,rw',q⟩
 by_cases h0:0≤i
 ·have hj:i.toNat=j:=by
   rw [seqIndex_of h0 h5] at h1
   exact Option.some.inj h1
  exact item_listR pl.isList h0 (by omega) (by rw [hj];simpa using ew) fin hs
 ·have hj:(i+(its.toArray.size:Int)).toNat=j:=by
   rw [seqIndex_neg (by omega) h4] at h1
   rw [List.size_toArray,← hl]
   exact Option.some.inj h1
  exact subscriptTail_builtinR (x:=w) pl.isList.typeIs slot_list_getitem.lookup
   (wpAny_getItem_list_neg (Q:=fun r s'=>r=w∧EP X pins σ Q r s') pl.isList (by omega) (by rw [List.size_toArray] <;> omega) (by omega) (by rw [hj];simpa using ew) ⟨rfl,fin⟩) hs
theorem ix_tup:IxR X (rIxT X.K):=by
 intro value slice pins s σ H x y v u Q I rx ry h hs
 obtain ⟨p,xs,i,z,rfl,rfl,hq,he,q⟩:=h
 cases rx
 obtain ⟨t,rfl⟩:=ry
 obtain ⟨its,r,pl,hz⟩:=I.tuple hq
 obtain ⟨j,h1,h2,h3,h4,h5⟩:=atI_get he
 obtain ⟨w,ew,rw'⟩:=r.get h2
 have hl:=r.length
 have hn:=line63
 have fin:EP X pins σ Q w s:=⟨z,H,I,rw',q⟩
 exact subscriptTail_builtinR (x:=w) pl.typeIs slot_tuple_getitem.lookup
  (getItem_tuple (j:=j) (Q:=fun r s'=>r=w∧EP X pins σ Q r s') pl (by omega) (by omega) (by rw [List.size_toArray,← hl];exact h1) (by simpa using ew) ⟨rfl,fin⟩) hs
theorem ix_str:IxR X rIxS:=by
 intro value slice pins s σ H x y v u Q I rx ry h hs
 obtain ⟨z,i,c,rfl,rfl,hz,he,q⟩:=h
 obtain ⟨t,rfl⟩:=rx
 obtain ⟨t',rfl⟩:=ry
 obtain ⟨j,h1,h2,h3,h4,h5⟩:=atI_get he
 have hl:z.cps.toList.length=z.length:=by simp [Str.length]
 rw [hl] at h1 h4 h5
 have hn:=line63
 exact tail_any (typeIs_str s z t) slot_str_getitem.lookup (getItem_str (c:=c) (by
  have e1:decide (i < -(2 ^ 63:Int))=false:=decide_eq_false (by omega)
  have e2:decide (i ≥ 2 ^ 63)=false:=decide_eq_false (by omega)
  rw [e1,e2,Bool.or_false]) (by rw [h1];simpa using h2) ⟨.str ⟨#[c]⟩,H,I.tok _,⟨_,rfl⟩,q⟩) hs
def rIx (K:PySem.W.Frag):R2:=fun x y H Q=>rIxL K x y H Q∨rIxT K x y H Q∨rIxS x y H Q
theorem mapSeq_set (its:List Value) (n j:Nat) (u:Value):Obj.mapSeq (·.setIfInBounds j u) { cls:=.type "list",data:=.seq its.toArray n } = { cls:=.type "list",data:=.seq (its.set j u).toArray n }:=by
 simp [Obj.mapSeq]
theorem Inv.lst {pins:List (Addr × Obj)} {σ:St} {H:Hp} {s:Shared} {p:Addr} {xs:List V} (I:Inv X pins σ H s) (h:H p=some (.lst xs)) :
  ∃ (its:List Value) (n:Nat),Vals xs its∧s.heap.get? p=some { cls:=.type "list",data:=.seq its.toArray n }∧xs.length≤sizeLine:=by
 obtain ⟨z,its,n,r,e⟩:=I.hok p _ h
 exact ⟨its,n,r,e,z⟩
theorem Inv.lstUpd {pins:List (Addr × Obj)} {σ:St} {H:Hp} {s:Shared} {p:Addr} {xs ys:List V} {its its':List Value} {n n':Nat} {f:Obj→Obj} (I:Inv X pins σ H s) (h:H p=some (.lst xs))
  (ho:s.heap.get? p=some { cls:=.type "list",data:=.seq its.toArray n }) (hf:f { cls:=.type "list",data:=.seq its.toArray n } = { cls:=.type "list",data:=.seq its'.toArray n' }) (r:Vals ys its') (hz:ys.length≤sizeLine) (t:Nat) :
  Inv X pins σ (upd H p (.lst ys)) { s with heap:=s.heap.update p f,toks:=t }:=by
 have e:(s.heap.update p f).get? p=some { cls:=.type "list",data:=.seq its'.toArray n' }:=by
  rw [Heap.get?_update_self f ho (by rw [hf] <;> rfl),hf]
 refine I.write (x:=p) (e:=p) (by rw [h];trivial) (.inl rfl) (fun b u hb q=>(Heap.get?_update_other _ _ (Ne.symm hb)).trans q) ⟨_,e⟩ ?_
 exact ⟨hz,its',n',r,e⟩
def rSetL:V→V→V→Hp→(Hp→Prop)→Prop:=fun o i v H Q=>∃ p xs k j,o=.ref p∧i=.int k∧H p=some (.lst xs)∧ixN xs.length k=some j∧Q (upd H p (.lst (xs.set j v)))
theorem set_list:PSet X rSetL:=by
 intro pins s σ H o i v ov iv u Q I ro ri rv h
 obtain ⟨p,xs,k,j,rfl,rfl,hp,hj,q⟩:=h
 cases ro
 obtain ⟨t,rfl⟩:=ri
 obtain ⟨its,n,r,ho,hz⟩:=I.lst hp
 obtain ⟨h1,h2,h3,h4⟩:=ixN_seq hj
 have hl:=r.length
 have hn:=line63
 have I':Inv X pins σ (upd H p (.lst (xs.set j v))) { s with heap:=s.heap.update p (Obj.mapSeq (·.setIfInBounds j u)) }:=
  I.lstUpd hp ho (mapSeq_set its n j u) (r.set rv j) (by rw [List.length_set];exact hz) s.toks
 by_cases h0:0≤k
 ·have hk:k.toNat=j:=by
   rw [seqIndex_of h0 h4] at h1
   exact Option.some.inj h1
  exact PySem.W.ki_setAt ho h0 (by omega) (by rw [List.size_toArray,← hl];exact h4) (by rw [hk];exact ⟨_,I',q⟩)
 ·have hk:(k+(its.toArray.size:Int)).toNat=j:=by
   rw [seqIndex_neg (by omega) h3] at h1
   rw [List.size_toArray,← hl]
   exact Option.some.inj h1
  exact PySem.W.ki_setBack ho (by omega) (by rw [List.size_toArray,← hl];exact h3) (by omega) (by rw [hk];exact ⟨_,I',q⟩)
def rSlL (K:PySem.W.Frag):V→Option Int→Option Int→Hp→VK→Prop:=fun x lo hi H Q=>∃ a xs,x=.ref a∧SqL K H a xs∧∀ p,H p=none→Q (.ref p) (upd H p (.lst (cutV xs lo hi)))
def flatV:V→Bool
 | .non=>true
 | .bl _=>true
 | .int _=>true
 | .str _=>true
 | _=>false
def eqV:V→V→Bool
 | .non,.non=>true
 | .bl a,.bl b=>a == b
 | .bl a,.int b=>(if a then 1 else 0) == b
 | .int a,.bl b=>a == (if b then 1 else 0)
 | .int a,.int b=>a == b
 | .str a,.str b=>a == b
 | _,_=>false
theorem eqAt_V {A:Around} {s:Shared} {y x:V} {u v:Value} (ry:RelV y u) (rx:RelV x v) (fy:flatV y=true) (fx:flatV x=true):SeqAt.EqAt A s u v (eqV y x):=by
 cases y with
 | non=>
  cases ry
  cases x with
  | non=>cases rx;exact SeqAt.EqAt.same _
  | bl b=>cases rx;exact SeqAt.EqAt.none_bool b
  | int b=>obtain ⟨t,rfl⟩:=rx;exact SeqAt.EqAt.none_int b t
  | str b=>obtain ⟨t,rfl⟩:=rx;exact SeqAt.EqAt.none_str b t
  | _=>exact absurd (show false=true from fx) Bool.false_ne_true
 | bl a=>
  cases ry
  cases x with
  | non=>cases rx;exact SeqAt.EqAt.bool_none a
  | bl b=>cases rx;exact SeqAt.EqAt.bool_bool a b
  | int b=>obtain ⟨t,rfl⟩:=rx;exact SeqAt.EqAt.bool_int a b t
  | str b=>obtain ⟨t,rfl⟩:=rx;exact SeqAt.EqAt.bool_str a b t
  | _=>exact absurd (show false=true from fx) Bool.false_ne_true
 | int a=>
  obtain ⟨t',rfl⟩:=ry
  cases x with
  | non=>cases rx;exact SeqAt.EqAt.int_none a t'
  | bl b=>cases rx;exact SeqAt.EqAt.int_bool a t' b
  | int b=>obtain ⟨t,rfl⟩:=rx;exact SeqAt.EqAt.int_int a t' b t
  | str b=>obtain ⟨t,rfl⟩:=rx;exact SeqAt.EqAt.int_str a t' b t
  | _=>exact absurd (show false=true from fx) Bool.false_ne_true
 | str a=>
  obtain ⟨t',rfl⟩:=ry
  cases x with
  | non=>cases rx;exact SeqAt.EqAt.str_none a t'
  | bl b=>cases rx;exact SeqAt.EqAt.str_bool a t' b
  | int b=>obtain ⟨t,rfl⟩:=rx;exact SeqAt.EqAt.str_int a t' b t
  | str b=>obtain ⟨t,rfl⟩:=rx;exact SeqAt.EqAt.str_str a t' b t
  | _=>exact absurd (show false=true from fx) Bool.false_ne_true
 | _=>exact absurd (show false=true from fy) Bool.false_ne_true
def eqU (x:V) (u:Value):Bool:=match u with
 | .none=>eqV .non x
 | .bool b=>eqV (.bl b) x
 | .int i _=>eqV (.int i) x
 | .str z _=>eqV (.str z) x
 | _=>false
theorem eqU_of {x y:V} {u:Value} (r:RelV y u) (f:flatV y=true):eqU x u=eqV y x:=by
 cases y with
 | non=>cases r;rfl
 | bl b=>cases r;rfl
 | int i=>obtain ⟨t,rfl⟩:=r;rfl
 | str z=>obtain ⟨t,rfl⟩:=r;rfl
 | _=>exact absurd (show false=true from f) Bool.false_ne_true
theorem any_eqU {x:V}:∀ {xs:List V} {us:List Value},Vals xs us→xs.all flatV=true→us.any (eqU x)=xs.any fun y=>eqV y x
 | _,_,.nil,_=>rfl
 | y::xs,u::us,.cons r t,f=>by
  rw [List.all_cons,Bool.and_eq_true] at f
  rw [List.any_cons,List.any_cons,eqU_of r f.1,any_eqU t f.2]
theorem mem_eqAt {A:Around} {s:Shared} {x:V} {v:Value} (rx:RelV x v) (fx:flatV x=true):∀ {xs:List V} {us:List Value},Vals xs us→xs.all flatV=true→∀ u∈us,SeqAt.EqAt A s u v (eqU x u)
 | _,_,.nil,_=>fun u hu=>by cases hu
 | y::xs,u::us,.cons r t,f=>fun u' hu=>by
  rw [List.all_cons,Bool.and_eq_true] at f
  rcases List.mem_cons.mp hu with rfl | hu
  ·rw [eqU_of r f.1];exact eqAt_V r rx f.1 fx
  ·exact mem_eqAt rx fx t f.2 u' hu
def inV (x:V) (xs:List V):Bool:=xs.any fun y=>eqV y x
def rIn (K:PySem.W.Frag) (neg:Bool):R2:=fun x y H Q=>∃ p xs,y=.ref p∧(SqL K H p xs∨SqT K H p xs)∧flatV x=true∧xs.all flatV=true∧Q (.bl (if neg then !inV x xs else inV x xs)) H
theorem op_in_seq:OpR X (compareOp .In) (rIn X.K false):=by
 intro pins s σ H x y v u Q I rx ry h
 obtain ⟨p,xs,rfl,hq,fx,fs,q⟩:=h
 cases ry
 rcases hq with hq | hq
 ·obtain ⟨its,r,pl,hz⟩:=I.list hq
  refine SeqAt.in_listAt (eqU x) pl.isList (fun w hw=>mem_eqAt rx fx r fs w (by simpa using hw)) ⟨.bl _,H,I,rfl,?_⟩
  rw [show its.toArray.any (eqU x)=its.any (eqU x) by simp,any_eqU r fs]
  exact q
 ·obtain ⟨its,r,pl,hz⟩:=I.tuple hq
  refine SeqAt.in_tupleAt (eqU x) pl (fun w hw=>mem_eqAt rx fx r fs w (by simpa using hw)) ⟨.bl _,H,I,rfl,?_⟩
  rw [show its.toArray.any (eqU x)=its.any (eqU x) by simp,any_eqU r fs]
  exact q
theorem op_notIn_seq:OpR X (compareOp .NotIn) (rIn X.K true):=by
 intro pins s σ H x y v u Q I rx ry h
 obtain ⟨p,xs,rfl,hq,fx,fs,q⟩:=h
 cases ry
 rcases hq with hq | hq
 ·obtain ⟨its,r,pl,hz⟩:=I.list hq
  refine SeqAt.notIn_listAt (eqU x) pl.isList (fun w hw=>mem_eqAt rx fx r fs w (by simpa using hw)) ⟨.bl _,H,I,rfl,?_⟩
  rw [show its.toArray.any (eqU x)=its.any (eqU x) by simp,any_eqU r fs]
  exact q
 ·obtain ⟨its,r,pl,hz⟩:=I.tuple hq
  refine SeqAt.notIn_tupleAt (eqU x) pl (fun w hw=>mem_eqAt rx fx r fs w (by simpa using hw)) ⟨.bl _,H,I,rfl,?_⟩
  rw [show its.toArray.any (eqU x)=its.any (eqU x) by simp,any_eqU r fs]
  exact q
theorem call_len_seq:CallR X (.builtin "len") (fun xs H Q=>∃ p ys,xs=[.ref p]∧(SqL X.K H p ys∨SqT X.K H p ys)∧Q (.int ys.length) H):=by
 intro pins s σ H xs us Q I r h
 obtain ⟨p,ys,rfl,hq,q⟩:=h
 obtain ⟨u,rfl,rx⟩:=vals1 r
 cases rx
 have hn:=line63
 rcases hq with hq | hq
 ·obtain ⟨its,r',pl,hz⟩:=I.list hq
  have hlen:=r'.length
  exact Calls.call_len_list pl.isList (by simp only [List.size_toArray] <;> omega) ⟨.int ys.length,H,I.tok _,⟨s.toks+1,by rw [List.size_toArray,hlen]⟩,q⟩
 ·obtain ⟨its,r',pl,hz⟩:=I.tuple hq
  have hlen:=r'.length
  exact len_tuple pl (by simp only [List.size_toArray] <;> omega) ⟨.int ys.length,H,I.tok _,⟨s.toks+1,by rw [List.size_toArray,hlen]⟩,q⟩
theorem call_list_of:CallR X (.type "list") (fun xs H Q=>∃ p ys,xs=[.ref p]∧(SqL X.K H p ys∨SqT X.K H p ys)∧∀ l,H l=none→Q (.ref l) (upd H l (.lst ys))):=by
 intro pins s σ H xs us Q I r h
 obtain ⟨p,ys,rfl,hq,q⟩:=h
 obtain ⟨u,rfl,rx⟩:=vals1 r
 cases rx
 have fin:∀ (its:List Value),Vals ys its→ys.length≤sizeLine→∀ (h':Heap) (c':Nat),(∀ b o',s.heap.get? b=some o'→h'.get? b=some o')→
   h'.get? s.heap.objs.size=some { cls:=.type "list",dict:=none,data:=.seq its.toArray c',slots:=#[] }→EP X pins σ Q (.ref s.heap.objs.size) { s with heap:=h' }:=fun its r' hz h' c' kp e=>
  ⟨.ref s.heap.objs.size,_,I.laid (t':=s.toks) kp (Nat.le_refl _) (show ObjOk X.prog X.w _ h' _ (.lst ys) from ⟨hz,its,c',r',e⟩),rfl,q _ (I.hok.fresh (Nat.le_refl _))⟩
 rcases hq with hq | hq
 ·obtain ⟨its,r',pl,hz⟩:=I.list hq
  have hlen:=r'.length
  obtain ⟨o,ho,hc,n,hd⟩:=pl.isList
  exact call_list_seq p (.inl rfl) ho hc hd (fun h' c' kp e=>fin its r' hz h' c' kp e) (by simp only [List.size_toArray] <;> omega)
 ·obtain ⟨its,r',pl,hz⟩:=I.tuple hq
  have hlen:=r'.length
  obtain ⟨o,ho,hc,n,hd⟩:=pl
  exact call_list_seq p (.inr rfl) ho hc hd (fun h' c' kp e=>fin its r' hz h' c' kp e) (by simp only [List.size_toArray] <;> omega)
def tyV (K:PySem.W.Frag) (T:String) (x:V) (H:Hp):Prop:=match x with
 | .str _=>T = "str"
 | .int _=>T = "int"
 | .ref p=>(T = "list"∧∃ xs,SqL K H p xs)∨(T = "tuple"∧∃ o,K.lookup p=some o∧o.cls=.type "tuple"∧o.dict=none)∨
   (T = "dict"∧((∃ kvs,H p=some (.dK kvs))∨∃ kvs,H p=some (.dT kvs)))∨(T = "set"∧∃ S n,H p=some (.set S n))
 | _=>False
theorem tyV_is {pins:List (Addr × Obj)} {σ:St} {H:Hp} {s:Shared} {T:String} {x:V} {v:Value} (I:Inv X pins σ H s) (r:RelV x v) (ty:tyV X.K T x H) :
  s.TypeIs v T∧∀ a,v=.ref a→∃ ob,s.heap.get? a=some ob∧ob.dict=none:=by
 cases x with
 | str z=>
  obtain ⟨t,rfl⟩:=r
  cases (show T = "str" from ty)
  exact ⟨typeIs_str s z t,fun _ e=>nomatch e⟩
 | int i=>
  obtain ⟨t,rfl⟩:=r
  cases (show T = "int" from ty)
  exact ⟨typeIs_int s i t,fun _ e=>nomatch e⟩
 | ref p=>
  cases r
  rcases ty with ⟨rfl,xs,hq⟩ | ⟨rfl,o,hk,hc,hd⟩ | ⟨rfl,hk⟩ | ⟨rfl,S,n,hk⟩
  ·obtain ⟨its,_,pl,_⟩:=I.list hq
   refine ⟨pl.isList.typeIs,fun a e=>?_⟩
   cases e
   obtain ⟨o,n,e,c,hd,_⟩:=pl
   exact ⟨o,e,hd⟩
  ·refine ⟨⟨o,I.kIn p o hk,hc⟩,fun a e=>?_⟩
   cases e
   exact ⟨o,I.kIn _ o hk,hd⟩
  ·have z:∃ o,s.heap.get? p=some o∧o.ExactDict:=by
    rcases hk with ⟨kvs,hk⟩ | ⟨kvs,hk⟩
    ·obtain ⟨_,_,_,_,o,_,_,e,ex,_⟩:=I.hok p _ hk
     exact ⟨o,e,ex⟩
    ·obtain ⟨_,_,_,_,o,_,_,e,ex,_⟩:=I.hok p _ hk
     exact ⟨o,e,ex⟩
   obtain ⟨o,e,ex⟩:=z
   refine ⟨⟨o,e,ex.1⟩,fun a e2=>?_⟩
   cases e2
   exact ⟨o,e,ex.2.1⟩
  ·obtain ⟨o,_,_,_,e,ex,_⟩:=I.hok p _ hk
   refine ⟨⟨o,e,ex.1⟩,fun a e2=>?_⟩
   cases e2
   exact ⟨o,e,ex.2.1⟩
 | _=>exact False.elim ty
def tBM0 (K:PySem.W.Frag) (T:String) (r:V→List V→Hp→VK→Prop) (to:TE):TE:=fun σ H Q=>to σ H fun x H1=>tyV K T x H1∧r x [] H1 Q
def tBM (K:PySem.W.Frag) (T:String) (r:V→List V→Hp→VK→Prop) (to:TE) (t:TA):TE:=fun σ H Q=>to σ H fun x H1=>tyV K T x H1∧t σ H1 fun xs H2=>r x xs H2 Q
variable {o e:Expr} {es:List Expr} {to:TE} {t:TA} {name:Str} {apos cpos:Pos} {T id:String} {r:V→List V→Hp→VK→Prop}
theorem pe_bm0 (pa:PlainAttrs T) (slot:Slot T name id) (hty:typeOf (.builtin id)=pure (.type "method_descriptor")) (hm:MtR X id r) (ho:PE X o to)
  (hbase:attributeBase o name X.env (eval o X.env)=eval o X.env:=by rfl) (hline:(apos.endLine == cpos.line)=true:=by rfl):PE X (.Call (.Attribute o name apos) [] [] cpos) (tBM0 X.K T r to):=by
 intro pins s σ H Q I h
 refine wpAny_Call_method0_late hbase hline (thn (ho pins s σ H _ I h) fun v s1 ⟨x,H1,I1,r1,ty,q1⟩=>?_)
 obtain ⟨h1,h2⟩:=tyV_is I1 r1 ty
 exact ⟨T,id,pa,slot,hty,h1,h2,Calls.callWith_builtin rfl (PySem.evalArgs_none (hm pins s1 σ H1 x [] v [] Q I1 r1 .nil q1))⟩
theorem pe_bm (pa:PlainAttrs T) (slot:Slot T name id) (hty:typeOf (.builtin id)=pure (.type "method_descriptor")) (hm:MtR X id r) (ho:PE X o to) (ha:PA X (e::es) t)
  (hbase:attributeBase o name X.env (eval o X.env)=eval o X.env:=by rfl)
  (hfew:((backTo cpos (starEach (e::es) X.env)).all (fun x=>!x.1) && (backToKw cpos (keywordEach [] X.env)).all (fun x=>x.1.isSome)
   && decide ((e::es).length+([]:List Keyword).length+(if ([]:List Keyword).isEmpty then 0 else 1)<30))=true:=by rfl)
  (hline:(apos.endLine == cpos.line)=true:=by rfl) (hs:starEach (e::es) X.env=(false,eval e X.env)::starEach es X.env:=by rfl) (hplain:(backTo cpos (starEach es X.env)).any (·.1)=false:=by rfl) :
  PE X (.Call (.Attribute o name apos) (e::es) [] cpos) (tBM X.K T r to t):=by
 intro pins s σ H Q I h
 refine wpAny_Call_method_late hbase hfew hline rfl (thn (ho pins s σ H _ I h) fun v s1 ⟨x,H1,I1,r1,ty,q1⟩=>?_)
 obtain ⟨h1,h2⟩:=tyV_is I1 r1 ty
 refine ⟨T,id,pa,slot,hty,h1,h2,?_⟩
 have hA:=ha cpos pins s1 σ H1 _ I1 q1
 rw [hs] at hA ⊢
 refine Calls.callWith_builtin (by show (false || (backTo cpos (starEach es X.env)).any (·.1))=false;rw [hplain] <;> rfl) (Calls.evalArgs_plain ?_)
 exact thn hA fun us s2 ⟨vs,H2,I2,r2,q2⟩=>hm pins s2 σ H2 x vs v us Q I2 r1 r2 q2
end
end L2
namespace L2
open PySem PySem.Spec PyProof.Rows
def MtM (X:Cx) (id:String) (r:V→List V→Hp→VK→Prop):Prop:=
 ∀ (pins:List (Addr × Obj)) (s:Shared) (σ:St) (H:Hp) (x:V) (xs:List V) (v:Value) (us:List Value) (Q:VK),Inv X pins σ H s→RelV x v→Vals xs us→r x xs H Q→
  wpAny (model X.prog X.w) X.A (call (.builtin id) (v::us)) (EP X pins σ Q) X.xe s
theorem Vals.one:∀ {x:V} {us:List Value},Vals [x] us→∃ u,us=[u]∧RelV x u
 | _,_,.cons r .nil=>⟨_,rfl,r⟩
section
variable {X:Cx} {pins:List (Addr × Obj)} {σ:St} {H:Hp} {s:Shared} {l b:Addr} {xs ys zs:List V}
theorem Inv.lset {its its':List Value} {n:Nat} {f:Array Value→Array Value} {t':Nat} (I:Inv X pins σ H s) (hH:H l=some (.lst xs))
  (e:s.heap.get? l=some { cls:=.type "list",data:=.seq its.toArray n }) (hf:f its.toArray=its'.toArray) (hv:Vals ys its') (hz:ys.length≤sizeLine) :
  Inv X pins σ (upd H l (.lst ys)) { s with heap:=s.heap.update l (Obj.mapSeq f),toks:=t' }:=by
 have q:=PySem.IsL.update e f
 rw [hf] at q
 refine I.write (x:=l) (e:=l) (by rw [hH];exact trivial) (.inl rfl) (fun b' u hb hu=>(Heap.get?_update_other s.heap (Obj.mapSeq f) (Ne.symm hb)).trans hu) ⟨_,q⟩ ?_
 exact ⟨hz,its',_,hv,q⟩
theorem Inv.lnew {its:List Value} {t':Nat} (I:Inv X pins σ H s) (hv:Vals ys its) (hz:ys.length≤sizeLine) :
  Inv X pins σ (upd H s.heap.objs.size (.lst ys)) { s with heap:=s.heap.push { cls:=.type "list",data:=.seq its.toArray },toks:=t' }:=
 I.laid (fun _ _ q=>Heap.get?_push_of_some _ q) (Nat.le_refl _) ⟨hz,its,0,hv,Heap.get?_push_size _ rfl⟩
theorem Inv.fresh (I:Inv X pins σ H s):H s.heap.objs.size=none:=I.hok.fresh (Nat.le_refl _)
theorem Inv.lstM (I:Inv X pins σ H s) (hH:H l=some (.lst xs)):xs.length≤sizeLine∧∃ (its:List Value) (n:Nat),Vals xs its∧xs.length=its.length∧s.heap.get? l=some { cls:=.type "list",data:=.seq its.toArray n }:=by
 obtain ⟨z,its,n,r,e⟩:=I.hok l _ hH
 exact ⟨z,its,n,r,r.length,e⟩
theorem notLongL {n:Nat} (h:n≤sizeLine):Builtin.List.listTooLong n=false:=by
 unfold Builtin.List.listTooLong
 exact decide_eq_false (by omega)
end
section
variable {X:Cx}
def rAppend:V→List V→Hp→VK→Prop:=fun x vs H Q=>∃ l xs y,x=.ref l∧vs=[y]∧H l=some (.lst xs)∧xs.length<sizeLine∧Q .non (upd H l (.lst (xs++[y])))
theorem mt_append:MtM X "list.append" rAppend:=by
 intro pins s σ H x vs v us Q I rx rv h
 obtain ⟨l,xs,y,rfl,rfl,hH,hz,q⟩:=h
 cases rx
 obtain ⟨u,rfl,ru⟩:=rv.one
 obtain ⟨z,its,n,r,hl,e⟩:=I.lstM hH
 refine call_meets F.slot_list_append ⟨_,e,rfl⟩ F.entry_list_append (F.args_list_append_2 _ _) (PySem.list_append l its.toArray n u (by rw [List.size_toArray];omega)) ⟨e,?_⟩
 refine ⟨.non,_,I.lset (its':=its++[u]) hH e (by simp) (r.append (.cons ru .nil)) ?_,rfl,q⟩
 rw [List.length_append,List.length_singleton]
 omega
def rExtend:V→List V→Hp→VK→Prop:=fun x vs H Q=>∃ l b xs zs,x=.ref l∧vs=[.ref b]∧H l=some (.lst xs)∧H b=some (.lst zs)∧xs.length+zs.length≤sizeLine∧Q .non (upd H l (.lst (xs++zs)))
theorem mt_extend:MtM X "list.extend" rExtend:=by
 intro pins s σ H x vs v us Q I rx rv h
 obtain ⟨l,b,xs,zs,rfl,rfl,hH,hB,hz,q⟩:=h
 cases rx
 obtain ⟨u,rfl,ru⟩:=rv.one
 cases ru
 obtain ⟨z,its,n,r,hl,e⟩:=I.lstM hH
 obtain ⟨z2,its2,n2,r2,hl2,e2⟩:=I.lstM hB
 have hsz:its.toArray.size+its2.toArray.size≤sizeLine:=by rw [List.size_toArray,List.size_toArray];omega
 have hlong:¬ (!its.toArray.isEmpty && Builtin.List.listTooLong (its.toArray.size+its2.toArray.size))=true:=by
  rw [notLongL hsz,Bool.and_false]
  exact Bool.false_ne_true
 refine call_meets F.slot_list_extend ⟨_,e,rfl⟩ F.entry_list_extend (F.args_list_extend_2 _ _)
  (AutoSeq1.list_extend_list_list_0 l its.toArray n b its2.toArray n2 hlong (by rw [List.size_toArray];omega) (by omega)) ⟨e,e2,?_⟩
 refine ⟨.non,_,I.lset (its':=its++its2) hH e (by simp) (r.append r2) ?_,rfl,q⟩
 rw [List.length_append]
 omega
def rPop:V→List V→Hp→VK→Prop:=fun x vs H Q=>∃ l xs y,x=.ref l∧vs=[]∧H l=some (.lst xs)∧xs[xs.length-1]?=some y∧Q y (upd H l (.lst xs.dropLast))
def rPopAt:V→List V→Hp→VK→Prop:=fun x vs H Q=>∃ l xs i k y,x=.ref l∧vs=[.int i]∧H l=some (.lst xs)∧-(2 ^ 63)≤i∧i<2 ^ 63∧seqIndex? i xs.length=some k∧xs[k]?=some y∧Q y (upd H l (.lst (xs.eraseIdx k)))
def rReverse:V→List V→Hp→VK→Prop:=fun x vs H Q=>∃ l xs,x=.ref l∧vs=[]∧H l=some (.lst xs)∧Q .non (upd H l (.lst xs.reverse))
def rClear:V→List V→Hp→VK→Prop:=fun x vs H Q=>∃ l xs,x=.ref l∧vs=[]∧H l=some (.lst xs)∧Q .non (upd H l (.lst []))
def rCat:R2:=fun x y H Q=>∃ l b xs zs,x=.ref l∧y=.ref b∧H l=some (.lst xs)∧H b=some (.lst zs)∧xs.length+zs.length≤sizeLine∧∀ p,H p=none→Q (.ref p) (upd H p (.lst (xs++zs)))
theorem op_cat:OpR X (binaryOp .Add) rCat:=by
 intro pins s σ H x y v u Q I rx ry h
 obtain ⟨l,b,xs,zs,rfl,rfl,hH,hB,hz,q⟩:=h
 cases rx
 cases ry
 obtain ⟨z,its,n,r,hl,e⟩:=I.lstM hH
 obtain ⟨z2,its2,n2,r2,hl2,e2⟩:=I.lstM hB
 refine PySem.P.add_list e e2 ?_ (by rw [List.size_toArray,List.size_toArray];omega)
 have ea:its.toArray++its2.toArray=(its++its2).toArray:=by simp
 rw [ea]
 exact ⟨.ref _,_,I.lnew (t':=s.toks) (r.append r2) (by rw [List.length_append];omega),rfl,q _ I.fresh⟩
def rRep:R2:=fun x y H Q=>∃ l k xs,x=.ref l∧y=.int k∧H l=some (.lst xs)∧-(2 ^ 63)≤k∧k<2 ^ 63∧xs.length*k.toNat≤sizeLine∧
 ∀ p,H p=none→Q (.ref p) (upd H p (.lst (List.replicate k.toNat xs).flatten))
end
section
variable {prog:Program} {w:World} {A:Around} {E:Value→Shared→Prop} {s:Shared}
end
section
variable {X:Cx}
end
end L2
namespace Att
open PySem PySem.W PySem.Calls PyProof.Rows
theorem ints_of_wellAll {P:Params} {h:Heap}:∀ (ns:List Int) (vs:List Value),WellAll P h vs (ns.map WData.int)→IntsAre vs ns:=by
 intro ns
 induction ns with
 | nil=>
  intro vs w
  rw [List.map_nil] at w
  cases w
  exact .nil
 | cons n ns ih=>
  intro vs w
  rw [List.map_cons] at w
  cases w with
  | cons a b=>
   cases a
   exact .cons _ _ (ih _ b)
theorem script_of {l:OpenLaw} {n:Nat} (hn:l.most=some n) {P:Params} {h:Heap} {args:List WData} {vals:List Value}
  (hpre:l.row.toRowW.claim.pre args=true) (hwl:WellAll P h vals args) :
  ∃ a vs ns,vals=[Value.ref a]∧args=[WData.list (ns.map WData.int)]∧h.get? a=some { cls:=.type "list",data:=.seq vs.toArray }∧IntsAre vs ns∧ns.length≤n:=by
 have hsh:WShape.hasAll [] args [.list .int]=true:=(pre_splitW hpre).1
 have hc:l.pre.holds [] { args:=args }=true:=(pre_splitW hpre).2
 obtain ⟨d,r,rfl,h1,h2⟩:=hasAllW_cons hsh
 obtain rfl:=hasAllW_nil h2
 obtain ⟨xs,rfl,h3⟩:=hasW_list h1
 obtain ⟨ns,rfl⟩:=items_int h3
 have hlen:ns.length≤n:=by
  unfold OpenLaw.pre at hc
  have h4:(WTm.not (.lt (.lit (.int (n:Int))) (.len (.arg 0)))).holds [] { args:=[.list (ns.map .int)] }=true:=by
   have h4:=(holds_andW hc).1
   rw [hn] at h4
   exact h4
  have h5:=condW_of h4 (w_not (w_lt w_lit (w_len_list (w_arg rfl))))
  rw [List.length_map] at h5
  refine Nat.le_of_not_lt fun q=>?_
  have q':(n:Int)<((ns.length:Nat):Int):=by omega
  first
   | (rw [decide_eq_true q'] at h5;exact absurd h5 (by decide))
   | (simp at h5;omega)
 cases hwl with
 | cons w1 w2=>
  cases w2
  cases w1 with
  | list ho hall=>exact ⟨_,_,ns,rfl,rfl,ho,ints_of_wellAll ns _ hall,hlen⟩
theorem post_true (l:OpenLaw) (args:List WData):l.row.toRowW.claim.post args (.bool true) args=true:=
 postW_of (r:=l.row.toRowW) (X:=(true == true))
  (show WShape.has [] (.bool true) .bool=true by first | rfl | decide | simp [WShape.has,WShape.arms,WShape.armsAll])
  (show (WTm.eq .res (.lit (.bool true))).value [] { args:=args,res:=some (.bool true),after:=args }=some (.bool (true == true)) from w_eq_bool (w_res rfl) w_lit) rfl
section
variable {prog:Program} {w:World} {A:Around} {E:Value→Shared→Prop} {s:Shared} {K:Frag}
def noObjs (h:Heap):Heap:={ h with objs:=#[] }
def ledger (h:Heap) (L d:Addr):List (Addr × Obj):=(List.range h.objs.size).filterMap fun a=>if a=L∨a=d then none else (h.get? a).map fun o=>(a,o)
end
end Att
namespace L2
open PySem PySem.Spec PyProof.Rows
theorem vals_ints:∀ {vs:List Value} {ns:List Int},IntsAre vs ns→Vals (ns.map V.int) vs
 | _,_,.nil=>.nil
 | _,_,.cons n t h=>.cons ⟨t,rfl⟩ (vals_ints h)
def Only (H:Hp):Prop:=∀ b,H b=none∨∃ o xs,H b=some (.frz o (.lst xs))
theorem law_call {P:Program} {w:World} {K:PySem.W.Frag} {mg mb:Str→Option Value} {CX:CXT} {k:Nat} {fa a:Addr} {fd:FuncData} {x:Str} {sp:Sp} {s₁:Shared} {vs:List Value} {ns:List Int}
  (KX:K.In s₁.heap) (hns:s₁.heap.Ns mainGlobals mg) (hb:s₁.heap.Ns builtinsNs mb) (hbb:∀ x:Str,x≠"__name__"→mb x=bootBuiltins x) (hlim:s₁.heap.NoLimit) (hg:s₁.gens = #[])
  (ha:s₁.heap.get? a=some { cls:=.type "list",data:=.seq vs.toArray }) (hi:IntsAre vs ns) (hl:ns.length≤sizeLine) (hr:Room k callerA)
  (F:∀ base:Heap,K.In base→base.Ns mainGlobals mg→FnOk P w K mg base CX k fa fd [x] sp) (hbind:∀ (s:Shared) (u:Value),BindsTo s fd ⟨[u],[]⟩ [(x,u)])
  (hsp:∀ H:Hp,Only H→SqL K H a (ns.map V.int)→sp [.ref a] H (fun v _=>v=.bl true) fun _ _ _=>False)
  (hCX:∀ H e s',CX [] H s₁ (fun _ _ _=>False) e s'→False) :
  codeAny (model P w) callerA (.call (.ref fa) ⟨[.ref a],[]⟩) (fun r s'=>r=.ok (.ret (.bool true))∧OldK s₁.heap s'.heap∧s'.os=s₁.os∧AllBare s'.gens) s₁:=by
 have rv:=vals_ints hi
 have lenV:=hi.length
 have core:∀ H:Hp,Only H→SqL K H a (ns.map V.int)→HOk P w H s₁.heap→(∀ b,H b≠none→b=a)→(H a≠none→K.lookup a=none)→
   codeAny (model P w) callerA (.call (.ref fa) ⟨[.ref a],[]⟩) (fun r s'=>r=.ok (.ret (.bool true))∧OldK s₁.heap s'.heap∧s'.os=s₁.os∧AllBare s'.gens) s₁:=by
  intro H hO hS hok hA hK
  have base_of:∀ {b:Addr} {o:Obj},s₁.heap.get? b=some o→H b=none→(hidT s₁.heap H).get? b=some o:=fun e n=>hidT_get e n
  have noA:∀ {b:Addr} {o:Obj} {es:Array DictEntry} {ep:Nat},s₁.heap.get? b=some o→o.data=.dict es ep→H b=none:=fun {b o es ep} e d=>by
   cases q:H b with
   | none=>rfl
   | some u=>
    have e':b=a:=hA b (by rw [q];simp)
    subst e'
    rw [ha] at e;cases e
    have d':Data.seq vs.toArray _=Data.dict es ep:=d
    cases d'
  have nsK:∀ {b:Addr} {m:Str→Option Value},s₁.heap.Ns b m→(hidT s₁.heap H).Ns b m:=fun {b m} ⟨o,es,ep,e,d,r⟩=>⟨o,es,ep,base_of e (noA e d),d,r⟩
  have hKb:K.In (hidT s₁.heap H):=fun b o e=>base_of (KX b o e) (by
   cases q:H b with
   | none=>rfl
   | some u=>
    have e':b=a:=hA b (by rw [q];simp)
    subst e'
    rw [hK (by rw [q];simp)] at e;cases e)
  have hM:Mod K mg (hidT s₁.heap H):=⟨hKb,nsK hns,⟨mb,nsK hb,hbb⟩,let ⟨mc,h1,h2⟩:=hlim;⟨mc,nsK h1,h2⟩⟩
  have e0:Env0 P w K mg (hidT s₁.heap H) callerA [] s₁ H:=⟨rfl,hM,fun b o e=>of_hidT e,Nat.le_of_eq (hidT_size _ _),trivial,fun b hb=>absurd (show b∈([]:List Addr) from hb) (by simp),hok,.of_eq hg⟩
  refine codeAny_mono ((F _ hKb (nsK hns)).run callerA [] s₁ H ⟨[.ref a],[]⟩ [.ref a] [.ref a] _ _ hr e0 (hbind s₁ (.ref a)) (.cons rfl .nil) (hsp H hO hS)) fun r s' h=>?_
  cases r with
  | error e=>exact (hCX H e s' h).elim
  | ok fl=>
   cases fl with
   | next=>exact False.elim h
   | brk=>exact False.elim h
   | cont=>exact False.elim h
   | ret u=>
    obtain ⟨v,H',os,bare,un,hok',r',q⟩:=h
    have q':v=.bl true:=q
    subst q'
    obtain rfl:u=Value.bool true:=r'
    refine ⟨rfl,OldK.of_keep fun b o e=>?_,os,bare⟩
    cases q:H b with
    | none=>exact un.keep b o e q (by intro z;exact absurd (show b∈([]:List Addr) from z) (by simp)) (by simp)
    | some u=>
     rcases hO b with z | ⟨ob,xs,z⟩
     ·rw [q] at z;cases z
     ·have z2:=un.frzs b ob _ z
      obtain ⟨e1,_⟩:=hok b _ z
      obtain ⟨e2,_⟩:=hok' b _ z2
      rw [e] at e1;cases e1
      exact e2
 cases hk:K.lookup a with
 | some o=>
  have e:=KX a o hk
  rw [ha] at e
  cases e
  refine core (fun _=>none) (fun _=>.inl rfl) (.inr ⟨_,vs.toArray,_,hk,rfl,rfl,rfl,by rw [List.size_toArray,lenV];exact hl,by simpa using rv⟩) (fun b u z=>by have z':(none:Option HO)=some u:=z;cases z') (fun b z=>absurd rfl z) fun z=>absurd rfl z
 | none=>
  refine core (fun b=>if b=a then some (.frz { cls:=.type "list",data:=.seq vs.toArray } (.lst (ns.map V.int))) else none) (fun b=>?_) (.inl (.inr ⟨{ cls:=.type "list",data:=.seq vs.toArray },if_pos rfl⟩)) (fun b u z=>?_) (fun b z=>?_) fun _=>hk
  ·by_cases hb:b=a
   ·exact .inr ⟨_,_,if_pos hb⟩
   ·exact .inl (if_neg hb)
  ·by_cases hb:b=a
   ·have z':=(if_pos hb).symm.trans z
    cases z'
    subst hb
    exact ⟨ha,by rw [List.length_map];exact hl,vs,_,rv,ha⟩
   ·have z':=(if_neg hb).symm.trans z
    cases z'
  ·by_cases hb:b=a
   ·exact hb
   ·exact absurd (if_neg hb) z
end L2
namespace L2
open PySem PySem.Spec PyProof.Rows
abbrev KOf {K:PySem.W.Frag} {h:Heap} (_:K.In h):PySem.W.Frag:=K
end L2
namespace L2
open PySem PySem.Spec PyProof.Rows
def inClass (s:Stmt) (j:Nat):Stmt:=match s with
 | .ClassDef _ _ _ body _ _ _ _ _ _ _=>body.getD j (.Pass ⟨0,0,0,0⟩)
 | _=>.Pass ⟨0,0,0,0⟩
def defArgs (s:Stmt):Arguments:=match s with
 | .FunctionDef _ a _ _ _ _ _ _ _ _=>a
 | _=>{ posonlyargs:=[],args:=[],vararg:=none,kwonlyargs:=[],kw_defaults:=[],kwarg:=none,defaults:=[] }
def defBody (s:Stmt):List Stmt:=match s with
 | .FunctionDef _ _ b _ _ _ _ _ _ _=>b
 | _=>[]
def defScope (s:Stmt):Scope:=match s with
 | .FunctionDef _ _ _ _ _ _ sc _ _ _=>sc
 | _=>{ kind:=.function,names:=[],isGenerator:=false,isCoroutine:=false }
abbrev CX0:CXT:=fun _ _ _ _ _ _=>False
abbrev E0:XK:=fun _ _ _=>False
theorem pass0 {X:Cx}:Passes CX0 X E0:=fun _ _ _ _ _ _ _ h=>h.elim
structure Fun (K:PySem.W.Frag) (x qual:Str) (st:Stmt) (f:Addr) (fd:FuncData):Prop where
 ex:∃ (oc:Value) (od:Option Addr) (kV doc pm:Value) (an:Option Addr) (cdv ct:Value) (osl:Array (Option Value)),
  fd=PySem.W.fnOf x qual (defArgs st) (defBody st) (defScope st) .none kV doc pm an cdv ct∧K.lookup f=some ⟨oc,od,.func fd,osl⟩∧PySem.W.codeIn K cdv qual=true
 kp:PySem.W.keepIn K (.ref f)=true
section
variable {P:Program} {w:World} {K:PySem.W.Frag} {mg:Str→Option Value} {base:Heap}
theorem Fun.ok {x qual:Str} {st:Stmt} {f:Addr} {fd:FuncData} {N ps:List Str} {k:Nat} {sp:Sp} (F:Fun K x qual st f fd) (S:FnScope N ps (defScope st)) (len:∀ vs H Q E,sp vs H Q E→vs.length=ps.length)
  (hbody:∀ (cdv:Value) (A:Around) (outer:List Env) (s:Shared) (H:Hp) (vs:List V) (Q:VK) (E:XK),Room k (A.deeper (envOfC qual (defScope st) s.heap.objs.size f cdv))→sp vs H Q E→
   ∃ t,PSs (cxOf CX0 P w K mg base N qual (defScope st) f cdv A outer s H E).nox (defBody st) t∧t { nx:=fun _ H'=>Q .non H',rt:=Q } (start N vs) H):FnOk P w K mg base CX0 (k+1) f fd ps sp:=by
 obtain ⟨oc,od,kV,doc,pm,an,cdv,ct,osl,rfl,lk,hcd⟩:=F.ex
 refine fn_of lk hcd S len fun A outer s H vs Q E hr hsp=>?_
 obtain ⟨t,h,q⟩:=hbody cdv A outer s H vs Q E hr hsp
 exact ⟨t,h.nox,q⟩
theorem Fun.binds {x qual:Str} {st:Stmt} {f:Addr} {fd:FuncData} {ps:List Str} (F:Fun K x qual st f fd)
  (h:∀ (kV doc pm:Value) (an:Option Addr) (cdv ct:Value) (us:List Value),us.length=ps.length→bindArgs (PySem.W.fnOf x qual (defArgs st) (defBody st) (defScope st) .none kV doc pm an cdv ct) ⟨us,[]⟩=pure (ps.zip us)):Binds K fd ps []:=by
 obtain ⟨oc,od,kV,doc,pm,an,cdv,ct,osl,rfl,lk,hcd⟩:=F.ex
 exact .all (h kV doc pm an cdv ct)
theorem fun_mk {x qual:Str} {st:Stmt} {f:Addr} {oc:Value} {od an:Option Addr} {osl:Array (Option Value)} {kV doc pm cdv ct:Value} (l:K.lookup f=some ⟨oc,od,.func (PySem.W.fnOf x qual (defArgs st) (defBody st) (defScope st) .none kV doc pm an cdv ct),osl⟩)
  (c:PySem.W.codeIn K cdv qual=true) (k:PySem.W.keepIn K (.ref f)=true):Fun K x qual st f (PySem.W.fnOf x qual (defArgs st) (defBody st) (defScope st) .none kV doc pm an cdv ct):=⟨⟨oc,od,kV,doc,pm,an,cdv,ct,osl,rfl,l,c⟩,k⟩
end
theorem hu_of {A:Around} {k:Nat} (hr:Room k A):A.units+1<cLine:=Nat.lt_of_le_of_lt (Nat.add_le_add_left (by decide:1≤64) _) hr.units
theorem small1000 {n:Nat} (h:n≤1000):n<sizeLine:=Nat.lt_of_le_of_lt h (by decide)
section
variable {X:Cx}
theorem pv (i:Nat) {x:Str} {pos:Pos} (hN:X.N[i]?=some x:=by rfl) (hv:Vis X.env.scope x:=by first | exact Or.inl rfl | exact Or.inr (Or.inl rfl) | exact Or.inr (Or.inr rfl)) (hd:(x == ("__debug__":Str))=false:=by decide)
  (hcd:(x == ("__classdict__":Str))=false:=by decide):PE X (.Name x pos) (tVar i):=pe_var hN hv hd hcd
end
theorem iteF {A B:Prop} (h:B):if false=true then A else B:=by
 rw [if_neg Bool.false_ne_true]
 exact h
theorem iteT {A B:Prop} (h:A):if true=true then A else B:=by
 rw [if_pos rfl]
 exact h
theorem ite2 {c A B:Prop} [Decidable c] (h1:c→A) (h2:¬ c→B):if c then A else B:=by
 by_cases h:c
 ·rw [if_pos h]
  exact h1 h
 ·rw [if_neg h]
  exact h2 h
theorem iteNS {c A B:Prop} [Decidable c] (hc:c) (h:B):if (!decide c)=true then A else B:=by
 rw [decide_eq_true hc]
 exact iteF h
def Same (H H':Hp):Prop:=∀ b o,H b=some o→H' b=some o
theorem Same.refl (H:Hp):Same H H:=fun _ _ h=>h
theorem Same.trans {H H1 H2:Hp} (a:Same H H1) (b:Same H1 H2):Same H H2:=fun c o h=>b c o (a c o h)
theorem Same.free {H H':Hp} (e:Same H H') {l:Addr} (h:H' l=Option.none):H l=Option.none:=by
 cases q:H l with
 | none=>rfl
 | some o=>
  rw [e l o q] at h
  cases h
theorem Same.seq {K:PySem.W.Frag} {H H':Hp} {a:Addr} {xs:List V} (e:Same H H') (h:SqL K H a xs):SqL K H' a xs:=by
 rcases h with (h | ⟨o,h⟩) | h
 ·exact .inl (.inl (e _ _ h))
 ·exact .inl (.inr ⟨o,e _ _ h⟩)
 ·exact .inr h
end L2
set_option maxHeartbeats 4000000
set_option exponentiation.threshold 300
namespace L2
open PySem PySem.Spec PyProof.Rows
section
variable {X:Cx}
theorem bits_le {k:Int} {n:Nat} (h:k.natAbs<2 ^ n):Builtin.Int.intBits k≤n:=by
 unfold Builtin.Int.intBits
 split
 ·exact Nat.zero_le _
 ·rename_i h0
  have hz:k.natAbs≠0:=by
   intro z
   apply h0
   have:k=0:=by omega
   simp [this]
  have:k.natAbs.log2<n:=(Nat.log2_lt hz).mpr h
  omega
def CMulB (i j:Int):Prop:=i.natAbs<2 ^ 9000∧j.natAbs<2 ^ 9000
theorem CMulB.ok {i j:Int} (h:CMulB i j):IntMulOk i j:=by
 refine IntMulOk.of_bits (Nat.le_trans (bits_le h.1) (by decide)) (Nat.le_trans (bits_le h.2) (by decide))
theorem op_mulB:OpR X (binaryOp .Mult) (rI CMulB fun i j=>.int (i*j)):=opI fun _ _ _ _ _ _ _ hc q=>mul_int q hc.ok
def CDivB (_ j:Int):Prop:=j≠0∧j.natAbs<2 ^ 9000
theorem CDivB.ok {i j:Int} (h:CDivB i j):Builtin.divisionGoesByPylong i j=false:=
 PyProof.noPylong_of_log2 ((Nat.log2_lt (by have:=h.1;omega)).mpr h.2)
theorem op_fdivB:OpR X (binaryOp .FloorDiv) (rI CDivB fun i j=>.int (i.fdiv j)):=opI fun _ _ _ _ _ _ _ hc q=>floordiv_int hc.1 q (.inl hc.ok)
def rIsI (K:PySem.W.Frag) (c:Value):List V→Hp→VK→Prop:=fun vs H Q=>∃ x y t b,vs=[x,y]∧(∀ u,RelV y u→u=c)∧TyOf K H x t∧PySem.W.kitOne K t c=some b∧Q (.bl b) H
theorem call_isI {c:Value}:CallR X (.builtin "isinstance") (rIsI X.K c):=by
 intro pins s σ H xs us Q I r h
 obtain ⟨x,y,t,b,rfl,hc,ty,e,q⟩:=h
 cases r with
 | cons r1 r2=>
  cases r2 with
  | cons r3 r4=>
   cases r4
   have:=hc _ r3
   subst this
   exact isinst_ok I r1 ty e fun tk=>⟨.bl b,H,I.tok tk,rfl,q⟩
end
section
variable {X:Cx}
def cxComp (X:Cx) (pins:List (Addr × Obj)) (N':List Str) (scope:Scope) (cl:List (Str × Addr)) (C:Addr) (fp:List Addr) (s:Shared) (H:Hp):Cx:=
 { X with N:=N',s₀:=s,H₀:=H,env:=compEnvC scope cl C X.env,outer:=X.stack,stack:=X.stack,ex:=fp,fn:=fun _=>false,pn:=X.pn++pins,xe:=fun _ _=>False }
structure Clos (X:Cx) (scope:Scope) (cl:List (Str × Addr)):Prop where
 clos:closureFor scope X.env=pure cl
 sub:∀ y c,cl.lookup y=some c→X.env.cells.lookup y=some c
 has:∀ y,((relabel scope X.env).names.lookup y=some .cell∨(relabel scope X.env).names.lookup y=some .free)→∃ c,cl.lookup y=some c
theorem relabel_none {scope:Scope} {env:Env} (hf:∀ x∈scope.names,x.2≠.free):relabel scope env=scope:=by
 unfold relabel
 have:(scope.names.map fun (n,k)=>if (k == NameKind.free && env.scope.kind == .function && env.kindOf n == some .cell) then (n,NameKind.cell) else (n,k))=scope.names:=by
  refine map_eq_self fun x hx=>?_
  obtain ⟨n,k⟩:=x
  have h1:(k == NameKind.free)=false:=by simpa using hf _ hx
  simp [h1]
 rw [this]
theorem Clos.none {scope:Scope} (hf:∀ x∈scope.names,x.2≠.free) (hc:∀ x∈scope.names,x.2≠.cell):Clos X scope []:=by
 refine ⟨closureFor_none hf,fun y c h=>by simp at h,fun y h=>?_⟩
 rw [relabel_none hf] at h
 rcases h with h | h
 ·exact absurd rfl (hc _ (PySem.mem_of_lookup h))
 ·exact absurd rfl (hf _ (PySem.mem_of_lookup h))
def Reads (X:Cx) (scope:Scope) (rest:List Str) (sel:St→St):Prop:=
 ∀ σ,(sel σ).length=rest.length∧∀ (i:Nat) (y:Str) (v:V),rest[i]?=some y→(sel σ)[i]?=some (some v)→∃ j:Nat,X.N[j]?=some y∧σ[j]?=some (some v)∧X.env.scope.names.lookup y=some .cell∧(relabel scope X.env).names.lookup y=some .cell
def tComp (wi:TI) (te:TE) (sel:St→St):TE:=fun σ H Q=>wi σ H fun J H1=>∀ l,H1 l=none→∃ W:Nat→Nat→Hp→Prop,(∃ m,W 0 m (upd H1 l (.lst [])))∧∀ i m H,W i m H→
 (J.stop i H∧Q (.ref l) H)∨(J.go i H∧∀ x H',J.yld i H x H'→te (some x::sel σ) H' fun y H2=>∃ ys,H2 l=some (.lst ys)∧ys.length<sizeLine∧∃ m',m'<m∧W (i+1) m' (upd H2 l (.lst (ys++[y]))))
end
end L2
namespace L2
open PySem PySem.Spec PyProof.Rows
theorem ifV {k m:Int} {A B:Prop} (h1:k=m→A) (h2:k≠m→B):if decide (V.int k=V.int m)=true then A else B:=by
 by_cases h:k=m
 ·rw [if_pos (by rw [h];exact decide_eq_true rfl)]
  exact h1 h
 ·rw [if_neg (by rw [decide_eq_false (by intro z;exact h (V.int.inj z))];decide)]
  exact h2 h
theorem ifB {c A B:Prop} [Decidable c] (h1:c→A) (h2:¬ c→B):if decide c=true then A else B:=by
 by_cases h:c
 ·rw [if_pos (decide_eq_true h)]
  exact h1 h
 ·rw [if_neg (by rw [decide_eq_false h];decide)]
  exact h2 h
theorem iteC {c:Bool} {A B:Prop} (h:c=true) (a:A):if c=true then A else B:=by
 rw [if_pos h]
 exact a
theorem iteD {c:Bool} {A B:Prop} (h:c=false) (b:B):if c=true then A else B:=by
 rw [if_neg (by rw [h];decide)]
 exact b
theorem neV {k m:Int} (h:k≠m):decide (V.int k=V.int m)=false:=decide_eq_false (by intro z;exact h (V.int.inj z))
end L2
namespace L2
open PySem PySem.Spec PyProof.Rows
section
variable {X:Cx} {st:Stmt} {rest:List Stmt} {t u:TS}
def tCut (t u:TS):TS:=fun D σ H=>∃ M:St→Hp→Prop,t { D with nx:=M } σ H∧∀ σ' H',M σ' H'→u D σ' H'
theorem pss_cut (h1:PS X st t) (h2:PSs X rest u):PSs X (st::rest) (tCut t u):=by
 intro pins s σ H D I ⟨M,h,hM⟩
 refine wpAny_execs_cons (thn (h1 pins s σ H { D with nx:=M } I h) fun f s1 q=>?_)
 cases f with
 | next=>
  obtain ⟨σ',H',I',q⟩:=q
  exact h2 pins s1 σ' H' D I' (hM σ' H' q)
 | ret v=>exact q
 | brk=>exact q
 | cont=>exact q
end
def rLen (K:PySem.W.Frag):List V→Hp→VK→Prop:=fun xs H Q=>∃ p ys,xs=[.ref p]∧(SqL K H p ys∨SqT K H p ys)∧Q (.int ys.length) H
theorem call_lenK {X:Cx}:CallR X (.builtin "len") (rLen X.K):=call_len_seq
end L2
namespace L2
open PySem
def Trail (h:Heap) (e:Addr) (vs:Array Value):Option Addr→Prop
 | none=>vs[1]?=some .none
 | some T=>vs[1]?=some (.ref T)∧T≠e∧∃ oT ts,h.get? T=some oT∧oT.data=.fields ts∧ts[3]?=some .none
structure Noted (l:List Env) (e:Addr) (oe:Obj) (vs:Array Value) (tr:Option Addr) (h h':Heap):Prop where
 exc:∃ vs' T,h'.get? e=some { oe with data:=.fields vs' }∧vs'[0]?=vs[0]?∧h.objs.size≤T∧Trail h' e vs' (some T)
 keep:∀ b o,b≠e→tr≠some b→b ∉ l.filterMap (·.frame)→h.get? b=some o→h'.get? b=some o
 slot:∀ b o,b≠e→tr≠some b→b∈l.filterMap (·.frame)→h.get? b=some o→∃ sl,h'.get? b=some { o with slots:=sl }
section
variable {M:Model} {A:Around} {E:Value→Shared→Prop} {s:Shared} {base:Heap} {env:Env} {outer:List Env} {L e:Addr} {oe:Obj} {vs:Array Value} {Q:Unit→Shared→Prop}
theorem mapFields_eq {o:Obj} {ws:Array Value} (hd:o.data=.fields ws) (f:Array Value→Array Value):Obj.mapFields f o = { o with data:=.fields (f ws) }:=by
 obtain ⟨c,d,dt,sl⟩:=o
 cases hd
 rfl
theorem entry_core {head:Value} {hadNext:Bool} (hfr:A.frames=some (env::outer)) (hl:s.heap.FunFrames base (env::outer)) (hf:env.frame=some L)
  (he:s.heap.get? e=some oe) (hd:oe.data=.fields vs) (hsz:1<vs.size) (h:∀ h',Noted (env::outer) e oe vs none s.heap h'→Q () { s with heap:=h' }) :
  wpAny M A (do let a ← frameOf env;let pl ← entryPlaceOf L hadNext;let b ← EntryCells.newEntry head a .none (rawInt L) .none pl;setField (.ref e) 1 b) (fun _ s'=>wpAny M A (setFlight (.ref e) none) Q E s') E s:=by
 have ne:∀ b∈(env::outer).filterMap (·.frame),b≠e:=fun b hm z=>by
  obtain ⟨_,o,ho,hnf⟩:=hl.mem hm
  rw [z,he] at ho
  cases ho
  exact hnf vs hd
 refine wpAny_bind (wpAny_frameOf_fun hfr hl hf fun h₁ hs₁=>wpAny_bind (wpAny_entryPlaceOf fun pl hpl=>?_))
 unfold EntryCells.newEntry newFields
 refine wpAny_bind (wpAny_newObj_type ?_ (hpl.sizeOk5 _ _ _ _ _))
 have a₁:h₁.get? e=some oe:=(hs₁.2.1 e fun hm=>ne e hm rfl).trans he
 generalize hot:({ cls:=.type "traceback",dict:=none,data:=.fields ([head,.ref L,.none,rawInt L,.none]++(if pl.isEmpty then List.replicate 6 Value.none else pl)).toArray }:Obj)=ot
 have fr:ot.isFreed=false:=by rw [← hot];rfl
 obtain ⟨ts,hts,h3⟩:∃ ts:Array Value,ot.data=.fields ts∧3<ts.size:=by
  refine ⟨_,by rw [← hot],?_⟩
  simp only [List.size_toArray,List.length_append,List.length_cons,List.length_nil]
  omega
 have a₂:=Heap.get?_push_of_some (h:=h₁) ot a₁
 refine wpAny_setField a₂ hd hsz ?_
 have nT:h₁.objs.size≠e:=Nat.ne_of_gt (Heap.lt_size a₁)
 have d₃:=Obj.data_mapFields hd (·.setIfInBounds 1 (Value.ref h₁.objs.size))
 have a₃:=Heap.get?_update_self (Obj.mapFields (·.setIfInBounds 1 (Value.ref h₁.objs.size))) a₂ (Obj.isFreed_of_fields d₃)
 have t₃:=(Heap.get?_update_other (h₁.push ot) (Obj.mapFields (·.setIfInBounds 1 (Value.ref h₁.objs.size))) (Ne.symm nT)).trans (Heap.get?_push_size h₁ fr)
 unfold setFlight
 refine wpAny_bind (wpAny_field a₃ d₃ (x:=.ref h₁.objs.size) (by simp [hsz]) ?_)
 rw [if_pos (show (Value.ref h₁.objs.size != Value.none)=true from by simp)]
 refine wpAny_setField t₃ hts h3 (h _ ?_)
 have old:∀ b o,b≠e→h₁.get? b=some o→(((h₁.push ot).update e (Obj.mapFields (·.setIfInBounds 1 (Value.ref h₁.objs.size)))).update h₁.objs.size (Obj.mapFields (·.setIfInBounds 3 Value.none))).get? b=some o:=fun b o hb q=>by
  rw [Heap.get?_update_other _ _ (Nat.ne_of_gt (Heap.lt_size q)),Heap.get?_update_other _ _ (Ne.symm hb)]
  exact Heap.get?_push_of_some _ q
 have e₄:=(Heap.get?_update_other ((h₁.push ot).update e (Obj.mapFields (·.setIfInBounds 1 (Value.ref h₁.objs.size)))) (Obj.mapFields (·.setIfInBounds 3 Value.none)) nT).trans a₃
 have t₄:=Heap.get?_update_self (Obj.mapFields (·.setIfInBounds 3 Value.none)) t₃ (Obj.isFreed_of_fields (Obj.data_mapFields hts _))
 refine ⟨⟨_,h₁.objs.size,by rw [mapFields_eq hd] at e₄;exact e₄,by rw [Array.getElem?_setIfInBounds_ne (by decide)],?_,by simp [hsz],nT,_,_,t₄,Obj.data_mapFields hts _,by simp [h3]⟩,fun b o nb _ hb q=>?_,fun b o nb _ hb q=>?_⟩
 ·exact Nat.le_of_eq hs₁.1.symm
 ·exact old b o nb ((hs₁.2.1 b hb).trans q)
 ·obtain ⟨sl,q₁⟩:=hs₁.2.2 b o q
  exact ⟨sl,old b _ nb q₁⟩
theorem noted_ok {tr:Option Addr} (hfr:A.frames=some (env::outer)) (hl:s.heap.FunFrames base (env::outer)) (hf:env.frame=some L)
  (he:s.heap.get? e=some oe) (hd:oe.data=.fields vs) (ht:Trail s.heap e vs tr) (h:∀ h',Noted (env::outer) e oe vs tr s.heap h'→Q () { s with heap:=h' }) :
  wpAny M A (noteFrame (.ref e) env) (fun _ s'=>wpAny M A (setFlight (.ref e) none) Q E s') E s:=by
 unfold noteFrame
 simp only [hf]
 cases tr with
 | none=>
  have ht:vs[1]?=some .none:=ht
  refine wpAny_bind (wpAny_field he hd ht ?_)
  rw [if_neg (by decide)]
  exact entry_core hfr hl hf he hd (Array.getElem?_eq_some_iff.mp ht).1 h
 | some T=>
  obtain ⟨h1,nT,oT,ts,gT,dT,h3⟩:=ht
  refine wpAny_bind (wpAny_field he hd h1 ?_)
  rw [if_pos (show (Value.ref T != Value.none)=true from by simp)]
  refine wpAny_bind (wpAny_field gT dT h3 ?_)
  rw [if_neg (show ¬ ((Value.none == rawInt L)=true) from by simp [rawInt])]
  refine wpAny_bind (wpAny_setField gT dT (Array.getElem?_eq_some_iff.mp h3).1 ?_)
  have oth:∀ b,b≠T→(s.heap.update T (Obj.mapFields (·.setIfInBounds 3 Value.none))).get? b=s.heap.get? b:=fun b hb=>Heap.get?_update_other _ _ (Ne.symm hb)
  have nr:∀ b o,s.heap.get? b=some o→(∀ ws,o.data≠.fields ws)→b≠T:=fun b o hb hn q=>by
   rw [q,gT] at hb
   cases hb
   exact hn ts dT
  refine entry_core hfr (hl.of_keeps fun b o hb hn=>⟨o,(oth b (nr b o hb hn)).trans hb,rfl⟩) hf ((oth e (Ne.symm nT)).trans he) hd (Array.getElem?_eq_some_iff.mp h1).1 fun h' N=>h h' ⟨?_,?_,?_⟩
  ·obtain ⟨vs',T',q1,q2,q3,q4⟩:=N.exc
   exact ⟨vs',T',q1,q2,by rw [Heap.size_after_update] at q3;exact q3,q4⟩
  ·intro b o nb nt hb q
   exact N.keep b o nb (by intro z;cases z) hb ((oth b fun z=>nt (by rw [z])).trans q)
  ·intro b o nb nt hb q
   exact N.slot b o nb (by intro z;cases z) hb ((oth b fun z=>nt (by rw [z])).trans q)
theorem leaving_ok {tr:Option Addr} (hfr:A.frames=some (env::outer)) (hl:s.heap.FunFrames base (env::outer)) (hf:env.frame=some L)
  (he:s.heap.get? e=some oe) (hd:oe.data=.fields vs) (ht:Trail s.heap e vs tr) (h:∀ h',Noted (env::outer) e oe vs tr s.heap h'→Q () { s with heap:=h' }) :
  wpAny M A (leaving env (.ref e)) Q E s:=by
 unfold leaving
 exact wpAny_bind (noted_ok hfr hl hf he hd ht h)
end
end L2
namespace L2
open PySem PySem.Spec PyProof.Rows
section
variable {P:Program} {w:World} {H:Hp} {h:Heap} {a:Addr} {o:HO}
theorem ObjOk.there (x:ObjOk P w H h a o):∃ ob,h.get? a=some ob:=by
 cases o with
 | lst xs=>obtain ⟨_,_,_,_,e⟩:=x;exact ⟨_,e⟩
 | tup xs=>obtain ⟨_,_,_,⟨_,e,_⟩⟩:=x;exact ⟨_,e⟩
 | dK kvs=>obtain ⟨_,_,_,_,o,_,_,e,_⟩:=x;exact ⟨_,e⟩
 | dT kvs=>obtain ⟨_,_,_,_,o,_,_,e,_⟩:=x;exact ⟨_,e⟩
 | set S n=>obtain ⟨o,_,_,_,e,_⟩:=x;exact ⟨_,e⟩
 | ins C dx fs=>obtain ⟨_,_,_,e,_⟩:=x;exact ⟨_,e⟩
 | own y=>exact x
 | xd fs=>obtain ⟨_,⟨_,_,_,e,_⟩,_⟩:=x;exact ⟨_,e⟩
 | rng lo hi=>obtain ⟨_,_,_,e⟩:=x;exact ⟨_,e⟩
 | frz ob u=>obtain ⟨e,_⟩:=x;exact ⟨_,e⟩
 | tbl ps=>exact ⟨_,(show h.get? a=some _ from x)⟩
 | met f y=>exact ⟨_,(show h.get? a=some _ from x)⟩
 | ext φ=>obtain ⟨_,e,_⟩:=x;exact e
theorem HOk.noObj (x:HOk P w H h) (e:h.get? a=none):H a=none:=by
 cases q:H a with
 | none=>rfl
 | some o=>
  obtain ⟨ob,z⟩:=(x a o q).there
  rw [e] at z
  cases z
end
section
variable {X:Cx} {pins:List (Addr × Obj)} {σ:St} {H H':Hp} {s s':Shared} {h':Heap}
def Off (X:Cx) (pins:List (Addr × Obj)) (b:Addr):Prop:=
 X.s₀.heap.get? b=none∧b≠X.env.locals∧b ∉ X.fs∧(∀ x c,X.env.cells.lookup x=some c→c≠b)∧∀ p∈X.pn++pins,p.1≠b
theorem Inv.off {b:Addr} (I:Inv X pins σ H s) (hex:X.ex=[]) (hb:s.heap.get? b=none):Off X pins b:=by
 have no:∀ {c:Addr} {o:Obj},s.heap.get? c=some o→c≠b:=fun e z=>by rw [z,hb] at e;cases e
 refine ⟨?_,fun z=>?_,fun z=>?_,fun x c e=>?_,fun p hp=>no (I.pin p hp).1⟩
 ·cases q:X.s₀.heap.get? b with
  | none=>rfl
  | some o=>
   obtain ⟨o',e⟩:=I.base.there b o q (by rw [hex];simp)
   rw [hb] at e
   cases e
 ·obtain ⟨m,⟨o,_,_,e,_⟩,_⟩:=I.loc
  exact no e z.symm
 ·obtain ⟨_,o,e,_⟩:=I.funs.mem z
  exact no e rfl
 ·obtain ⟨v,o,q,_⟩:=I.cell x c e
  exact no q
theorem Inv.stepO {ch:List Addr} (I:Inv X pins σ H s) (hch:∀ b∈ch,Off X pins b)
  (keep:∀ b o,b≠X.env.locals→b ∉ X.fs→b ∉ ch→s.heap.get? b=some o→H b=none→h'.get? b=some o)
  (slot:∀ b o,b≠X.env.locals→b∈X.fs→b ∉ ch→s.heap.get? b=some o→H b=none→∃ sl,h'.get? b=some { o with slots:=sl }) (free:∀ b o,b ∉ ch→s.heap.get? b=some o→H b=none→H' b=none)
  (there:∀ b o,b ∉ ch→s.heap.get? b=some o→∃ o',h'.get? b=some o')
  (tups:∀ b xs,H b=some (.tup xs)→H' b=some (.tup xs)) (frzs:∀ b o u,H b=some (.frz o u)→H' b=some (.frz o u)) (tbls:∀ b ps,H b=some (.tbl ps)→∃ more,H' b=some (.tbl (ps++more)))
  (ns:∀ m,s.heap.Ns X.env.locals m→h'.Ns X.env.locals m) (hok:HOk X.prog X.w H' h') :
  Inv X pins σ H' { s with heap:=h' }:=by
 have neL:∀ b o,X.s₀.heap.get? b=some o→b≠X.env.locals:=fun b o e=>Nat.ne_of_lt (Nat.lt_of_lt_of_le (Heap.lt_size e) I.ok.above)
 have neC:∀ b o,X.s₀.heap.get? b=some o→b ∉ ch:=fun b o e hb=>by rw [(hch b hb).1] at e;cases e
 have cellK:∀ x c,X.env.cells.lookup x=some c→∀ v,s.heap.IsCell c v→h'.IsCell c v:=fun x c e v ⟨o,ho,hd⟩=>by
  have nch:c ∉ ch:=fun z=>(hch c z).2.2.2.1 x c e rfl
  by_cases hc:c∈X.fs
  ·obtain ⟨sl,q⟩:=slot c o (I.cne x c e) hc nch ho (I.freeC x c e)
   exact ⟨_,q,hd⟩
  ·exact ⟨o,keep c o (I.cne x c e) hc nch ho (I.freeC x c e),hd⟩
 refine ⟨I.ok,I.os,I.bare,⟨fun b o e n hb hx=>?_,fun b o e n hb hx=>?_,fun b o e n hx=>?_,fun b o e hx=>?_,fun b xs e=>tups b xs (I.base.tups b xs e),fun b o xs e=>frzs b o xs (I.base.frzs b o xs e),fun b ps e=>?_⟩,?_,fun x c e=>?_,?_,fun x c e=>?_,fun p hp=>?_,hok,I.len⟩
 ·exact keep b o (neL b o e) hb (neC b o e) (I.base.keep b o e n hb hx) (I.base.free b o e n hx)
 ·obtain ⟨sl,e1⟩:=I.base.slot b o e n hb hx
  obtain ⟨sl',e2⟩:=slot b _ (neL b o e) hb (neC b o e) e1 (I.base.free b o e n hx)
  exact ⟨sl',e2⟩
 ·obtain ⟨o',e1⟩:=I.base.there b o e hx
  exact free b o' (neC b o e) e1 (I.base.free b o e n hx)
 ·obtain ⟨o',e1⟩:=I.base.there b o e hx
  exact there b o' (neC b o e) e1
 ·obtain ⟨m1,e1⟩:=I.base.tbls b ps e
  obtain ⟨m2,e2⟩:=tbls b _ e1
  exact ⟨m1++m2,by rw [e2,Array.append_assoc]⟩
 ·obtain ⟨m,hn,hl⟩:=I.loc
  refine ⟨m,ns m hn,fun i x v e1 e2 e3=>?_⟩
  obtain ⟨u,r,l⟩:=hl i x v e1 e2 e3
  refine ⟨u,r,?_⟩
  rcases l with l | ⟨k,c,e,z⟩
  ·exact .inl l
  ·exact .inr ⟨k,c,e,cellK x c e _ z⟩
 ·obtain ⟨v,z⟩:=I.cell x c e
  exact ⟨v,cellK x c e v z⟩
 ·obtain ⟨m,⟨o,_,_,ho,_⟩,_⟩:=I.loc
  exact free _ o (fun z=>(hch _ z).2.1 rfl) ho I.free
 ·obtain ⟨v,o,ho,hd⟩:=I.cell x c e
  exact free c o (fun z=>(hch c z).2.2.2.1 x c e rfl) ho (I.freeC x c e)
 ·obtain ⟨e,n,ne,nf,d⟩:=I.pin p hp
  have nch:p.1 ∉ ch:=fun z=>(hch p.1 z).2.2.2.2 p hp rfl
  exact ⟨keep p.1 p.2 ne nf nch e n,free p.1 p.2 nch e n,ne,nf,d⟩
theorem Inv.noted {e:Addr} {oe:Obj} {vs:Array Value} {tr:Option Addr} (I:Inv X pins σ H s) (hH:H e=none) (ho:Off X pins e) (ht:∀ T,tr=some T→H T=none∧Off X pins T)
  (N:Noted X.stack e oe vs tr s.heap h'):Inv X pins σ H { s with heap:=h' }:=by
 have any:∀ b o,b ∉ e::tr.toList→s.heap.get? b=some o→∃ sl,h'.get? b=some { o with slots:=sl }:=fun b o hb q=>by
  have n1:b≠e:=fun z=>hb (by rw [z];exact List.mem_cons_self)
  have n2:tr≠some b:=fun z=>hb (List.mem_cons_of_mem _ (by rw [z];simp))
  by_cases hs:b∈frs X.stack
  ·exact N.slot b o n1 n2 hs q
  ·exact ⟨o.slots,N.keep b o n1 n2 hs q⟩
 have kp:∀ b o,b≠X.env.locals→b ∉ X.fs→b ∉ e::tr.toList→s.heap.get? b=some o→h'.get? b=some o:=fun b o hL hb hc q=>
  N.keep b o (fun z=>hc (by rw [z];exact List.mem_cons_self)) (fun z=>hc (List.mem_cons_of_mem _ (by rw [z];simp))) (fun z=>(List.mem_cons.mp (I.stkSub b z)).elim hL hb) q
 have offs:∀ b∈e::tr.toList,H b=none∧Off X pins b:=fun b hb=>by
  rcases List.mem_cons.mp hb with z | z
  ·rw [z];exact ⟨hH,ho⟩
  ·exact ht b (by simpa using z)
 refine I.stepO (ch:=e::tr.toList) (fun b hb=>(offs b hb).2) (fun b o hL hb hc q _=>kp b o hL hb hc q) (fun b o _ _ hc q _=>any b o hc q) (fun _ _ _ _ n=>n)
  (fun b o hc q=>let ⟨_,z⟩:=any b o hc q;⟨_,z⟩) (fun _ _ q=>q) (fun _ _ _ q=>q) (fun b ps q=>⟨#[],by rw [q];simp⟩) (fun m hm=>?_) (fun b u q=>?_)
 ·obtain ⟨o,es,ep,g,r⟩:=hm
  obtain ⟨sl,g'⟩:=any _ o (fun z=>(offs _ z).2.2.1 rfl) g
  exact ⟨_,es,ep,g',r⟩
 ·refine (I.hok b u q).stay (fun c v hc g=>?_) (fun _ z=>z) fun _ _ z=>z
  have trk:H c≠none:=by
   rcases hc with z | z
   ·rw [z,q];simp
   ·rw [z];simp
  refine N.keep c v (fun z=>trk (by rw [z];exact hH)) (fun z=>trk (ht c z).1) (fun z=>trk (I.stkFree c z)) g
def XFly (X:Cx) (pins:List (Addr × Obj)) (H:Hp) (h:Heap) (x:Addr) (cls:Value) (d:Option Addr):Prop:=
 H x=none∧Off X pins x∧∃ vs sl tr,h.get? x=some ⟨cls,d,.fields vs,sl⟩∧Trail h x vs tr∧∀ T,tr=some T→H T=none∧Off X pins T
def XP (X:Cx) (pins:List (Addr × Obj)) (σ:St) (E:XK) (e:Value) (s':Shared):Prop:=∃ x cls d H',e=.ref x∧Inv X pins σ H' s'∧XFly X pins H' s'.heap x cls d∧E cls d H'
def Fly (g:Heap) (H:Hp) (h:Heap) (x:Addr) (cls:Value) (d:Option Addr):Prop:=
 g.get? x=none∧H x=none∧∃ vs sl tr,h.get? x=some ⟨cls,d,.fields vs,sl⟩∧Trail h x vs tr∧∀ T,tr=some T→g.get? T=none∧H T=none
def CX1 (P:Program) (w:World):CXT:=fun outer H s E e s'=>∃ x cls d H',e=.ref x∧s'.os=s.os∧AllBare s'.gens∧Un (frs outer) [] H H' s.heap s'.heap∧HOk P w H' s'.heap∧Fly s.heap H' s'.heap x cls d∧E cls d H'
theorem XP.of_call {E:XK} {e:Value} (hex:X.ex=[]) (I:Inv X pins σ H s) (h:CX1 X.prog X.w X.stack H s E e s'):XP X pins σ E e s':=by
 obtain ⟨x,cls,d,H',rfl,os,bare,un,hok,⟨f1,f2,vs,sl,tr,f3,f4,f5⟩,q⟩:=h
 exact ⟨x,cls,d,H',rfl,I.call' os un hok bare (fun b z=>absurd z (by simp)),⟨f2,I.off hex f1,vs,sl,tr,f3,f4,fun T z=>⟨(f5 T z).2,I.off hex (f5 T z).1⟩⟩,q⟩
end
section
variable {P:Program} {w:World} {K:PySem.W.Frag} {mg:Str→Option Value} {base:Heap} {N:List Str} {qual:Str} {scope:Scope} {f:Addr} {cd:Value} {A:Around} {outer:List Env} {s₀:Shared} {H₀:Hp} {E:XK}
theorem xe_of {pins:List (Addr × Obj)} {σ:St} {e:Value} {s':Shared} (h:XP (cxOf (CX1 P w) P w K mg base N qual scope f cd A outer s₀ H₀ E) pins σ E e s') :
  (cxOf (CX1 P w) P w K mg base N qual scope f cd A outer s₀ H₀ E).xe e s':=by
 obtain ⟨x,cls,d,H',rfl,I,⟨f1,f2,vs,sl,tr,f3,f4,f5⟩,q⟩:=h
 refine leaving_ok (L:=s₀.heap.objs.size) I.ok.frames I.stack rfl f3 rfl f4 fun h' Nt=>?_
 have J:=I.noted f1 f2 f5 Nt
 obtain ⟨vs',T,g1,_,g2,g3⟩:=Nt.exc
 refine ⟨x,cls,d,H',rfl,J.os,J.bare,J.base,J.hok,⟨f2.1,f1,vs',sl,some T,g1,g3,fun T' z=>?_⟩,q⟩
 cases z
 exact ⟨(I.off rfl (Heap.get?_none_of_le g2)).1,I.hok.fresh g2⟩
theorem pass1:Passes (CX1 P w) (cxOf (CX1 P w) P w K mg base N qual scope f cd A outer s₀ H₀ E) E:=fun _ _ _ _ _ _ I h=>xe_of (XP.of_call rfl I h)
theorem owns1:PassesOwn (model P w) (cxOf (CX1 P w) P w K mg base N qual scope f cd A outer s₀ H₀ E).A (cxOf (CX1 P w) P w K mg base N qual scope f cd A outer s₀ H₀ E).env (cxOf (CX1 P w) P w K mg base N qual scope f cd A outer s₀ H₀ E).xe:=PassesOwn.leaving
theorem Fun.okX {x qual:Str} {st:Stmt} {f:Addr} {fd:FuncData} {N ps:List Str} {k:Nat} {sp:Sp} (F:Fun K x qual st f fd) (S:FnScope N ps (defScope st)) (len:∀ vs H Q E,sp vs H Q E→vs.length=ps.length)
  (hbody:∀ (cdv:Value) (A:Around) (outer:List Env) (s:Shared) (H:Hp) (vs:List V) (Q:VK) (E:XK),Room k (A.deeper (envOfC qual (defScope st) s.heap.objs.size f cdv))→sp vs H Q E→
   ∃ t,PSs (cxOf (CX1 P w) P w K mg base N qual (defScope st) f cdv A outer s H E) (defBody st) t∧t { nx:=fun _ H'=>Q .non H',rt:=Q } (start N vs) H):FnOk P w K mg base (CX1 P w) (k+1) f fd ps sp:=by
 obtain ⟨oc,od,kV,doc,pm,an,cdv,ct,osl,rfl,lk,hcd⟩:=F.ex
 exact fn_of lk hcd S len fun A outer s H vs Q E hr hsp=>hbody cdv A outer s H vs Q E hr hsp
end
end L2
namespace L2
open PySem PySem.Spec PyProof.Rows
abbrev bmV:List Value:=[.type "ValueError",.type "Exception",.type "BaseException",.type "object"]
theorem exc_obj {K:PySem.W.Frag} {h:Heap} {C:Addr} {bmB:List Value} {newId:String} (X:K.In h) (q:PySem.W.excIn K C bmB newId=true) :
  ∃ bm N nm qn bs hd sn sub ab col dd k0 k1 k2 k3 k5 mN,h.get? C=some (excClassObj nm qn C N bs bm hd sn sub ab col dd k0 k1 k2 k3 k5 newId)∧h.Ns N mN∧mN "__init__"=none∧OwnTail h bmB bm:=by
 unfold PySem.W.excIn at q
 split at q
 case h_2=>cases q
 case h_1 dd cd sl lk=>
  split at q
  case h_2=>cases q
  case h_1 C' bm k0 k1 k2 k3 n k5 hm hs=>
   simp only [Bool.and_eq_true,beq_iff_eq,Bool.not_eq_true'] at q
   obtain ⟨⟨⟨⟨⟨e1,e2⟩,hdel⟩,ht⟩,hok⟩,hni⟩:=q
   subst e1 e2
   obtain ⟨nm,bs,mro,ns,qn,hd,sn,sub,ab,col,del⟩:=cd
   dsimp only at hm hdel hok hni
   subst hm hdel
   obtain ⟨l⟩:=sl
   have hs:l=_:=hs
   subst hs
   exact ⟨bm,ns,nm,qn,bs,hd,sn,sub,ab,col,dd,k0,k1,k2,k3,k5,_,X _ _ lk,.of_isNs (PySem.W.isNs_of_in X hok),PySem.W.nsMap_none_of_in X hok hni,PySem.W.tail_of_in X ht⟩
section
variable {X:Cx} {E:XK}
def XOut (X:Cx) (E:XK):Prop:=∀ pins σ e s',XP X pins σ E e s'→X.xe e s'
theorem xout1 {P:Program} {w:World} {K:PySem.W.Frag} {mg:Str→Option Value} {base:Heap} {N:List Str} {qual:Str} {scope:Scope} {f:Addr} {cd:Value} {A:Around} {outer:List Env} {s₀:Shared} {H₀:Hp} :
  XOut (cxOf (CX1 P w) P w K mg base N qual scope f cd A outer s₀ H₀ E) E:=fun _ _ _ _ h=>xe_of h
def tRaise (C:Addr) (E:XK) (t:TA):TS:=fun _ σ H=>t σ H fun vs H1=>vs.length≤sizeLine∧E (.ref C) none H1
theorem ps_raise {C:Addr} {x:Str} {np cpos pos:Pos} {e:Expr} {es:List Expr} {t:TA} (hxe:XOut X E) (hex:X.ex=[]) (hh:X.A.handled=none) (hg:Gl X x) (hm:X.mg x=some (.ref C))
  (O:PySem.W.excIn X.K C bmV "ValueError.__new__"=true) (ha:PA X (e::es) t) (he:starEach (e::es) X.env=(false,eval e X.env)::starEach es X.env:=by rfl) (hpl:(backTo cpos (starEach es X.env)).any (·.1)=false:=by rfl)
  (hd:(x == ("__debug__":Str))=false:=by decide):PS X (.Raise (some (.Call (.Name x np) (e::es) [] cpos)) none pos) (tRaise C E t):=by
 intro pins s σ H D I h
 obtain ⟨bm,N,nm,qn,bs,hd',sn,sub,ab,col,dd,k0,k1,k2,k3,k5,mN,hC,hN,hni,T⟩:=exc_obj I.ok.mod.kin O
 refine wpAny_Raise_call_subT (C:=C) (nm:=nm) (q:=qn) (N:=N) (bs:=bs) (bm:=bm) (hdct:=hd') (sn:=sn) (sub:=sub) (ab:=ab) (col:=col) (dd:=dd) (k0:=k0) (k1:=k1) (k2:=k2) (k3:=k3) (k5:=k5)
  PySem.F.excBase_ValueError (mN:=mN) (T.hasType rfl) hh (by rw [he];show (false || (backTo cpos (starEach es X.env)).any (·.1))=false;rw [hpl];rfl) hni (ld_glob I hg hm ⟨rfl,?_⟩ hd)
 have ha':=ha cpos pins s σ H _ I h
 rw [he] at ha' ⊢
 refine Calls.evalArgs_plain (thn ha' fun us s1 ⟨vs,H1,I1,r,hl,q⟩=>⟨rfl,by rw [← r.length];exact hl,I1.bk _ _ hC,hN.keeps I1.bk,T.keeps I1.bk,fun h' y hy=>?_⟩)
 obtain ⟨t',g1,_,_⟩:=hy.there
 exact hxe pins σ _ _ ⟨y,.ref C,none,H1,rfl,I1.kept (t':=s1.toks) hy.keeps,⟨I1.hok.noObj hy.new,I1.off hex hy.new,_,_,none,g1,rfl,fun T z=>by cases z⟩,q⟩
def PX (X:Cx) (e:Expr) (t:XK→TE):Prop:=
 ∀ (pins:List (Addr × Obj)) (s:Shared) (σ:St) (H:Hp) (Q:VK) (E:XK),Inv X pins σ H s→t E σ H Q→wpAny (model X.prog X.w) X.A (eval e X.env) (EP X pins σ Q) (XP X pins σ E) s
def PSX (X:Cx) (st:List Stmt) (t:XK→TS):Prop:=
 ∀ (pins:List (Addr × Obj)) (s:Shared) (σ:St) (H:Hp) (D:Ends) (E:XK),Inv X pins σ H s→t E D σ H→wpAny (model X.prog X.w) X.A (execs st X.env) (SP X pins D) (XP X pins σ E) s
variable {k:Nat} {f C:Addr} {fd:FuncData} {ps:List Str} {sp:Sp} {dvs:List V} {ds:List Value} {x m:Str} {p pos apos:Pos} {e o:Expr} {es:List Expr} {ta:TE} {t:TA}
theorem run_fnX {pins:List (Addr × Obj)} {σ:St} {H:Hp} {s:Shared} {Q:VK} {us:List Value} {vs:List V} (F:FnOk X.prog X.w X.K X.mg X.base (CX1 X.prog X.w) k f fd ps sp) (hr:Room k X.A) (hb:Binds X.K fd ps ds) (hd:Vals dvs ds) (hex:X.ex=[])
  (I:Inv X pins σ H s) (r:Vals vs us) (h:sp (vs++dvs) H Q E):wpAny (model X.prog X.w) X.A (call (.ref f) us) (EP X pins σ Q) (XP X pins σ E) s:=by
 have r2:Vals (vs++dvs) (us++ds):=r.append hd
 have hl:(us++ds).length=ps.length:=by rw [← r2.length];exact F.len _ _ _ _ h
 refine wpAny_call (codeAny_mono (F.run X.A X.stack s H ⟨us,[]⟩ (us++ds) (vs++dvs) Q E hr I.env0 (hb s us I.kIn hl) r2 h) fun r s' hq=>?_)
 cases r with
 | error e=>exact XP.of_call hex I hq
 | ok fl=>
  cases fl with
  | ret u=>exact I.after hq
  | next=>exact False.elim hq
  | brk=>exact False.elim hq
  | cont=>exact False.elim hq
theorem px_call (F:FnOk X.prog X.w X.K X.mg X.base (CX1 X.prog X.w) k f fd ps sp) (hr:Room k X.A) (hg:Gl X x) (hm:X.mg x=some (.ref f)) (hk:PySem.W.keepIn X.K (.ref f)=true) (hb:Binds X.K fd ps ds) (hd:Vals dvs ds) (hex:X.ex=[])
  (ha:PA X.nox (e::es) t) (hdb:(x == ("__debug__":Str))=false:=by decide) (he:starEach (e::es) X.env=(false,eval e X.env)::starEach es X.env:=by rfl) (hpl:(backTo pos (starEach es X.env)).any (·.1)=false:=by rfl) :
  PX X (.Call (.Name x p) (e::es) [] pos) (fun E=>tCall sp dvs E t):=by
 intro pins s σ H Q E I h
 refine wpAny_Call_Name_kw (ld_glob I hg hm ?_ hdb)
 refine PySem.W.callWith_K (h₀:=X.base) I.ok.mod.kin hk (wpAny_mono (ha pos pins s σ H _ (I.wish _) h) (fun us s1 ⟨vs,H1,I1,r,q⟩=>⟨I1.kIn,?_⟩) fun _ _ z=>z.elim) he hpl
 exact run_fnX F hr hb hd hex I1.unwish r q
def PSx (X:Cx) (st:Stmt) (t:XK→TS):Prop:=
 ∀ (pins:List (Addr × Obj)) (s:Shared) (σ:St) (H:Hp) (D:Ends) (E:XK),Inv X pins σ H s→t E D σ H→wpAny (model X.prog X.w) X.A (exec st X.env) (SP X pins D) (XP X pins σ E) s
theorem psx_expr {te:XK→TE} (he:PX X e te) (hs:swapsWith e none pos.line X.env=pure false:=by rfl):PSx X (.Expr e pos) (fun E=>tDrop (te E)):=by
 intro pins s σ H D E I h
 exact wpAny_Expr_any (thn (he pins s σ H _ E I h) fun v s1 ⟨x,H1,I1,r1,q1⟩=>⟨σ,H1,I1,q1⟩) I.quiet hs
theorem pssx_one {st:Stmt} {t:XK→TS} (h1:PSx X st t):PSX X [st] t:=by
 intro pins s σ H D E I h
 refine wpAny_execs_cons (thn (h1 pins s σ H D E I h) fun f s1 q=>?_)
 cases f with
 | next=>exact wpAny_execs_nil q
 | ret v=>exact q
 | brk=>exact q
 | cont=>exact q
theorem psx_if {c:Expr} {a b:List Stmt} {tc:TT} {t u:XK→TS} (hc:PT X.nox c tc) (ha:PSX X a t) (hb:PSX X b u):PSx X (.If c a b pos) (fun E=>tIfS tc (t E) (u E)):=by
 intro pins s σ H D E I h
 refine wpAny_If (wpAny_mono (hc pins s σ H _ (I.wish _) h) (fun d s1 ⟨H1,I1,q1⟩=>?_) fun _ _ z=>z.elim)
 cases d with
 | true=>exact ha pins s1 σ H1 D E I1.unwish q1
 | false=>exact hb pins s1 σ H1 D E I1.unwish q1
end
section
variable {X:Cx}
abbrev Cx.hnd (X:Cx) (x:Addr):Cx:={ X with A:=X.A.mark (some (.ref x)),calm:=false,xe:=fun _ _=>False }
theorem Cx.Ok.hnd {x:Addr} (ok:X.Ok):(X.hnd x).Ok:=⟨ok.mod,ok.kind,ok.glob,ok.blt,ok.above,ok.inj,ok.has,ok.cab,(fun z=>nomatch z),ok.frames,ok.stk,ok.exf,ok.bs,ok.bsz,ok.noex,ok.exfs,ok.funs,ok.frf⟩
variable {pins:List (Addr × Obj)} {σ:St} {H:Hp} {s:Shared} {x:Addr}
theorem Inv.hnd (I:Inv X pins σ H s):Inv (X.hnd x) pins σ H s:=⟨I.ok.hnd,I.os,I.bare,I.base,I.loc,I.cell,I.free,I.freeC,I.pin,I.hok,I.len⟩
theorem Inv.unhnd (ok:X.Ok) (I:Inv (X.hnd x) pins σ H s):Inv X pins σ H s:=⟨ok,I.os,I.bare,I.base,I.loc,I.cell,I.free,I.freeC,I.pin,I.hok,I.len⟩
theorem SP.unhnd {D:Ends} {f:Flow} {s':Shared} (ok:X.Ok) (h:SP (X.hnd x) pins D f s'):SP X pins D f s':=by
 cases f with
 | next=>obtain ⟨σ',H',I,q⟩:=h;exact ⟨σ',H',I.unhnd ok,q⟩
 | brk=>obtain ⟨σ',H',I,q⟩:=h;exact ⟨σ',H',I.unhnd ok,q⟩
 | cont=>obtain ⟨σ',H',I,q⟩:=h;exact ⟨σ',H',I.unhnd ok,q⟩
 | ret u=>obtain ⟨v,σ',H',I,r,q⟩:=h;exact ⟨v,σ',H',I.unhnd ok,r,q⟩
def XO (x C:Addr) (d:Option Addr):HO:=.ext fun h=>∃ vs sl,h.get? x=some ⟨.ref C,d,.fields vs,sl⟩
theorem Inv.track {o:HO} (I:Inv X pins σ H s) (hn:H x=none) (ho:Off X pins x) (new:ObjOk X.prog X.w (upd H x o) s.heap x o):Inv X pins σ (upd H x o) s:=by
 have ne:∀ b u,H b=some u→b≠x:=fun b u e z=>by rw [z,hn] at e;cases e
 have nx:∀ b,b≠x→H b=none→upd H x o b=none:=fun b hb e=>by rw [upd_ne hb];exact e
 refine ⟨I.ok,I.os,I.bare,⟨I.base.keep,I.base.slot,fun b u e n hx=>nx b (fun z=>by rw [z,ho.1] at e;cases e) (I.base.free b u e n hx),I.base.there,fun b xs e=>?_,fun b u v e=>?_,fun b ps e=>?_⟩,
  I.loc,I.cell,nx _ (Ne.symm ho.2.1) I.free,fun y c e=>nx c (ho.2.2.2.1 y c e) (I.freeC y c e),fun p hp=>?_,fun b u e=>?_,I.len⟩
 ·have q:=I.base.tups b xs e
  rw [upd_ne (ne b _ q)]
  exact q
 ·have q:=I.base.frzs b u v e
  rw [upd_ne (ne b _ q)]
  exact q
 ·obtain ⟨more,q⟩:=I.base.tbls b ps e
  exact ⟨more,by rw [upd_ne (ne b _ q)];exact q⟩
 ·obtain ⟨e,n,r⟩:=I.pin p hp
  exact ⟨e,nx p.1 (ho.2.2.2.2 p hp) n,r⟩
 ·by_cases hb:b=x
  ·subst hb
   rw [upd_same] at e
   cases e
   exact new
  ·rw [upd_ne hb] at e
   exact (I.hok b u e).stay (fun _ _ _ q=>q) (fun c q=>by rw [upd_ne (ne c _ q)];exact q) fun c xs q=>by rw [upd_ne (ne c _ q)];exact q
theorem excMatches_K {K:PySem.W.Frag} {M:Model} {A:Around} {E:Value→Shared→Prop} {s:Shared} {e C C':Addr} {d:Option Addr} {dt:Data} {sl:Array (Option Value)} {b:Bool} {Q:Bool→Shared→Prop} (X:K.In s.heap) (he:s.heap.get? e=some ⟨.ref C,d,dt,sl⟩)
  (h1:PySem.W.instIn K (.ref C') (.type "tuple")=some false) {cd:ClassData} (h2:PySem.W.clsIn K C'=some cd) (h3:PySem.W.subIn K (.ref C') (.type "BaseException")=some true) (h4:PySem.W.subIn K (.ref C) (.ref C')=some b) (q:Q b s) :
  wpAny M A (excMatches (.ref e) (.ref C')) Q E s:=by
 have it:PySem.W.Looks M s.heap (isExcClass (.ref C')) true:=by
  unfold isExcClass
  refine PySem.W.Looks.andThen (a:=true) ?_ (PySem.W.looks_subIn X h3)
  unfold PySem.W.clsIn at h2
  split at h2
  ·rename_i ho
   intro A' Q' E' s' k q'
   unfold isType loadHead
   exact wpAny_bind (wpAny_loadPart (k _ _ (X _ _ ho)) (wpAny_pure q'))
  ·cases h2
 have ty:PySem.W.Looks M s.heap (typeOf (.ref e)) (.ref C):=(PySem.W.Looks.ld he).andThen .now
 unfold excMatches
 refine wpAny_bind ((PySem.W.looks_instIn X h1).here ?_)
 simp only [Bool.false_eq_true,if_false]
 refine wpAny_bind (wpAny_pure ?_)
 simp only [List.forIn_cons,List.forIn_nil]
 refine wpAny_bind (wpAny_bind ?_)
 refine wpAny_bind (it.here ?_)
 simp only [Bool.not_true,Bool.false_eq_true,if_false]
 refine wpAny_pure (wpAny_pure (wpAny_bind (ty.here (wpAny_bind (wpAny_bind (wpAny_bind ((PySem.W.looks_subIn X h4).here ?_)))))))
 cases b with
 | true=>exact wpAny_pure (wpAny_pure (wpAny_pure q))
 | false=>exact wpAny_pure (wpAny_pure (wpAny_pure q))
theorem flight_same {M:Model} {A:Around} {E:Value→Shared→Prop} {vs:Array Value} {T:Addr} {c:Value} {d:Option Addr} {sl:Array (Option Value)} {Q:Unit→Shared→Prop} (he:s.heap.get? x=some ⟨c,d,.fields vs,sl⟩) (ht:Trail s.heap x vs (some T)) (q:Q () s):wpAny M A (setFlight (.ref x) none) Q E s:=by
 obtain ⟨h1,_,oT,ts,gT,dT,h3⟩:=ht
 refine wpAny_setFlight_none he rfl h1 gT dT (Array.getElem?_eq_some_iff.mp h3).1 ?_
 rw [Heap.update_setField_same s.heap T oT ts 3 .none gT dT h3]
 exact q
theorem unbind_ok {M:Model} {A:Around} {E:Value→Shared→Prop} {i:Nat} {n:Str} {pos:Pos} {Q:Unit→Shared→Prop} (I:Inv X pins σ H s) (hN:X.N.Nodup) (hi:X.N[i]?=some n) (hk:X.env.scope.names.lookup n=some .local)
  (h:∀ s',Inv X pins (σ.set i none) H s'→Q () s'):wpAny M A (do bindName X.env n .none;unbindBehindTheSuite X.env n pos) Q E s:=by
 obtain ⟨m,hn,hl⟩:=id I.loc
 have hcls:(X.env.scope.kind == .class || (X.env.scope.kind == .module && X.env.locals != X.env.globals))=false:=by rw [I.ok.kind];rfl
 have hiσ:i < σ.length:=by rw [I.len];exact (List.getElem?_eq_some_iff.mp hi).1
 have cne:=I.cne
 obtain ⟨oL,_,_,hoL,_⟩:=id hn
 have neL:∀ b o,X.s₀.heap.get? b=some o→b≠X.env.locals:=fun b o e=>Nat.ne_of_lt (Nat.lt_of_lt_of_le (Heap.lt_size e) I.ok.above)
 refine wpAny_nameGoes_keeps hk hn hcls fun h' v hn' hs=>h _ ⟨I.ok,I.os,I.bare,⟨fun b o e n hb hx=>?_,fun b o e n hb hx=>?_,I.base.free,fun b o e hx=>?_,I.base.tups,I.base.frzs,I.base.tbls⟩,⟨_,hn',fun j y v' e1 e2 e3=>?_⟩,fun y c e=>?_,I.free,I.freeC,fun p hp=>?_,fun b u e=>?_,by simpa using I.len⟩
 ·exact (hs.2 b (neL b o e)).trans (I.base.keep b o e n hb hx)
 ·obtain ⟨sl,e1⟩:=I.base.slot b o e n hb hx
  exact ⟨sl,(hs.2 b (neL b o e)).trans e1⟩
 ·obtain ⟨o',e1⟩:=I.base.there b o e hx
  exact ⟨o',(hs.2 b (neL b o e)).trans e1⟩
 ·by_cases hj:j=i
  ·subst hj
   rw [List.getElem?_set_self hiσ] at e2
   cases e2
  ·rw [List.getElem?_set_ne (Ne.symm hj)] at e2
   obtain ⟨u',r',q⟩:=hl j y v' e1 e2 e3
   refine ⟨u',r',?_⟩
   rcases q with ⟨k,e⟩ | ⟨k,c,e,z⟩
   ·refine .inl ⟨k,?_⟩
    have:y≠n:=fun e=>hj (nodup_ix hN e1 (e ▸ hi))
    simp [this,e]
   ·exact .inr ⟨k,c,e,z.sameBut hs (cne y c e)⟩
 ·obtain ⟨w',z⟩:=I.cell y c e
  exact ⟨w',z.sameBut hs (cne y c e)⟩
 ·obtain ⟨e,n,ne,nf,d⟩:=I.pin p hp
  exact ⟨(hs.2 p.1 ne).trans e,n,ne,nf,d⟩
 ·refine (I.hok b u e).stay (fun c w' hc q=>(hs.2 c ?_).trans q) (fun _ q=>q) fun _ _ q=>q
  rintro rfl
  rcases hc with z | z
  ·rw [← z,I.free] at e;cases e
  ·rw [I.free] at z;cases z
def XHeld (X:Cx) (pins:List (Addr × Obj)) (H:Hp) (h:Heap) (x:Addr) (cls:Value) (d:Option Addr):Prop:=
 H x=none∧Off X pins x∧∃ vs sl T,h.get? x=some ⟨cls,d,.fields vs,sl⟩∧Trail h x vs (some T)∧H T=none∧Off X pins T
abbrev TH:=Ends→St→Value→Option Addr→Hp→Prop
def PH (X:Cx) (hs:List ExceptHandler) (t:TH):Prop:=
 ∀ (pins:List (Addr × Obj)) (s:Shared) (σ:St) (H:Hp) (D:Ends) (x:Addr) (cls:Value) (d:Option Addr),Inv X pins σ H s→XHeld X pins H s.heap x cls d→t D σ cls d H→
  wpAny (model X.prog X.w) X.A (handleBy (.ref x) X.env hs) (SP X pins D) X.xe s
structure Catches (K:PySem.W.Frag) (C:Addr):Prop where
 tu:PySem.W.instIn K (.ref C) (.type "tuple")=some false
 cl:∃ cd,PySem.W.clsIn K C=some cd
 ex:PySem.W.subIn K (.ref C) (.type "BaseException")=some true
def hNever:TH:=fun _ _ _ _ _=>False
theorem ph_never {hs:List ExceptHandler}:PH X hs hNever:=fun _ _ _ _ _ _ _ _ _ _ h=>h.elim
def hBare (K:PySem.W.Frag) (C':Addr) (t:TS) (tr:TH):TH:=fun D σ cls d H=>∃ C b,cls=.ref C∧PySem.W.subIn K (.ref C) (.ref C')=some b∧if b=true then t D σ H else tr D σ cls d H
theorem ph_bare {y:Str} {C':Addr} {np pos:Pos} {b₀:Stmt} {suite:List Stmt} {rest:List ExceptHandler} {t:TS} {tr:TH} (hg:Gl X y) (hm:X.mg y=some (.ref C')) (hc:Catches X.K C') (hsu:∀ x,PSs (X.hnd x) (b₀ :: suite) t) (hr:PH X rest tr)
  (hd:(y == ("__debug__":Str))=false:=by decide):PH X (.ExceptHandler (some (.Name y np)) none (b₀ :: suite) pos::rest) (hBare X.K C' t tr):=by
 intro pins s σ H D x cls d I hx h
 obtain ⟨C,b,rfl,hsub,q⟩:=h
 obtain ⟨f1,f2,vs,sl,T,f3,f4,f5⟩:=id hx
 obtain ⟨cd,hcd⟩:=hc.cl
 refine wpAny_handleBy_cons (codeAny_handlers_test (ld_glob (X:=X.hnd x) I.hnd hg hm (excMatches_K I.kIn f3 hc.tu hcd hc.ex hsub ?_) hd)) (by intro z;cases z)
 cases b with
 | false=>exact hr pins s σ H D x _ d I hx q
 | true=>
  refine codeAny_handlers_suite (flight_same f3 f4 ?_)
  exact wpAny_mono (hsu x pins s σ H D I.hnd q) (fun f s2 z=>z.unhnd I.ok) fun _ _ z=>z.elim
def hAs (K:PySem.W.Frag) (C':Addr) (i:Nat) (t:TS) (tr:TH):TH:=fun D σ cls d H=>∃ C b,cls=.ref C∧PySem.W.subIn K (.ref C) (.ref C')=some b∧
 if b=true then ∀ x,H x=none→t { nx:=fun σ' H'=>D.nx (σ'.set i none) H',rt:=D.rt,bk:=fun σ' H'=>D.bk (σ'.set i none) H',ct:=fun σ' H'=>D.ct (σ'.set i none) H' } (σ.set i (some (.ref x))) (upd H x (XO x C d)) else tr D σ cls d H
theorem ph_as {y n:Str} {i:Nat} {C':Addr} {np pos:Pos} {b₀:Stmt} {suite:List Stmt} {rest:List ExceptHandler} {t:TS} {tr:TH} (hg:Gl X y) (hm:X.mg y=some (.ref C')) (hc:Catches X.K C') (hN:X.N.Nodup) (hi:X.N[i]?=some n) (hk:X.env.scope.names.lookup n=some .local)
  (hsu:∀ x,PSs (X.hnd x) (b₀ :: suite) t) (hr:PH X rest tr) (hd:(y == ("__debug__":Str))=false:=by decide):PH X (.ExceptHandler (some (.Name y np)) (some n) (b₀ :: suite) pos::rest) (hAs X.K C' i t tr):=by
 intro pins s σ H D x cls d I hx h
 obtain ⟨C,b,rfl,hsub,q⟩:=h
 obtain ⟨f1,f2,vs,sl,T,f3,f4,f5⟩:=id hx
 obtain ⟨cd,hcd⟩:=hc.cl
 refine wpAny_handleBy_cons (codeAny_handlers_test (ld_glob (X:=X.hnd x) I.hnd hg hm (excMatches_K I.kIn f3 hc.tu hcd hc.ex hsub ?_) hd)) (by intro z;cases z)
 cases b with
 | false=>exact hr pins s σ H D x _ d I hx q
 | true=>
  have J:Inv X pins σ (upd H x (XO x C d)) s:=I.track f1 f2 ⟨⟨vs,sl,f3⟩,⟨_,f3⟩,fun h1 h2 ⟨vs',sl',e⟩ k=>⟨vs',sl',k _ e⟩⟩
  refine codeAny_handlers_suite_as (flight_same f3 f4 (store_ok (v:=.ref x) J hN hi (.inl hk) rfl (fun s2 J2=>?_) (.inr hk)))
  refine wpAny_mono (hsu x pins s2 _ _ _ J2.hnd (q x f1)) (fun f s3 z=>?_) fun _ _ z=>z.elim
  have z:=z.unhnd I.ok
  cases f with
  | next=>obtain ⟨σ',H',I',q'⟩:=z;exact unbind_ok I' hN hi hk fun s4 I4=>⟨_,H',I4,q'⟩
  | brk=>obtain ⟨σ',H',I',q'⟩:=z;exact unbind_ok I' hN hi hk fun s4 I4=>⟨_,H',I4,q'⟩
  | cont=>obtain ⟨σ',H',I',q'⟩:=z;exact unbind_ok I' hN hi hk fun s4 I4=>⟨_,H',I4,q'⟩
  | ret u=>obtain ⟨v,σ',H',I',r',q'⟩:=z;exact unbind_ok I' hN hi hk fun s4 I4=>⟨v,_,H',I4,r',q'⟩
def tTry (tb:XK→TS) (th:TH):TS:=fun D σ H=>tb (fun cls d H'=>th D σ cls d H') D σ H
theorem ps_try {body:List Stmt} {h₀:ExceptHandler} {hs:List ExceptHandler} {pos:Pos} {tb:XK→TS} {th:TH} (hb:PSX X body tb) (hh:PH X (h₀ :: hs) th) (hex:X.ex=[]:=by rfl) (hstk:X.stack=X.env::X.outer:=by rfl) (hfr:X.env.frame=some X.env.locals:=by rfl) :
  PS X (.Try body (h₀ :: hs) [] [] pos) (tTry tb th):=by
 intro pins s σ H D I h
 refine wpAny_Try_except (wpAny_mono (hb pins s σ H D _ I h) (fun f s1 q=>?_) fun e s1 q=>?_)
 ·cases f with
  | next=>exact wpAny_execs_nil q
  | ret v=>exact q
  | brk=>exact q
  | cont=>exact q
 ·obtain ⟨x,cls,d,H',rfl,I',⟨f1,f2,vs,sl,tr,f3,f4,f5⟩,q⟩:=q
  refine noted_ok (env:=X.env) (outer:=X.outer) (by rw [← hstk];exact I'.ok.frames) (by rw [← hstk];exact I'.stack) hfr f3 rfl f4 fun h' N=>?_
  have J:=I'.noted f1 f2 f5 (by rw [hstk];exact N)
  obtain ⟨vs',T,g1,_,g2,g3⟩:=N.exc
  exact hh pins _ σ H' D x cls d J ⟨f1,f2,vs',sl,T,g1,g3,I'.hok.fresh g2,I'.off hex (Heap.get?_none_of_le g2)⟩ q
end
end L2
namespace L2
open PySem PySem.Spec PyProof.Rows
def FnB (P:Program) (w:World) (K:PySem.W.Frag) (mg:Str→Option Value) (base:Heap) (CX:CXT) (x:Str) (k:Nat) (ps:List Str) (sp:Sp):Prop:=
 ∃ f fd,mg x=some (.ref f)∧PySem.W.keepIn K (.ref f)=true∧Binds K fd ps []∧FnOk P w K mg base CX k f fd ps sp
def MtB (P:Program) (w:World) (K:PySem.W.Frag) (mg:Str→Option Value) (base:Heap) (CX:CXT) (C:Addr) (m:Str) (k:Nat) (ps:List Str) (sp:Sp):Prop:=
 ∃ f fd,Meth K C m f∧Binds K fd ps []∧FnOk P w K mg base CX k f fd ps sp
def MkB (P:Program) (w:World) (K:PySem.W.Frag) (mg:Str→Option Value) (base:Heap) (CX:CXT) (C:Addr) (k:Nat) (ps:List Str) (dvs:List V) (sp:Sp):Prop:=
 ∃ f fd ds,Mk K C f∧Binds K fd ps ds∧Vals dvs ds∧FnOk P w K mg base CX k f fd ps sp
theorem FnOk.up {P:Program} {w:World} {K:PySem.W.Frag} {mg:Str→Option Value} {base:Heap} {CX:CXT} {k:Nat} {f:Addr} {fd:FuncData} {ps:List Str} {sp:Sp} (F:FnOk P w K mg base CX0 k f fd ps sp):FnOk P w K mg base CX k f fd ps sp:=
 ⟨F.len,fun A outer s H args us vs Q E hr he hb hv hs=>codeAny_mono (F.run A outer s H args us vs Q E hr he hb hv hs) fun r s' h=>by
  cases r with
  | error e=>exact False.elim h
  | ok fl=>cases fl <;> exact h⟩
section
variable {P:Program} {w:World} {K:PySem.W.Frag} {mg:Str→Option Value} {base:Heap} {CX:CXT} {x m:Str} {C:Addr} {k:Nat} {ps:List Str} {sp:Sp} {dvs:List V}
theorem MtB.up (h:MtB P w K mg base CX0 C m k ps sp):MtB P w K mg base CX C m k ps sp:=let ⟨f,fd,a,b,d⟩:=h;⟨f,fd,a,b,d.up⟩
end
section
variable {X:Cx} {CX:CXT} {k j:Nat} {C:Addr} {ps:List Str} {sp:Sp} {dvs:List V} {E:XK} {x m:Str} {p pos apos:Pos} {e o:Expr} {es:List Expr} {ta:TE} {t:TA}
theorem pe_fn (F:FnB X.prog X.w X.K X.mg X.base CX x k ps sp) (hr:Room j X.A) (hx:Passes CX X E) (ha:PA X (e::es) t) (hj:k≤j:=by decide) (hg:Gl X x:=by rfl) (hdb:(x == ("__debug__":Str))=false:=by decide)
  (he:starEach (e::es) X.env=(false,eval e X.env)::starEach es X.env:=by rfl) (hpl:(backTo pos (starEach es X.env)).any (·.1)=false:=by rfl):PE X (.Call (.Name x p) (e::es) [] pos) (tCall sp [] E t):=by
 obtain ⟨f,fd,a,b,c,d⟩:=F
 exact pe_call d (hr.mono hj) hg a b c .nil hx ha hdb he hpl
theorem pe_mk (F:MkB X.prog X.w X.K X.mg X.base CX C k ps dvs sp) (hr:Room j X.A) (hm:X.mg x=some (.ref C)) (hx:Passes CX X E) (ha:PA X (e::es) t) (hj:k+1≤j:=by decide) (hg:Gl X x:=by rfl) (hdb:(x == ("__debug__":Str))=false:=by decide)
  (he:starEach (e::es) X.env=(false,eval e X.env)::starEach es X.env:=by rfl) (hpl:(backTo pos (starEach es X.env)).any (·.1)=false:=by rfl):PE X (.Call (.Name x p) (e::es) [] pos) (tMake C sp dvs E t):=by
 obtain ⟨f,fd,ds,a,b,c,d⟩:=F
 exact pe_make a d (hr.mono hj) hg hm b c hx ha hdb he hpl
theorem px_fn (F:FnB X.prog X.w X.K X.mg X.base (CX1 X.prog X.w) x k ps sp) (hr:Room j X.A) (ha:PA X.nox (e::es) t) (hj:k≤j:=by decide) (hg:Gl X x:=by rfl) (hex:X.ex=[]:=by rfl) (hdb:(x == ("__debug__":Str))=false:=by decide)
  (he:starEach (e::es) X.env=(false,eval e X.env)::starEach es X.env:=by rfl) (hpl:(backTo pos (starEach es X.env)).any (·.1)=false:=by rfl):PX X (.Call (.Name x p) (e::es) [] pos) (fun E=>tCall sp [] E t):=by
 obtain ⟨f,fd,a,b,c,d⟩:=F
 exact px_call d (hr.mono hj) hg a b c .nil hex ha hdb he hpl
end
def FDe (K:PySem.W.Frag) (mg:Str→Option Value) (x:Str) (st:Stmt) (ps:List Str):Prop:=∃ f fd,Fun K x x st f fd∧mg x=some (.ref f)∧Binds K fd ps []
def MDe (K:PySem.W.Frag) (C:Addr) (x qual:Str) (st:Stmt) (ps:List Str):Prop:=∃ f fd,Fun K x qual st f fd∧Meth K C x f∧Binds K fd ps []
section
variable {P:Program} {w:World} {K:PySem.W.Frag} {mg:Str→Option Value} {base:Heap} {x qual:Str} {C:Addr} {st:Stmt} {N ps:List Str} {k:Nat} {sp:Sp}
theorem FDe.ok (F:FDe K mg x st ps) (S:FnScope N ps (defScope st)) (len:∀ vs H Q E,sp vs H Q E→vs.length=ps.length)
  (hbody:∀ (f:Addr) (cdv:Value) (A:Around) (outer:List Env) (s:Shared) (H:Hp) (vs:List V) (Q:VK) (E:XK),Room k (A.deeper (envOfC x (defScope st) s.heap.objs.size f cdv))→sp vs H Q E→
   ∃ t,PSs (cxOf CX0 P w K mg base N x (defScope st) f cdv A outer s H E).nox (defBody st) t∧t { nx:=fun _ H'=>Q .non H',rt:=Q } (start N vs) H):FnB P w K mg base CX0 x (k+1) ps sp:=
 let ⟨f,fd,a,b,c⟩:=F
 ⟨f,fd,b,a.kp,c,a.ok S len (hbody f)⟩
theorem MDe.ok (F:MDe K C x qual st ps) (S:FnScope N ps (defScope st)) (len:∀ vs H Q E,sp vs H Q E→vs.length=ps.length)
  (hbody:∀ (f:Addr) (cdv:Value) (A:Around) (outer:List Env) (s:Shared) (H:Hp) (vs:List V) (Q:VK) (E:XK),Room k (A.deeper (envOfC qual (defScope st) s.heap.objs.size f cdv))→sp vs H Q E→
   ∃ t,PSs (cxOf CX0 P w K mg base N qual (defScope st) f cdv A outer s H E).nox (defBody st) t∧t { nx:=fun _ H'=>Q .non H',rt:=Q } (start N vs) H):MtB P w K mg base CX0 C x (k+1) ps sp:=
 let ⟨f,fd,a,b,c⟩:=F
 ⟨f,fd,b,c,a.ok S len (hbody f)⟩
theorem FDe.okX (F:FDe K mg x st ps) (S:FnScope N ps (defScope st)) (len:∀ vs H Q E,sp vs H Q E→vs.length=ps.length)
  (hbody:∀ (f:Addr) (cdv:Value) (A:Around) (outer:List Env) (s:Shared) (H:Hp) (vs:List V) (Q:VK) (E:XK),Room k (A.deeper (envOfC x (defScope st) s.heap.objs.size f cdv))→sp vs H Q E→
   ∃ t,PSs (cxOf (CX1 P w) P w K mg base N x (defScope st) f cdv A outer s H E) (defBody st) t∧t { nx:=fun _ H'=>Q .non H',rt:=Q } (start N vs) H):FnB P w K mg base (CX1 P w) x (k+1) ps sp:=
 let ⟨f,fd,a,b,c⟩:=F
 ⟨f,fd,b,a.kp,c,a.okX S len (hbody f)⟩
theorem MDe.okX (F:MDe K C x qual st ps) (S:FnScope N ps (defScope st)) (len:∀ vs H Q E,sp vs H Q E→vs.length=ps.length)
  (hbody:∀ (f:Addr) (cdv:Value) (A:Around) (outer:List Env) (s:Shared) (H:Hp) (vs:List V) (Q:VK) (E:XK),Room k (A.deeper (envOfC qual (defScope st) s.heap.objs.size f cdv))→sp vs H Q E→
   ∃ t,PSs (cxOf (CX1 P w) P w K mg base N qual (defScope st) f cdv A outer s H E) (defBody st) t∧t { nx:=fun _ H'=>Q .non H',rt:=Q } (start N vs) H):MtB P w K mg base (CX1 P w) C x (k+1) ps sp:=
 let ⟨f,fd,a,b,c⟩:=F
 ⟨f,fd,b,c,a.okX S len (hbody f)⟩
end
def FunG (K:PySem.W.Frag) (x qual:Str) (st:Stmt) (f:Addr) (fd:FuncData):Prop:=∃ (oc:Value) (od:Option Addr) (dV kV doc pm:Value) (an:Option Addr) (cdv ct:Value) (osl:Array (Option Value)),
  fd=PySem.W.fnOf x qual (defArgs st) (defBody st) (defScope st) dV kV doc pm an cdv ct∧K.lookup f=some ⟨oc,od,.func fd,osl⟩∧PySem.W.codeIn K cdv qual=true
structure FunD (K:PySem.W.Frag) (x qual:Str) (st:Stmt) (f:Addr) (fd:FuncData) (ds:Array Value):Prop where
 ex:∃ (oc:Value) (od:Option Addr) (T:Addr) (kV doc pm:Value) (an:Option Addr) (cdv ct:Value) (osl:Array (Option Value)) (o:Obj) (n:Nat),
  fd=PySem.W.fnOf x qual (defArgs st) (defBody st) (defScope st) (.ref T) kV doc pm an cdv ct∧K.lookup f=some ⟨oc,od,.func fd,osl⟩∧PySem.W.codeIn K cdv qual=true∧K.lookup T=some o∧o.data=.seq ds n
section
variable {P:Program} {w:World} {K:PySem.W.Frag} {mg:Str→Option Value} {base:Heap} {x qual:Str} {C:Addr} {st:Stmt} {f:Addr} {fd:FuncData} {ds:Array Value} {N ps:List Str} {k:Nat} {sp:Sp}
theorem FunD.gen (F:FunD K x qual st f fd ds):FunG K x qual st f fd:=let ⟨oc,od,T,kV,doc,pm,an,cdv,ct,osl,_,_,e,l,c,_⟩:=F.ex;⟨oc,od,.ref T,kV,doc,pm,an,cdv,ct,osl,e,l,c⟩
theorem Fun.gen (F:Fun K x qual st f fd):FunG K x qual st f fd:=let ⟨oc,od,kV,doc,pm,an,cdv,ct,osl,e,l,c⟩:=F.ex;⟨oc,od,.none,kV,doc,pm,an,cdv,ct,osl,e,l,c⟩
theorem FunD.binds {es:List Value} (F:FunD K x qual st f fd ds)
  (h:∀ (T:Addr) (kV doc pm:Value) (an:Option Addr) (cdv ct:Value) (us:List Value),(us++es).length=ps.length→∃ k,bindArgs (PySem.W.fnOf x qual (defArgs st) (defBody st) (defScope st) (.ref T) kV doc pm an cdv ct) ⟨us,[]⟩=seqItems? (.ref T) >>= k∧k (some ds)=pure (ps.zip (us++es))):Binds K fd ps es:=by
 obtain ⟨oc,od,T,kV,doc,pm,an,cdv,ct,osl,o,n,rfl,lk,hcd,lt,hd⟩:=F.ex
 intro s us KX hl
 obtain ⟨k,h1,h2⟩:=h T kV doc pm an cdv ct us hl
 exact PySem.W.binds_K KX rfl lt hd h1 h2
theorem funD_mk {T:Addr} {oc:Value} {od an:Option Addr} {osl:Array (Option Value)} {kV doc pm cdv ct:Value} {o:Obj} {n:Nat} (l:K.lookup f=some ⟨oc,od,.func (PySem.W.fnOf x qual (defArgs st) (defBody st) (defScope st) (.ref T) kV doc pm an cdv ct),osl⟩)
  (c:PySem.W.codeIn K cdv qual=true) (t:K.lookup T=some o) (hd:o.data=.seq ds n):FunD K x qual st f (PySem.W.fnOf x qual (defArgs st) (defBody st) (defScope st) (.ref T) kV doc pm an cdv ct) ds:=⟨⟨oc,od,T,kV,doc,pm,an,cdv,ct,osl,o,n,rfl,l,c,t,hd⟩⟩
theorem FunG.ok (F:FunG K x qual st f fd) (S:FnScope N ps (defScope st)) (len:∀ vs H Q E,sp vs H Q E→vs.length=ps.length)
  (hbody:∀ (cdv:Value) (A:Around) (outer:List Env) (s:Shared) (H:Hp) (vs:List V) (Q:VK) (E:XK),Room k (A.deeper (envOfC qual (defScope st) s.heap.objs.size f cdv))→sp vs H Q E→
   ∃ t,PSs (cxOf CX0 P w K mg base N qual (defScope st) f cdv A outer s H E).nox (defBody st) t∧t { nx:=fun _ H'=>Q .non H',rt:=Q } (start N vs) H):FnOk P w K mg base CX0 (k+1) f fd ps sp:=by
 obtain ⟨oc,od,dV,kV,doc,pm,an,cdv,ct,osl,rfl,lk,hcd⟩:=F
 refine fn_of lk hcd S len fun A outer s H vs Q E hr hsp=>?_
 obtain ⟨t,h,q⟩:=hbody cdv A outer s H vs Q E hr hsp
 exact ⟨t,h.nox,q⟩
theorem FunG.okX (F:FunG K x qual st f fd) (S:FnScope N ps (defScope st)) (len:∀ vs H Q E,sp vs H Q E→vs.length=ps.length)
  (hbody:∀ (cdv:Value) (A:Around) (outer:List Env) (s:Shared) (H:Hp) (vs:List V) (Q:VK) (E:XK),Room k (A.deeper (envOfC qual (defScope st) s.heap.objs.size f cdv))→sp vs H Q E→
   ∃ t,PSs (cxOf (CX1 P w) P w K mg base N qual (defScope st) f cdv A outer s H E) (defBody st) t∧t { nx:=fun _ H'=>Q .non H',rt:=Q } (start N vs) H):FnOk P w K mg base (CX1 P w) (k+1) f fd ps sp:=by
 obtain ⟨oc,od,dV,kV,doc,pm,an,cdv,ct,osl,rfl,lk,hcd⟩:=F
 exact fn_of lk hcd S len fun A outer s H vs Q E hr hsp=>hbody cdv A outer s H vs Q E hr hsp
def IDe (K:PySem.W.Frag) (C:Addr) (qual:Str) (st:Stmt) (ps:List Str) (dvss:List (List V)):Prop:=∃ f fd,FunG K "__init__" qual st f fd∧Mk K C f∧∀ dvs∈dvss,∃ es,Vals dvs es∧Binds K fd ps es
theorem IDe.ok {dvss:List (List V)} (F:IDe K C qual st ps dvss) (S:FnScope N ps (defScope st)) (len:∀ vs H Q E,sp vs H Q E→vs.length=ps.length)
  (hbody:∀ (f:Addr) (cdv:Value) (A:Around) (outer:List Env) (s:Shared) (H:Hp) (vs:List V) (Q:VK) (E:XK),Room k (A.deeper (envOfC qual (defScope st) s.heap.objs.size f cdv))→sp vs H Q E→
   ∃ t,PSs (cxOf CX0 P w K mg base N qual (defScope st) f cdv A outer s H E).nox (defBody st) t∧t { nx:=fun _ H'=>Q .non H',rt:=Q } (start N vs) H):∀ dvs∈dvss,MkB P w K mg base CX0 C (k+1) ps dvs sp:=fun dvs hd=>
 let ⟨f,fd,a,b,c⟩:=F
 let ⟨es,v,d⟩:=c dvs hd
 ⟨f,fd,es,b,d,v,a.ok S len (hbody f)⟩
theorem IDe.okX {dvss:List (List V)} (F:IDe K C qual st ps dvss) (S:FnScope N ps (defScope st)) (len:∀ vs H Q E,sp vs H Q E→vs.length=ps.length)
  (hbody:∀ (f:Addr) (cdv:Value) (A:Around) (outer:List Env) (s:Shared) (H:Hp) (vs:List V) (Q:VK) (E:XK),Room k (A.deeper (envOfC qual (defScope st) s.heap.objs.size f cdv))→sp vs H Q E→
   ∃ t,PSs (cxOf (CX1 P w) P w K mg base N qual (defScope st) f cdv A outer s H E) (defBody st) t∧t { nx:=fun _ H'=>Q .non H',rt:=Q } (start N vs) H):∀ dvs∈dvss,MkB P w K mg base (CX1 P w) C (k+1) ps dvs sp:=fun dvs hd=>
 let ⟨f,fd,a,b,c⟩:=F
 let ⟨es,v,d⟩:=c dvs hd
 ⟨f,fd,es,b,d,v,a.okX S len (hbody f)⟩
end
end L2
namespace L2
open PySem PySem.Spec PyProof.Rows PySem.W PySem.Calls
theorem weight_mem:∀ (ns:List Int) (n:Int),n∈ns→Builtin.Int.intBits n≤WData.weightAll (ns.map WData.int)
 | m::r,n,h=>by
  rw [List.map_cons]
  show Builtin.Int.intBits n≤WData.weight (.int m)+1+WData.weightAll (r.map WData.int)
  rcases List.mem_cons.mp h with z | z
  ·subst z
   have:WData.weight (.int n)=Builtin.Int.intBits n:=by
    simp only [WData.weight,Builtin.Int.intBits]
   omega
  ·have:=weight_mem r n z
   omega
theorem bits_of_lay {ns:List Int} (h:WData.layableAll [WData.list (ns.map WData.int)]=true):∀ n∈ns,Builtin.Int.intBits n≤2 ^ 20:=fun n hn=>by
 have h1:(WData.list (ns.map WData.int)).layable=true:=by
  unfold WData.layableAll at h
  simpa using h
 have h2:=(layableW_iff.mp h1).2.2
 have h3:=weight_mem ns n hn
 exact Nat.le_trans h3 h2
theorem walk_ofB {l:PySem.W.OpenLaw} {n k:Nat} {q:Program} {loose:List Str} {XP:(Str→Option Value)→Heap→Prop} {YP:World→Heap→Prop} {d:DefRec} {K:Params→PySem.W.Frag} {CX:World→CXT} {sp:World→Sp} {x:Str}
  (hn:l.most=some n) (hn2:n≤sizeLine) (hdf:d.params.defaults=[]) (hr:Room k callerA)
  (hY:∀ (w:World) (h:Heap),YP w h→(K w.params).In h)
  (F:∀ (w:World) (mg:Str→Option Value) (fa:Addr) (h:Heap),(K w.params).In h→h.Ns mainGlobals mg→mg d.name=some (.ref fa)→
   ∃ fd:FuncData,(∀ (s:Shared) (u:Value),BindsTo s fd ⟨[u],[]⟩ [(x,u)])∧
    ∀ base:Heap,(K w.params).In base→base.Ns mainGlobals mg→FnOk l.prog w (K w.params) mg base (CX w) k fa fd [x] (sp w))
  (hsp:∀ (w:World) (H:Hp) (a:Addr) (ns:List Int),ns.length≤n→(∀ i∈ns,Builtin.Int.intBits i≤2 ^ 20)→Only H→SqL (K w.params) H a (ns.map V.int)→sp w [.ref a] H (fun v _=>v=.bl true) fun _ _ _=>False)
  (hCX:∀ (w:World) (H:Hp) (s:Shared) (e:Value) (s':Shared),CX w [] H s (fun _ _ _=>False) e s'→False) :
  PySem.W.WalkO q loose XP YP l.row.toRowW d [] (fun f vs=>PySem.call f vs):=by
 intro w s₀ s₁ mg mb G Y fa o pm cd doc dV kV ho hd hcd hD hmg hg args vals as hpre hlay hrd hwl hlo
 obtain rfl:dV=.none:=Dflts.none hD hdf
 obtain rfl:kV=.none:=Dflts.noKw hD
 obtain ⟨a,vs,ns,rfl,rfl,hobj,hints,hlen⟩:=Att.script_of hn hpre hwl
 have hbits:=bits_of_lay hlay
 have KX:=hY w _ Y
 obtain ⟨fd,hb,hF⟩:=F w mg fa _ KX G.T.g hmg
 refine enter_call (codeAny_mono (law_call KX G.T.g G.T.b G.T.builtins G.T.nolimit hg hobj hints (Nat.le_trans hlen hn2) hr hF hb (fun H hO hS=>hsp w H a ns hlen hbits hO hS) fun H e s'=>hCX w H s₁ e s') fun r s' hq=>?_)
 obtain ⟨rfl,h2,h3,h4⟩:=hq
 exact ⟨.inl ⟨.bool true,.bool true,[],rfl,fun _=>rfl,.bool true,Att.post_true l _,fun _=>⟨List.Pairwise.nil,fun _ hm=>(nomatch hm)⟩⟩,h2,h3,h4⟩
section
variable {X:Cx}
end
end L2
namespace L2
open PySem PySem.Spec PyProof.Rows
section
variable {prog:Program} {w:World} {A:Around} {E:Value→Shared→Prop} {s:Shared} {K:PySem.W.Frag} {x D:Addr} {ox:Obj} {od:Option Obj} {name:Str}
structure ExA (K:PySem.W.Frag) (D:Addr):Prop where
 ga:PySem.W.findIn K (.ref D) "__getattribute__"=some (some (.builtin "BaseException.__getattribute__"))
 gh:PySem.W.findIn K (.ref D) "__getattr__"=some none
 be:PySem.W.mroIn K D (.type "BaseException")=some true
 ca:PySem.W.findIn K (.ref D) "__class__"=some (some (.builtin "object.__class__"))
 gs:PySem.W.specialIn K (.builtin "object.__class__") "__get__"=some (some (.builtin "getset_descriptor.__get__"))
 tk:PySem.W.takesIn K (.builtin "object.__class__")=some true
 ob:PySem.W.mroIn K D (.type "object")=some true
 cl:∃ cd,PySem.W.clsIn K D=some cd
theorem exc_check {nameV:Value} {Q:Unit→Shared→Prop} (a:ExA K D) (X:K.In s.heap) (I:PySem.W.InstAt s.heap x ox D od) (hq:Q () s):wpAny (model prog w) A (checkBuiltinCall "BaseException.__getattribute__" ⟨[.ref x,nameV],[]⟩) Q E s:=by
 have hk:builtinKind "BaseException.__getattribute__"=some .slot:=by decide +kernel
 have hsplit:splitId "BaseException.__getattribute__"=some ("BaseException","__getattribute__"):=by decide +kernel
 have ha:=F.args_bexc_ga (.ref x) nameV
 have LI:PySem.W.Looks (model prog w) s.heap (isInstance (.ref x) (.type "BaseException")) true:=I.type.andThen (PySem.W.looks_mroIn X a.be)
 obtain ⟨hh,g,d,t,os⟩:=s
 simp only [checkBuiltinCall,hk,hsplit]
 refine wpAny_bind (LI.at ?_)
 repeat (first | assumption | wp_step)
theorem exc_call_val {tk:Tok} {v:Value} {R:Result→Shared→Prop} (a:ExA K D) (X:K.In s.heap) (I:PySem.W.InstAt s.heap x ox D od) (hf:PySem.W.findObj K D od name=some (.value v)) (hq:R (.ok (.ret v)) s) :
  codeAny (model prog w) A (.call (.builtin "BaseException.__getattribute__") ⟨[.ref x,.str name tk],[]⟩) R s:=by
 refine codeAny_call_builtin F.excAttr_ValueError.ga.plain F.entry_bexc_ga (exc_check a X I ?_)
 have L0:=I.type (M:=model prog w)
 have L1:=PySem.W.looks_find (M:=model prog w) X I hf
 obtain ⟨hh,g,d,t,os⟩:=s
 refine wpAny_bind (wpAny_pure ?_)
 refine wpAny_bind (wpAny_pure ?_)
 refine wpAny_bind (L0.at (wpAny_bind (L1.at ?_)))
 exact wpAny_pure hq
theorem exc_call_cls {tk:Tok} {R:Result→Shared→Prop} (a:ExA K D) (X:K.In s.heap) (I:PySem.W.InstAt s.heap x ox D od) (hq:R (.ok (.ret (.ref D))) s) :
  codeAny (model prog w) A (.call (.builtin "BaseException.__getattribute__") ⟨[.ref x,.str "__class__" tk],[]⟩) R s:=by
 refine codeAny_call_builtin F.excAttr_ValueError.ga.plain F.entry_bexc_ga (exc_check a X I ?_)
 have hf:PySem.W.findObj K D od "__class__"=some (.bind (.builtin "getset_descriptor.__get__") (.builtin "object.__class__")):=by
  obtain ⟨cd,hc⟩:=a.cl
  unfold PySem.W.findObj
  rw [hc,Option.bind_some,a.ca,Option.bind_some]
  simp [a.gs,a.tk]
 have L0:=I.type (M:=model prog w)
 have L1:=PySem.W.looks_find (M:=model prog w) X I hf
 obtain ⟨hh,g,d,t,os⟩:=s
 refine wpAny_bind (wpAny_pure ?_)
 refine wpAny_bind (wpAny_pure ?_)
 refine wpAny_bind (L0.at (wpAny_bind (L1.at ?_)))
 refine wpAny_bind (wpAny_holding (wpAny_call (PySem.W.class_get (s:=⟨hh,g,d,t,os⟩) X I a.ob ?_)))
 exact wpAny_pure hq
theorem exc_by {tk:Tok} {fill expr:Bool} {v:Value} {Q:Value→Shared→Prop} (a:ExA K D) (X:K.In s.heap) (I:PySem.W.InstAt s.heap x ox D od) (hv:PySem.W.handedIn v=true)
  (h:∀ (A:Around) (R:Result→Shared→Prop),R (.ok (.ret v)) s→codeAny (model prog w) A (.call (.builtin "BaseException.__getattribute__") ⟨[.ref x,.str name tk],[]⟩) R s) (q:Q v s) :
  wpAny (model prog w) A (getAttrBy (.ref x) (.str name tk) fill expr) Q E s:=by
 have L0:=I.type (M:=model prog w)
 have L1:=PySem.W.looks_findIn (M:=model prog w) X a.ga
 have L2:=PySem.W.looks_findIn (M:=model prog w) X a.gh
 have f3:=F.excAttr_ValueError.ga.bind (.ref x)
 obtain ⟨hh,g,d,t,os⟩:=s
 unfold getAttrBy
 refine wpAny_holding (wpAny_bind (L0.at (wpAny_bind (L1.at ?_))))
 have hx2:(Value.builtin "BaseException.__getattribute__" == Value.builtin "object.__getattribute__")=false:=by decide +kernel
 have hx0:(expr && onTheHeap (Value.builtin "BaseException.__getattribute__"))=false:=by cases expr <;> rfl
 dsimp only
 rw [hx2,Bool.and_false]
 simp only [Bool.false_eq_true,if_false]
 unfold getAttrByItsOwn hookBefore callGetattribute boundAndCalled
 rw [hx0]
 simp only [Bool.false_eq_true,if_false,onTheHeap,if_true]
 refine wpAny_bind (L2.at ?_)
 refine wpAny_bind (wpAny_attempt (wpAny_holding ?_))
 rw [f3]
 refine wpAny_bind (wpAny_pure ?_)
 refine wpAny_call (h _ _ ?_)
 exact PySem.W.handed_on hv q
theorem exc_cls {Q:Option Value→Shared→Prop} (a:ExA K D) (X:K.In s.heap) (I:PySem.W.InstAt s.heap x ox D od) (h:Q (some (.ref D)) { s with toks:=s.toks+1 }):wpAny (model prog w) A (getAttr? (.ref x) "__class__") Q E s:=by
 obtain ⟨hh,g,d,t,os⟩:=s
 unfold getAttr? getAttrBy?
 refine wpAny_bind (wpAny_mkText (wpAny_bind (wpAny_attempt ?_)))
 exact exc_by (s:=⟨hh,g,d,t+1,os⟩) a X I rfl (fun A R q=>exc_call_cls (s:=⟨hh,g,d,t+1,os⟩) a X I q) (wpAny_pure h)
theorem kitx_exc (a:ExA K D):PySem.W.KitX K (.ref x) (.ref D) (fun h=>∃ ox od,PySem.W.InstAt h x ox D od) where
 ty:=fun _ _ _ ⟨_,_,I⟩=>I.type
 it:=fun _ _ X _=>by
  obtain ⟨cdD,hcD⟩:=a.cl
  unfold PySem.W.clsIn at hcD
  split at hcD
  ·rename_i c' d' cd' sl' ho
   intro A' Q' E' s' k q
   unfold isType loadHead
   exact wpAny_bind (wpAny_loadPart (k _ _ (X _ _ ho)) (wpAny_pure q))
  ·cases hcD
 ne:=fun h tp dd its n sl X htp=>by
  obtain ⟨cdD,hcD⟩:=a.cl
  refine Bool.eq_false_iff.mpr fun q=>?_
  have e:D=tp:=Value.ref.inj (beq_iff_eq.mp q)
  subst e
  unfold PySem.W.clsIn at hcD
  split at hcD
  ·rename_i c' d' cd' sl' ho
   have z:=(X _ _ ho).symm.trans htp
   cases z
  ·cases hcD
 ca:=fun X ⟨_,_,I⟩ k=>exc_cls a X I k
end
section
variable {X:Cx}
def XAt (H:Hp) (x D:Addr):Prop:=H x=some (XO x D none)
def rIsX (K:PySem.W.Frag) (c:Value):List V→Hp→VK→Prop:=fun vs H Q=>∃ x D y b,vs=[.ref x,y]∧(∀ u,RelV y u→u=c)∧XAt H x D∧ExA K D∧PySem.W.kitOne K (.ref D) c=some b∧Q (.bl b) H
theorem call_isX {c:Value}:CallR X (.builtin "isinstance") (rIsX X.K c):=by
 intro pins s σ H xs us Q I r h
 obtain ⟨x,D,y,b,rfl,hc,hx,ea,e,q⟩:=h
 cases r with
 | cons r1 r2=>
  cases r2 with
  | cons r3 r4=>
   cases r4
   have:=hc _ r3
   subst this
   cases r1
   obtain ⟨⟨vs,sl,g⟩,_⟩:=(show ObjOk X.prog X.w H s.heap x (XO x D none) from I.hok x _ hx)
   exact PySem.W.kia_one (kitx_exc ea) I.kIn ⟨_,none,g,rfl,rfl,True.intro⟩ e (fun z=>nomatch z) fun tk=>⟨.bl b,H,I.tok tk,rfl,q⟩
def eqVs:List V→List V→Bool
 | [],[]=>true
 | x::xs,y::ys=>eqV x y && eqVs xs ys
 | _,_=>false
theorem eqVs_len:∀ {xs ys:List V},xs.length≠ys.length→eqVs xs ys=false
 | [],[],h=>absurd rfl h
 | [],_::_,_=>rfl
 | _::_,[],_=>rfl
 | x::xs,y::ys,h=>by
  show (eqV x y && eqVs xs ys)=false
  rw [eqVs_len (fun z=>h (congrArg (· + 1) z)),Bool.and_false]
def eqAtJ (xs ys:List V) (j:Nat):Bool:=match xs[j]?,ys[j]? with | some x,some y=>eqV x y | _,_=>true
theorem eqVs_all:∀ {xs ys:List V},xs.length=ys.length→(List.range xs.length).all (eqAtJ xs ys)=eqVs xs ys
 | [],[],_=>rfl
 | x::xs,y::ys,h=>by
  rw [List.length_cons,List.range_succ_eq_map,List.all_cons,List.all_map]
  show (eqV x y && _)=(eqV x y && eqVs xs ys)
  rw [← eqVs_all (Nat.succ.inj h)]
  rfl
theorem vals_at {xs:List V} {us:List Value} (r:Vals xs us):∀ {j:Nat} {x:V} {u:Value},xs[j]?=some x→us[j]?=some u→RelV x u:=by
 induction r with
 | nil=>intro j x u h;cases h
 | cons r1 _ ih=>
  intro j x u h1 h2
  cases j with
  | zero=>cases h1;cases h2;exact r1
  | succ j=>exact ih h1 h2
def rEqL (K:PySem.W.Frag):R2:=fun x y H Q=>∃ p q xs ys,x=.ref p∧y=.ref q∧SqL K H p xs∧SqL K H q ys∧xs.all flatV=true∧ys.all flatV=true∧Q (.bl (eqVs xs ys)) H
theorem boot_ValueError:bootBuiltins "ValueError"=some (.type "ValueError"):=by decide +kernel
end
end L2
namespace L2
open PySem PySem.Spec PyProof.Rows
inductive ItMethD (P:Program) (w:World) (K:PySem.W.Frag) (mg:Str→Option Value) (base:Heap) (CX:CXT) (m:Str) (j:Nat) (E:XK) (t:TA) (σ:St) (Q:VK) (x:V) (H1:Hp):Prop
 | mk (a:_) (C:_) (dx:_) (fs:_) (k:_) (ps:_) (sp:_) (h1:x=.ref a) (h2:H1 a=some (.ins C dx fs)) (h3:fs.lookup m=none) (h4:Cls K C) (h5:k≤j) (h6:MtB P w K mg base CX C m k ps sp) (h7:t σ H1 fun vs H2=>sp ((.ref a::vs)++[]) H2 Q E):ItMethD P w K mg base CX m j E t σ Q x H1
def tMethD (P:Program) (w:World) (K:PySem.W.Frag) (mg:Str→Option Value) (base:Heap) (CX:CXT) (m:Str) (j:Nat) (E:XK) (ta:TE) (t:TA):TE:=fun σ H Q=>ta σ H fun x H1=>ItMethD P w K mg base CX m j E t σ Q x H1
structure ClsRd (K:PySem.W.Frag) (C:Addr):Prop where
 rd:PySem.W.readsIn K C (.type "type")=true
 sg:PySem.W.specialIn K (.ref C) "__getattribute__"=some (some (.builtin "type.__getattribute__"))
def CfB (P:Program) (w:World) (K:PySem.W.Frag) (mg:Str→Option Value) (base:Heap) (CX:CXT) (C:Addr) (m:Str) (k:Nat) (ps:List Str) (sp:Sp):Prop:=
 ∃ f fd,ClsRd K C∧PySem.W.findCls K (.ref C) (.type "type") m=some (.val (.ref f))∧PySem.W.keepIn K (.ref f)=true∧Binds K fd ps []∧FnOk P w K mg base CX k f fd ps sp
section
variable {X:Cx} {CX:CXT} {k j:Nat} {C:Addr} {ps:List Str} {sp:Sp} {E:XK} {x m:Str} {p pos apos:Pos} {e o:Expr} {es:List Expr} {ta:TE} {t:TA}
theorem pe_mtD {pl:Sem Bool} (he:PE X o ta) (hr:Room j X.A) (hx:Passes CX X E) (ha:PA X (e::es) t)
  (hst:starEach (e::es) X.env=(false,eval e X.env)::starEach es X.env:=by rfl) (hpl:(backTo pos (starEach es X.env)).any (·.1)=false:=by rfl)
  (ht:eval (.Call (.Attribute o m apos) (e::es) [] pos) X.env=(do
   let ov ← eval o X.env
   standAt apos.atName
   let (f,first) ← holding [ov] (getMethod ov m pl)
   callWith pos f first (backTo pos (starEach (e::es) X.env)) (backToKw pos (keywordEach [] X.env))):=by rfl):PE X (.Call (.Attribute o m apos) (e::es) [] pos) (tMethD X.prog X.w X.K X.mg X.base CX m j E ta t):=by
 intro pins s σ H Q I h
 refine PySem.W.methodCall_KW (pl:=pl) (thn (he pins s σ H _ I h) fun u s1 ⟨x,H1,I1,rx,a,C,dx,fs,k,ps,sp,ex,ea,l,c,hj,⟨f,fd,hm,hb,F⟩,q⟩=>?_) ht
 subst ex
 obtain rfl:u=Value.ref a:=rx
 refine getmeth_ok I1 ea c hm l ?_
 refine PySem.W.callWith_K (first:=[.ref a]) (h₀:=X.base) I.ok.mod.kin hm.kp (thn (ha pos pins s1 σ H1 _ I1 q) fun us s2 ⟨vs,H2,I2,r,q2⟩=>⟨I2.kIn,?_⟩) hst hpl
 exact run_fn (us:=.ref a::us) (vs:=.ref a::vs) F (hr.mono hj) hb .nil hx I2 (.cons rfl r) q2
theorem pe_mtD0 {pl:Sem Bool} (he:PE X o ta) (hr:Room j X.A) (hx:Passes CX X E)
  (ht:eval (.Call (.Attribute o m apos) [] [] pos) X.env=(do
   let ov ← eval o X.env
   standAt apos.atName
   let (f,first) ← holding [ov] (getMethod ov m pl)
   callWith pos f first (backTo pos (starEach [] X.env)) (backToKw pos (keywordEach [] X.env))):=by rfl):PE X (.Call (.Attribute o m apos) [] [] pos) (tMethD X.prog X.w X.K X.mg X.base CX m j E ta tNil):=by
 intro pins s σ H Q I h
 refine PySem.W.methodCall_KW (pl:=pl) (thn (he pins s σ H _ I h) fun u s1 ⟨x,H1,I1,rx,a,C,dx,fs,k,ps,sp,ex,ea,l,c,hj,⟨f,fd,hm,hb,F⟩,q⟩=>?_) ht
 subst ex
 obtain rfl:u=Value.ref a:=rx
 refine getmeth_ok I1 ea c hm l ?_
 exact PySem.W.callWith_K0 (first:=[.ref a]) I1.kIn hm.kp (run_fn (us:=[.ref a]) (vs:=[.ref a]) F (hr.mono hj) hb .nil hx I1 (.cons rfl .nil) q)
theorem pe_cf {np:Pos} {pl:Sem Bool} (F:CfB X.prog X.w X.K X.mg X.base CX C m k ps sp) (hr:Room j X.A) (hm:X.mg x=some (.ref C)) (hx:Passes CX X E) (ha:PA X (e::es) t) (hj:k≤j:=by decide) (hg:Gl X x:=by rfl) (hdb:(x == ("__debug__":Str))=false:=by decide)
  (hst:starEach (e::es) X.env=(false,eval e X.env)::starEach es X.env:=by rfl) (hpl:(backTo pos (starEach es X.env)).any (·.1)=false:=by rfl)
  (ht:eval (.Call (.Attribute (.Name x np) m apos) (e::es) [] pos) X.env=(do
   let ov ← eval (.Name x np) X.env
   standAt apos.atName
   let (f,first) ← holding [ov] (getMethod ov m pl)
   callWith pos f first (backTo pos (starEach (e::es) X.env)) (backToKw pos (keywordEach [] X.env))):=by rfl):PE X (.Call (.Attribute (.Name x np) m apos) (e::es) [] pos) (tCall sp [] E t):=by
 intro pins s σ H Q I h
 obtain ⟨f,fd,c,hf,hk,hb,F⟩:=F
 refine PySem.W.methodCall_KW (pl:=pl) (ld_glob I hg hm ?_ hdb) ht
 refine PySem.W.method_cls I.kIn c.sg (PySem.W.cls_value I.kIn c.rd hf rfl ?_)
 have I1:=I.tok (s.toks+1)
 refine PySem.W.callWith_K (first:=[]) (h₀:=X.base) I.ok.mod.kin hk (thn (ha pos pins _ σ H _ I1 h) fun us s2 ⟨vs,H2,I2,r,q2⟩=>⟨I2.kIn,?_⟩) hst hpl
 exact run_fn (us:=us) (vs:=vs) F (hr.mono hj) hb .nil hx I2 r q2
def rRepS:R2:=fun x y H Q=>∃ z n,x=.str z∧y=.int n∧z.length=1∧n.natAbs<1000∧Q (.str (Txt.mul z n)) H
theorem op_rep_str:OpR X (binaryOp .Mult) rRepS:=by
 intro pins s σ H x y v u Q I rx ry h
 obtain ⟨z,n,rfl,rfl,hz,hn,q⟩:=h
 obtain ⟨t,rfl⟩:=rx
 obtain ⟨t',rfl⟩:=ry
 refine SB.mul ⟨?_,fun h1 _=>?_,fun h1 _=>?_⟩ fun t' tk=>⟨.str _,H,I.tok _,⟨_,rfl⟩,q⟩
 ·simp;omega
 ·rw [hz]
  have:(1:Int)≤(2 ^ 63-1) / n:=Int.le_ediv_of_mul_le (by omega) (by omega)
  omega
 ·rw [hz]
  unfold Builtin.Str.tooLong
  simp only [PySem.sizeLine_eq,gt_iff_lt,decide_eq_false_iff_not]
  omega
end
section
variable {P:Program} {w:World} {K:PySem.W.Frag} {mg:Str→Option Value} {base:Heap} {x qual:Str} {C:Addr} {st:Stmt} {N ps:List Str} {k:Nat} {sp:Sp}
def CDe (K:PySem.W.Frag) (C:Addr) (qual:Str) (st:Stmt) (ps:List Str):Prop:=∃ f fd,FunG K "__init__" qual st f fd∧ClsRd K C∧PySem.W.findCls K (.ref C) (.type "type") "__init__"=some (.val (.ref f))∧PySem.W.keepIn K (.ref f)=true∧Binds K fd ps []
theorem CDe.ok (F:CDe K C qual st ps) (S:FnScope N ps (defScope st)) (len:∀ vs H Q E,sp vs H Q E→vs.length=ps.length)
  (hbody:∀ (f:Addr) (cdv:Value) (A:Around) (outer:List Env) (s:Shared) (H:Hp) (vs:List V) (Q:VK) (E:XK),Room k (A.deeper (envOfC qual (defScope st) s.heap.objs.size f cdv))→sp vs H Q E→
   ∃ t,PSs (cxOf CX0 P w K mg base N qual (defScope st) f cdv A outer s H E).nox (defBody st) t∧t { nx:=fun _ H'=>Q .non H',rt:=Q } (start N vs) H):CfB P w K mg base CX0 C "__init__" (k+1) ps sp:=
 let ⟨f,fd,a,b,c,d,e⟩:=F
 ⟨f,fd,b,c,d,e,a.ok S len (hbody f)⟩
end
end L2
namespace L2
open PySem PySem.Spec PyProof.Rows
section
variable {prog:Program} {w:World} {A:Around} {E:Value→Shared→Prop} {s:Shared}
end
section
variable {X:Cx} {pos:Pos}
def gLst (K:PySem.W.Frag) (n:Nat) (t:TGs):TG:=fun v σ H Q=>∃ a xs,v=.ref a∧SqL K H a xs∧xs.length=n∧t xs σ H Q
end
end L2
namespace L2
open PySem PySem.Spec PyProof.Rows
def BodyOk (P:Program) (w:World) (K:PySem.W.Frag) (mg:Str→Option Value) (base:Heap) (qual:Str) (st:Stmt) (N:List Str) (k:Nat) (sp:Sp):Prop:=
 ∀ (f:Addr) (cdv:Value) (A:Around) (outer:List Env) (s:Shared) (H:Hp) (vs:List V) (Q:VK) (E:XK),Room k (A.deeper (envOfC qual (defScope st) s.heap.objs.size f cdv))→sp vs H Q E→
  ∃ t,PSs (cxOf CX0 P w K mg base N qual (defScope st) f cdv A outer s H E).nox (defBody st) t∧t { nx:=fun _ H'=>Q .non H',rt:=Q } (start N vs) H
def BodyX (P:Program) (w:World) (K:PySem.W.Frag) (mg:Str→Option Value) (base:Heap) (qual:Str) (st:Stmt) (N:List Str) (k:Nat) (sp:Sp):Prop:=
 ∀ (f:Addr) (cdv:Value) (A:Around) (outer:List Env) (s:Shared) (H:Hp) (vs:List V) (Q:VK) (E:XK),Room k (A.deeper (envOfC qual (defScope st) s.heap.objs.size f cdv))→sp vs H Q E→
  ∃ t,PSs (cxOf (CX1 P w) P w K mg base N qual (defScope st) f cdv A outer s H E) (defBody st) t∧t { nx:=fun _ H'=>Q .non H',rt:=Q } (start N vs) H
end L2
namespace L2
open PySem PySem.Spec PyProof.Rows
section
variable {prog:Program} {w:World} {A:Around} {E:Value→Shared→Prop} {h:Heap} {g:Array GenState} {d:Drawn} {t:Nat} {os:OsState}
variable {nm q:Str} {C N:Addr} {bs bm bmB:List Value} {hdct:Bool} {sn:List Str} {sub:List Value} {ab:Bool} {col:Option Bool} {dd:Option Addr} {k0 k1 k2 k3 k5:Option Value} {B newId initId:String}
theorem type_call_initT (F:ExcBaseFacts B newId initId bmB) (T:OwnTail h bmB bm) {mN:Str→Option Value} {rest:List Value} {fI:Addr} {oI:Obj} {Q:Fin→Shared→Prop}
  (hC:h.get? C=some (excClassObj nm q C N bs bm hdct sn sub ab col dd k0 k1 k2 k3 k5 newId)) (hn:h.Ns N mN) (hi:mN "__init__"=some (.ref fI))
  (hfI:h.get? fI=some oI) (hfc:oI.cls=.type "function")
  (hq:∀ h' e,Heap.MadeExcOf h h' e (.ref C) rest→
   wpAny (model prog w) A (call (.ref fI) (.ref e::rest)) (fun r s'=>r=.none∧Q (.done (.ret (.ref e))) s') E ⟨h',g,d,t,os⟩) (hrest:rest.length≤sizeLine:=by size_fits) :
  wpAny (model prog w) A (Builtin.«type.__call__» ⟨.ref C::rest,[]⟩) Q E ⟨h,g,d,t,os⟩:=by
 repeat (first | with_reducible refine wpAny_loadPart_at hC ?_ | with_reducible refine wpAny_madeBy_exc hC ?_ | wp_step)
 refine codeAny_call_builtin_code (Code.quiet_builtin _ F.quiet) (wpAny_check_new_subT F T hC ?_)
 refine codeAny_exc_new_subT F T hC ?_ hrest
 show wpAny _ _ _ _ _ _
 have hC₁:=Heap.get?_push_of_some { cls:=.ref C,data:=.fields #[.ref h.objs.size,.none,.none,.none,.bool false,.none] }
  (Heap.get?_push_of_some { cls:=.type "tuple",data:=.seq rest.toArray } hC)
 have hfI₁:=Heap.get?_push_of_some { cls:=.ref C,data:=.fields #[.ref h.objs.size,.none,.none,.none,.bool false,.none] }
  (Heap.get?_push_of_some { cls:=.type "tuple",data:=.seq rest.toArray } hfI)
 have hn₁:((h.push { cls:=.type "tuple",data:=.seq rest.toArray }).push { cls:=.ref C,data:=.fields #[.ref h.objs.size,.none,.none,.none,.bool false,.none] }).Ns N mN:=
  let ⟨o,es,ep,e,r⟩:=hn;⟨o,es,ep,Heap.get?_push_of_some _ (Heap.get?_push_of_some _ e),r⟩
 have hget:((h.push { cls:=.type "tuple",data:=.seq rest.toArray }).push
   { cls:=.ref C,data:=.fields #[.ref h.objs.size,.none,.none,.none,.bool false,.none] }).get? (h.objs.size+1)=some
   { cls:=.ref C,data:=.fields #[.ref h.objs.size,.none,.none,.none,.bool false,.none] }:=by heap_get
 have hcC:(Value.ref C::bm).contains (.ref C)=true:=by simp
 have T₁:=T.keeps (h':=(h.push { cls:=.type "tuple",data:=.seq rest.toArray }).push { cls:=.ref C,data:=.fields #[.ref h.objs.size,.none,.none,.none,.bool false,.none] })
  fun b o e=>Heap.get?_push_of_some _ (Heap.get?_push_of_some _ e)
 unfold isInstance
 repeat (first | with_reducible refine wpAny_loadPart_at hget ?_ | (with_reducible refine wpAny_isSubtype_exc hC₁ ?_;rw [hcC]) | wp_step)
 show wpAny _ _ (typeLookup (.ref C) _) _ _ _
 refine wpAny_typeLookup_tail hC₁ hn₁ T₁ F.mroIs F.init.lookup ?_
 rw [hi]
 refine wpAny_holding (wpAny_bind ?_)
 unfold bindSpecial
 refine wpAny_bind (wpAny_typeOf (T:="function") ⟨_,hfI₁,hfc⟩ ?_)
 rw [if_pos (by decide)]
 refine wpAny_pure (wpAny_bind (wpAny_mono (hq _ (h.objs.size+1) ⟨fun b o hb=>Heap.get?_push_of_some _ (Heap.get?_push_of_some _ hb),Heap.get?_none_of_le (Nat.le_succ _),h.objs.size,hget,Heap.get?_none_of_le (Nat.le_refl _),?_⟩) (fun r s' hr=>?_) fun _ _ x=>x))
 ·exact Heap.get?_push_of_some _ (Heap.get?_push_at rfl rfl)
 ·obtain ⟨rfl,hQ⟩:=hr
  wp_walk
  exact hQ
theorem call_initT (F:ExcBaseFacts B newId initId bmB) (T:OwnTail h bmB bm) {mN:Str→Option Value} {rest:List Value} {fI:Addr} {oI:Obj} {Q:Value→Shared→Prop}
  (hC:h.get? C=some (excClassObj nm q C N bs bm hdct sn sub ab col dd k0 k1 k2 k3 k5 newId)) (hn:h.Ns N mN) (hi:mN "__init__"=some (.ref fI))
  (hfI:h.get? fI=some oI) (hfc:oI.cls=.type "function")
  (hq:∀ h' e,Heap.MadeExcOf h h' e (.ref C) rest→
   wpAny (model prog w) (A.under (.builtin "type.__call__" ⟨.ref C::rest,[]⟩)) (call (.ref fI) (.ref e::rest)) (fun r s'=>r=.none∧Q (.ref e) s') E ⟨h',g,d,t,os⟩) (hrest:rest.length≤sizeLine:=by size_fits) :
  wpAny (model prog w) A (call (.ref C) rest) Q E ⟨h,g,d,t,os⟩:=by
 have f1:=tc_lookup
 have f2:=tc_bind (.ref C)
 have hT:(⟨h,g,d,t,os⟩:Shared).TypeIs (.ref C) "type":=⟨_,hC,rfl⟩
 refine wpAny_call (codeAny_of_tree ?_)
 show wpAny _ _ (callAny (.ref C) _) _ _ _
 repeat (any_goals (first | assumption | with_reducible refine wpAny_loadPart_at hC ?_ | wp_step))
 refine ⟨rfl,?_⟩
 refine codeAny_call_builtin_at (Code.quiet_builtin _ (by decide +kernel)) entry_typeCall (wpAny_check_type_call_sub hC (type_call_initT (hrest:=hrest) F T hC hn hi hfI hfc fun h' e hm=>?_))
 exact hq h' e hm
end
end L2
namespace L2
open PySem PySem.Spec PyProof.Rows
open Builtin Builtin.ObjectAttr
section
theorem refuse_bmV (self:Value):refuseLoop self "__setattr__" bmV=pure ():=by kernel_rfl
structure ExI (K:PySem.W.Frag) (C:Addr):Prop where
 cl:∃ (cd:ClassData) (tl:List Addr),PySem.W.clsIn K C=some cd∧cd.mro=tl.map Value.ref++bmV∧cd.hasDict=true
 sa:PySem.W.findIn K (.ref C) "__setattr__"=some (some (.builtin "object.__setattr__"))
theorem refuse_tail (self:Value):∀ tl:List Addr,refuseLoop self "__setattr__" (tl.map Value.ref++bmV)=pure ()
 | []=>refuse_bmV self
 | a::tl=>by
  rw [List.map_cons,List.cons_append,refuseLoop_ref]
  exact refuse_tail self tl
variable {prog:Program} {w:World} {A:Around} {E:Value→Shared→Prop} {s:Shared} {K:PySem.W.Frag} {x C:Addr} {o:Obj} {od:Option Obj} {name:Str} {v:Value}
theorem exc_open {tk:Tok} {R:Result→Shared→Prop} (X:K.In s.heap) (I:PySem.W.InstAt s.heap x o C od) (F:ExI K C) (n:NoAttr K C name)
  (h:∀ b,wpAny (model prog w) A.in1 (storeInOwnDict (.ref x) (.ref C) (.str name tk) name v b)
   (fun fin s'=>match fin with | .done f=>R (.ok f) s' | .again c'=>c'.quiet=true∧codeAny (model prog w) A c' R s') (fun e s'=>R (.error e) s') s) :
  codeAny (model prog w) A (.call (.builtin "object.__setattr__") ⟨[.ref x,.str name tk,v],[]⟩) R s:=by
 have SF:=PySem.F.store_object
 obtain ⟨cd,tl,hc,hm,hd⟩:=F.cl
 have has:cd.mro.contains (.type "object")=true:=by rw [hm];simp
 have ne:cd.mro.isEmpty=false:=by rw [hm];simp
 have sub:PySem.W.Looks (model prog w) s.heap (isInstance (.ref x) (.type "object")) true:=I.type.andThen (PySem.W.looks_mroIn X (by unfold PySem.W.mroIn;rw [hc,Option.bind_some,if_neg (by rw [ne];decide),has]))
 refine codeAny_call_builtin SF.slot.plain SF.entry (@PySem.W.check_slot (model prog w) _ _ s "object.__setattr__" "object" "__setattr__" (.ref x) [.str name tk,v] [] _ SF.kind SF.split sub (SF.args (.ref x) (.str name tk) v) ?_)
 obtain ⟨attr,ha,hr⟩:=Option.bind_eq_some_iff.mp n.taker
 have hmr:PySem.W.Looks (model prog w) s.heap (mroOf (.ref C)) cd.mro:=(PySem.W.looks_clsIn X hc).andThen .now
 have L3:PySem.W.Looks (model prog w) s.heap (storeTaker? attr) none:=by
  cases attr with
  | none=>cases hr;exact .now
  | some a=>
   obtain ⟨b,hb,hr⟩:=Option.map_eq_some_iff.mp hr
   refine (PySem.W.looks_takesIn X hb).andThen ?_
   cases b with
   | true=>cases hr
   | false=>exact .now
 rw [PySem.W.osa_eq,refuse_eq]
 refine wpAny_bind (wpAny_bind (I.type.here (wpAny_bind (hmr.here ?_))))
 rw [hm,refuse_tail]
 refine wpAny_pure (wpAny_bind (I.type.here (wpAny_bind ((PySem.W.looks_findIn X ha).here (wpAny_bind (L3.here ?_))))))
 exact h _
theorem exc_set0 {Q:Unit→Shared→Prop} (X:K.In s.heap) (F:ExI K C) (n:NoAttr K C name) (hx:s.heap.get? x=some o) (hc:o.cls=.ref C) (hnc:∀ c,o.data≠.cls c) (hdn:o.dict=none)
  (hq:∀ h' tk',h'.get? x=some { cls:=o.cls,dict:=some s.heap.objs.size,data:=o.data,slots:=o.slots }→h'.Ns1 s.heap.objs.size (fun y=>if y=name then some v else none)→
   (∀ b ob,b≠x→s.heap.get? b=some ob→h'.get? b=some ob)→Q () { s with heap:=h',toks:=tk' }) :
  wpAny (model prog w) A (setAttr (.ref x) name v) Q E s:=by
 have hno:PySem.W.notCls o=true:=by
  unfold PySem.W.notCls
  split
  ·rename_i c e
   exact absurd e (hnc c)
  ·rfl
 have I:PySem.W.InstAt s.heap x o C none:=⟨hx,hc,hno,by rw [hdn];trivial⟩
 refine PySem.W.set_plain X I F.sa (exc_open (s:={ s with toks:=s.toks+1 }) X I F n fun b=>?_)
 obtain ⟨cd,tl,hcl,hm,hd⟩:=F.cl
 obtain ⟨h,g,d,t,os⟩:=s
 dsimp only at hx X hq
 have hx₁:(h.push { cls:=.type "dict",data:=.dict #[] }).get? x=some o:=Heap.get?_push_of_some _ hx
 have hxs:x≠h.objs.size:=Nat.ne_of_lt (Heap.lt_size hx)
 unfold storeInOwnDict ownDictForStores instanceDict
 refine wpAny_bind (wpAny_pure (wpAny_bind (wpAny_bind (wpAny_loadPart hx ?_))))
 rw [hc]
 refine wpAny_bind ((PySem.W.looks_clsIn X hcl).at ?_)
 rw [hd,hdn]
 simp only [Bool.not_true,Bool.false_eq_true,if_false]
 have hth:typeHasDict (.ref C)=true:=by simp [typeHasDict]
 rw [hth]
 simp only [Bool.not_true,Bool.or_self,Bool.false_eq_true,if_false]
 refine wpAny_bind (wpAny_alloc' (wpAny_bind (wpAny_update' hx₁ (wpAny_pure ?_))))
 have hgd:((h.push { cls:=.type "dict",data:=.dict #[] }).update x fun o=>{ cls:=o.cls,dict:=some h.objs.size,data:=o.data,slots:=o.slots }).get? h.objs.size
   = some { cls:=.type "dict",data:=.dict #[] }:=
  (Heap.get?_update_ne _ _ _ _ hxs.symm).trans (Heap.get?_push_at rfl rfl)
 have hnd:((h.push { cls:=.type "dict",data:=.dict #[] }).update x fun o=>{ cls:=o.cls,dict:=some h.objs.size,data:=o.data,slots:=o.slots }).Ns h.objs.size (fun _=>none):=
  ⟨_,#[],_,hgd,rfl,fun e he=>absurd he (by simp),fun _=>rfl⟩
 show wpAny _ _ (storeInDict h.objs.size (.str name t) name v) _ _ _
 unfold storeInDict newKeyGuard
 refine wpAny_bind (wpAny_pure (wpAny_bind (wpAny_nsSet1 (Heap.Ns1.of_empty hnd) fun h' hn' hs=>?_)))
 obtain ⟨oD,esD,epD,hoD,hdD,hcD⟩:=hn'.count (Within.cons name v Within.nil)
 refine wpAny_bind (wpAny_lookBehind hoD (by rw [hdD];exact pastItsLine_dict (Nat.le_trans hcD (by rw [List.length_cons,List.length_nil,sizeLine_eq];omega))) ?_)
 refine wpAny_pure (hq h' _ ?_ hn' (fun b ob hbx hb=>?_))
 ·refine (hs.2 x hxs).trans (Heap.get?_update_self _ hx₁ ?_)
  have hfr:=(Heap.get?_some_iff.mp hx).2
  obtain ⟨oc,od,odt,osl⟩:=o
  cases odt <;> first | rfl | exact hfr
 ·exact (hs.2 b (Nat.ne_of_lt (Heap.lt_size hb))).trans ((Heap.get?_update_ne _ _ _ _ hbx).trans (Heap.get?_push_of_some _ hb))
theorem exc_base_init {nm q:Str} {N:Addr} {bs bm bmB:List Value} {hdct:Bool} {sn:List Str} {sub:List Value} {ab:Bool} {col:Option Bool} {dd de:Option Addr} {k0 k1 k2 k3 k5:Option Value} {B newId initId:String} {e t0:Addr} {rest:List Value} {Q:Value→Shared→Prop}
  (F:ExcBaseFacts B newId initId bmB) (T:OwnTail s.heap bmB bm) (hC:s.heap.get? C=some (excClassObj nm q C N bs bm hdct sn sub ab col dd k0 k1 k2 k3 k5 newId)) (he:s.heap.get? e=some ⟨.ref C,de,.fields #[.ref t0,.none,.none,.none,.bool false,.none],#[]⟩)
  (hq:∀ h' t1,h'.get? e=some ⟨.ref C,de,.fields #[.ref t1,.none,.none,.none,.bool false,.none],#[]⟩→(∀ b ob,b≠e→s.heap.get? b=some ob→h'.get? b=some ob)→Q .none { s with heap:=h' }) (hrest:rest.length≤sizeLine) :
  wpAny (model prog w) A (call (.builtin initId) (.ref e::rest)) Q E s:=by
 obtain ⟨h,g,d,t,os⟩:=s
 dsimp only at hC he hq T
 refine wpAny_call (codeAny_call_builtin F.init.plain F.initEntry (wpAny_check_init_subT F T hC he rfl ?_))
 wp_walk
 refine hq _ h.objs.size ?_ fun b ob hb e=>?_
 ·rw [Heap.get?_update_self _ (Heap.get?_push_of_some _ he) rfl]
  rfl
 ·rw [Heap.get?_update_other _ _ (Ne.symm hb)]
  exact Heap.get?_push_of_some _ e
theorem raise_made {M:Model} {env:Env} {nm q:Str} {N:Addr} {bs bm:List Value} {hdct:Bool} {sn:List Str} {sub:List Value} {ab:Bool} {col:Option Bool} {dd:Option Addr} {k0 k1 k2 k3 k5:Option Value} {newId:String} {y:Sem Value} {Q:Flow→Shared→Prop} (hbase:bm.contains (.type "BaseException")=true) (hh:A.handled=none)
  (h:wpAny M A y (fun v s₁=>∃ e t de,v=.ref e∧s₁.heap.get? C=some (excClassObj nm q C N bs bm hdct sn sub ab col dd k0 k1 k2 k3 k5 newId)∧
   s₁.heap.get? e=some ⟨.ref C,de,.fields #[.ref t,.none,.none,.none,.bool false,.none],#[]⟩∧E (.ref e) s₁) E s) :
  wpAny M A (raiseStmt env (some y) none) Q E s:=by
 have hcB:(Value.ref C::bm).contains (.type "BaseException")=true:=by rw [List.contains_cons,hbase,Bool.or_true]
 unfold raiseStmt
 refine wpAny_bind (wpAny_mono h (fun v s₁ h₁=>?_) fun _ _ x=>x)
 obtain ⟨e,t,de,rfl,hC,he,hE⟩:=h₁
 obtain ⟨hp,g,d,tk,os⟩:=s₁
 repeat (first | with_reducible refine wpAny_loadPart_at he ?_ | with_reducible refine wpAny_loadPart_at hC ?_ | (with_reducible refine wpAny_isSubtype_exc hC ?_;rw [hcB]) | wp_step)
 exact wpAny_raiseNew_none hh hE
def excFI (K:PySem.W.Frag) (C:Addr) (bmB:List Value) (newId:String):Option Addr:=match K.lookup C with
 | some ⟨.type "type",_,.cls cd,sl⟩=>(match cd.mro,sl.toList with
  | .ref C'::bm,[_,_,_,_,some (.builtin n),_]=>if (C' == C && n == newId && !cd.hasDel && PySem.W.tailIn K bmB bm && PySem.W.nsOkIn K cd.ns)=true then (match PySem.W.nsIn K cd.ns "__init__" with | some (some (.ref f))=>some f | _=>none) else none
  | _,_=>none)
 | _=>none
theorem ns_of {h:Heap} {N:Addr} {mg:Str→Option Value} {n:Str} {v:Value} (X:K.In h) (G:h.Ns N mg) (e:PySem.W.nsIn K N n=some (some v)):mg n=some v:=by
 obtain ⟨o,es,ep,ho,hd,_,hf⟩:=G
 unfold PySem.W.nsIn at e
 split at e
 ·rename_i c d es' n' sl q
  have:=X _ _ q
  rw [ho] at this
  cases this
  cases hd
  split at e
  ·rename_i en he
   cases e
   rw [← hf]
   unfold nsFind findBy
   rw [← Array.find?_toList,he]
   rfl
  ·split at e <;> cases e
 ·cases e
theorem exc_objI {h:Heap} {bmB:List Value} {newId:String} {f:Addr} (X:K.In h) (q:excFI K C bmB newId=some f) :
  ∃ bm N nm qn bs hd sn sub ab col dd k0 k1 k2 k3 k5 mN,h.get? C=some (excClassObj nm qn C N bs bm hd sn sub ab col dd k0 k1 k2 k3 k5 newId)∧h.Ns N mN∧mN "__init__"=some (.ref f)∧OwnTail h bmB bm:=by
 unfold excFI at q
 split at q
 case h_2=>cases q
 case h_1 dd cd sl lk=>
  split at q
  case h_2=>cases q
  case h_1 C' bm k0 k1 k2 k3 n k5 hm hs=>
   split at q
   case isFalse=>cases q
   case isTrue hq=>
    simp only [Bool.and_eq_true,beq_iff_eq,Bool.not_eq_true'] at hq
    obtain ⟨⟨⟨⟨e1,e2⟩,hdel⟩,ht⟩,hok⟩:=hq
    subst e1 e2
    split at q
    case h_2=>cases q
    case h_1 f' hi=>
     cases q
     obtain ⟨nm,bs,mro,ns,qn,hd,sn,sub,ab,col,del⟩:=cd
     dsimp only at hm hdel hok hi
     subst hm hdel
     obtain ⟨l⟩:=sl
     have hs:l=_:=hs
     subst hs
     exact ⟨bm,ns,nm,qn,bs,hd,sn,sub,ab,col,dd,k0,k1,k2,k3,k5,_,X _ _ lk,.of_isNs (PySem.W.isNs_of_in X hok),ns_of X (.of_isNs (PySem.W.isNs_of_in X hok)) hi,PySem.W.tail_of_in X ht⟩
end
end L2
namespace L2
open PySem PySem.Spec PyProof.Rows
section
variable {prog:Program} {w:World} {A:Around} {E:Value→Shared→Prop} {s:Shared} {env:Env}
variable {nm q:Str} {C N:Addr} {bs bm bmB:List Value} {hdct:Bool} {sn:List Str} {sub:List Value} {ab:Bool} {col:Option Bool} {dd:Option Addr} {k0 k1 k2 k3 k5:Option Value} {B newId initId:String}
theorem Raise_call_initT (F:ExcBaseFacts B newId initId bmB) {mN:Str→Option Value} {fI:Addr} {oI:Obj} {x:Str} {np cpos pos:Pos} {args:List Expr} {Q:Flow→Shared→Prop}
  (hbase:bm.contains (.type "BaseException")=true) (hh:A.handled=none) (hplain:(backTo cpos (starEach args env)).any (·.1)=false) (hi:mN "__init__"=some (.ref fI)) (hfc:oI.cls=.type "function")
  (h:wpAny (model prog w) A (eval (.Name x np) env) (fun f s₁=>f=.ref C∧wpAny (model prog w) A (evalArgs (.ref C) true (backTo cpos (starEach args env)) [])
   (fun a s₂=>a.kw=[]∧a.pos.length≤sizeLine∧s₂.heap.get? C=some (excClassObj nm q C N bs bm hdct sn sub ab col dd k0 k1 k2 k3 k5 newId)∧s₂.heap.Ns N mN∧OwnTail s₂.heap bmB bm∧s₂.heap.get? fI=some oI∧
    ∀ h' e,Heap.MadeExcOf s₂.heap h' e (.ref C) a.pos→wpAny (model prog w) (A.under (.builtin "type.__call__" ⟨.ref C::a.pos,[]⟩)) (call (.ref fI) (.ref e::a.pos))
     (fun r s'=>r=.none∧(∃ t de,s'.heap.get? C=some (excClassObj nm q C N bs bm hdct sn sub ab col dd k0 k1 k2 k3 k5 newId)∧s'.heap.get? e=some ⟨.ref C,de,.fields #[.ref t,.none,.none,.none,.bool false,.none],#[]⟩)∧E (.ref e) s') E { s₂ with heap:=h' }) E s₁) E s) :
  wpAny (model prog w) A (exec (.Raise (some (.Call (.Name x np) args [] cpos)) none pos) env) Q E s:=by
 rw [arm_exec_Raise]
 first
  | refine wpAny_bind (wpAny_standAt (raise_made (C:=C) (nm:=nm) (q:=q) (N:=N) (bs:=bs) (bm:=bm) (hdct:=hdct) (sn:=sn) (sub:=sub) (ab:=ab) (col:=col) (dd:=dd) (k0:=k0) (k1:=k1) (k2:=k2) (k3:=k3) (k5:=k5) (newId:=newId) hbase hh (wpAny_bind (wpAny_mono (wpAny_Call_ofName (wpAny_mono h (fun f s₁ h₁=>?_) fun _ _ x=>x)) (fun v s₃ h₃=>wpAny_bind (wpAny_standAt (wpAny_pure h₃))) fun _ _ x=>x))))
  | (simp only [evalOpt,Option.map];refine wpAny_bind (wpAny_standAt (raise_made (C:=C) (nm:=nm) (q:=q) (N:=N) (bs:=bs) (bm:=bm) (hdct:=hdct) (sn:=sn) (sub:=sub) (ab:=ab) (col:=col) (dd:=dd) (k0:=k0) (k1:=k1) (k2:=k2) (k3:=k3) (k5:=k5) (newId:=newId) hbase hh (wpAny_bind (wpAny_mono (wpAny_Call_ofName (wpAny_mono h (fun f s₁ h₁=>?_) fun _ _ x=>x)) (fun v s₃ h₃=>wpAny_bind (wpAny_standAt (wpAny_pure h₃))) fun _ _ x=>x)))))
  | (refine wpAny_bind (wpAny_standAt (raise_made (C:=C) (nm:=nm) (q:=q) (N:=N) (bs:=bs) (bm:=bm) (hdct:=hdct) (sn:=sn) (sub:=sub) (ab:=ab) (col:=col) (dd:=dd) (k0:=k0) (k1:=k1) (k2:=k2) (k3:=k3) (k5:=k5) (newId:=newId) hbase hh ?_));refine wpAny_bind (wpAny_mono (wpAny_Call_ofName (wpAny_mono h (fun f s₁ h₁=>?_) fun _ _ x=>x)) (fun v s₃ h₃=>wpAny_bind (wpAny_standAt (wpAny_pure h₃))) fun _ _ x=>x))
 obtain ⟨rfl,h₁⟩:=h₁
 unfold callWith
 refine wpAny_bind (wpAny_holding (wpAny_mono h₁ (fun a s₂ h₂=>wpAny_bind (wpAny_standAt ?_)) fun _ _ x=>x))
 obtain ⟨apos,akw⟩:=a
 obtain ⟨hkw,hlen,hC,hn,T,hf,h₂⟩:=h₂
 obtain rfl:akw=[]:=hkw
 obtain ⟨hp,g,d,tk,os⟩:=s₂
 simp only [hplain]
 refine wpAny_bind (wpAny_keeperOf_exc hC ?_)
 refine wpAny_bind (call_initT (hrest:=hlen) F T hC hn hi hf hfc fun h' e hm=>wpAny_mono (h₂ h' e hm) (fun r s' z=>?_) fun _ _ z=>z)
 obtain ⟨rfl,⟨t,de,g1,g2⟩,z⟩:=z
 exact ⟨rfl,wpAny_bind (wpAny_holding (wpAny_point (wpAny_pure ⟨e,t,de,rfl,g1,g2,z⟩)))⟩
end
def XI (e C:Addr) (d:Option Addr):HO:=.ext fun h=>∃ t,h.get? e=some ⟨.ref C,d,.fields #[.ref t,.none,.none,.none,.bool false,.none],#[]⟩
def del (H:Hp) (e:Addr):Hp:=fun b=>if b=e then none else H b
section
variable {X:Cx} {pins:List (Addr × Obj)} {σ:St} {H:Hp} {s:Shared} {x:Addr}
theorem XI.ok {P:Program} {w:World} {h:Heap} {C t:Addr} {d:Option Addr} (e:h.get? x=some ⟨.ref C,d,.fields #[.ref t,.none,.none,.none,.bool false,.none],#[]⟩):ObjOk P w H h x (XI x C d):=
 ⟨⟨t,e⟩,⟨_,e⟩,fun _ _ ⟨t',e'⟩ k=>⟨t',k _ e'⟩⟩
theorem Inv.forget {φ:Heap→Prop} (I:Inv X pins σ H s) (hx:H x=some (.ext φ)):Inv X pins σ (del H x) s:=by
 have nn:∀ b,H b=none→del H x b=none:=fun b e=>by unfold del;split;rfl;exact e
 have st:∀ b u,H b=some u→(∀ φ,u≠.ext φ)→del H x b=some u:=fun b u e ne=>by
  unfold del
  rw [if_neg]
  ·exact e
  ·rintro rfl
   rw [hx] at e
   cases e
   exact ne _ rfl
 refine ⟨I.ok,I.os,I.bare,⟨I.base.keep,I.base.slot,fun b u e n hx=>nn b (I.base.free b u e n hx),I.base.there,fun b xs e=>st b _ (I.base.tups b xs e) (by nofun),fun b u v e=>st b _ (I.base.frzs b u v e) (by nofun),fun b ps e=>?_⟩,
  I.loc,I.cell,nn _ I.free,fun y c e=>nn _ (I.freeC y c e),fun p hp=>?_,fun b u e=>?_,I.len⟩
 ·obtain ⟨more,q⟩:=I.base.tbls b ps e
  exact ⟨more,st b _ q (by nofun)⟩
 ·obtain ⟨e,n,r⟩:=I.pin p hp
  exact ⟨e,nn _ n,r⟩
 ·have e':H b=some u:=by
   unfold del at e
   split at e
   ·cases e
   ·exact e
  exact (I.hok b u e').stay (fun _ _ _ q=>q) (fun c q=>st c _ q (by nofun)) fun c xs q=>st c _ q (by nofun)
end
end L2
namespace L2
open PySem PySem.Spec PyProof.Rows
def XiB (P:Program) (w:World) (K:PySem.W.Frag) (mg:Str→Option Value) (base:Heap) (C:Addr) (k:Nat) (ps:List Str) (sp:Sp):Prop:=
 ∃ f fd,excFI K C bmV "ValueError.__new__"=some f∧PySem.W.typeIn K (.ref f)=some (.type "function")∧Binds K fd ps []∧FnOk P w K mg base CX0 k f fd ps sp
section
variable {X:Cx} {E:XK}
def tRaiseI (C:Addr) (sp:Sp) (E:XK) (t:TA):TS:=fun _ σ H=>t σ H fun vs H1=>vs.length≤sizeLine∧
 ∀ e,H1 e=none→sp ((.ref e::vs)++[]) (upd H1 e (XI e C none)) (fun v H2=>v=.non∧∃ d,H2 e=some (XI e C d)∧E (.ref C) d (del H2 e)) E0
theorem ps_raiseI {C:Addr} {x:Str} {np cpos pos:Pos} {e:Expr} {es:List Expr} {t:TA} {k j:Nat} {ps:List Str} {sp:Sp} (hxe:XOut X E) (hex:X.ex=[]) (hr:Room j X.A) (hg:Gl X x) (hm:X.mg x=some (.ref C))
  (O:XiB X.prog X.w X.K X.mg X.base C k ps sp) (ha:PA X (e::es) t) (hj:k+1≤j:=by decide) (he:starEach (e::es) X.env=(false,eval e X.env)::starEach es X.env:=by rfl) (hpl:(backTo cpos (starEach es X.env)).any (·.1)=false:=by rfl)
  (hd:(x == ("__debug__":Str))=false:=by decide):PS X (.Raise (some (.Call (.Name x np) (e::es) [] cpos)) none pos) (tRaiseI C sp E t):=by
 intro pins s σ H D I h
 obtain ⟨f,fd,hfi,hft,hb,F⟩:=O
 obtain ⟨bm,N,nm,qn,bs,hd',sn,sub,ab,col,dd,k0,k1,k2,k3,k5,mN,hC,hN,hi,T⟩:=exc_objI I.ok.mod.kin hfi
 obtain ⟨oI,hoI,hcI⟩:=Option.map_eq_some_iff.mp hft
 refine Raise_call_initT (C:=C) (nm:=nm) (q:=qn) (N:=N) (bs:=bs) (bm:=bm) (hdct:=hd') (sn:=sn) (sub:=sub) (ab:=ab) (col:=col) (dd:=dd) (k0:=k0) (k1:=k1) (k2:=k2) (k3:=k3) (k5:=k5)
  PySem.F.excBase_ValueError (mN:=mN) (fI:=f) (oI:=oI) (T.hasType rfl) hr.hd (by rw [he];show (false || (backTo cpos (starEach es X.env)).any (·.1))=false;rw [hpl];rfl) hi hcI (ld_glob I hg hm ⟨rfl,?_⟩ hd)
 have ha':=ha cpos pins s σ H _ I h
 rw [he] at ha' ⊢
 refine Calls.evalArgs_plain (thn ha' fun us s1 ⟨vs,H1,I1,r,hl,q⟩=>⟨rfl,by rw [← r.length];exact hl,I1.bk _ _ hC,hN.keeps I1.bk,T.keeps I1.bk,I1.bk _ _ (I.ok.mod.kin _ _ hoI),fun h' y hy=>?_⟩)
 obtain ⟨t',g1,_,_⟩:=hy.there
 have ny:=I1.hok.noObj hy.new
 have J:Inv X pins σ (upd H1 y (XI y C none)) { s1 with heap:=h' }:=(I1.kept (t':=s1.toks) hy.keeps).track ny (I1.off hex hy.new) (XI.ok g1)
 have hq:=q y ny
 have r2:Vals ((V.ref y::vs)++[]) ((Value.ref y::us)++[]):=Vals.append (.cons rfl r) .nil
 have hl2:((Value.ref y::us)++[]).length=ps.length:=by rw [← r2.length];exact F.len _ _ _ _ hq
 refine wpAny_call (codeAny_mono (F.run _ X.stack _ _ ⟨Value.ref y::us,[]⟩ _ _ _ E0 ((hr.mono hj).make C us []) (J.env0.make C us []) (hb _ (Value.ref y::us) J.kIn hl2) r2 hq) fun r s' hq'=>?_)
 cases r with
 | error e=>exact False.elim hq'
 | ok fl=>
  cases fl with
  | ret u=>
   obtain ⟨v,H',I3,rv,ev,d,hx,q3⟩:=J.after hq'
   subst ev
   obtain ⟨⟨t2,g2⟩,_⟩:=(show ObjOk X.prog X.w H' s'.heap y (XI y C d) from I3.hok y _ hx)
   refine ⟨rv,⟨t2,d,I3.bk _ _ hC,g2⟩,?_⟩
   refine hxe pins σ _ _ ⟨y,.ref C,d,del H' y,rfl,I3.forget hx,⟨by unfold del;rw [if_pos rfl],I1.off hex hy.new,_,_,none,g2,rfl,fun T z=>by cases z⟩,q3⟩
  | next=>exact False.elim hq'
  | brk=>exact False.elim hq'
  | cont=>exact False.elim hq'
end
end L2
namespace L2
open PySem PySem.Spec PyProof.Rows
section
variable {X:Cx} {e e1 e2 value:Expr} {es:List Expr} {pos apos np pos':Pos} {t:TA} {ta tv t1 t2:TE} {x f:Str} {G:Addr}
theorem upd_id {H:Hp} {a:Addr} {o:HO} (h:H a=some o):upd H a o=H:=by
 funext b
 by_cases hb:b=a
 ·subst hb
  rw [upd_same,h]
 ·rw [upd_ne hb]
def tBI (K:PySem.W.Frag) (t:TA):TE:=fun σ H Q=>t σ H fun vs H1=>∃ e C d rest f,vs=.ref e::rest∧H1 e=some (XI e C d)∧excFI K C bmV "ValueError.__new__"=some f∧rest.length≤sizeLine∧Q .non H1
theorem pe_binit {pl:Sem Bool} (cr:ClsRd X.K G) (hf:PySem.W.findCls X.K (.ref G) (.type "type") "__init__"=some (.val (.builtin "ValueError.__init__"))) (hm:X.mg x=some (.ref G)) (ha:PA X (e::es) t) (hg:Gl X x:=by rfl) (hdb:(x == ("__debug__":Str))=false:=by decide)
  (hst:starEach (e::es) X.env=(false,eval e X.env)::starEach es X.env:=by rfl) (hpl:(backTo pos (starEach es X.env)).any (·.1)=false:=by rfl)
  (ht:eval (.Call (.Attribute (.Name x np) "__init__" apos) (e::es) [] pos) X.env=(do
   let ov ← eval (.Name x np) X.env
   standAt apos.atName
   let (f,first) ← holding [ov] (getMethod ov "__init__" pl)
   callWith pos f first (backTo pos (starEach (e::es) X.env)) (backToKw pos (keywordEach [] X.env))):=by rfl):PE X (.Call (.Attribute (.Name x np) "__init__" apos) (e::es) [] pos) (tBI X.K t):=by
 intro pins s σ H Q I h
 refine PySem.W.methodCall_KW (pl:=pl) (ld_glob I hg hm ?_ hdb) ht
 refine PySem.W.method_cls I.kIn cr.sg (PySem.W.cls_value I.kIn cr.rd hf (by decide +kernel) ?_)
 have I1:=I.tok (s.toks+1)
 refine PyProof.Rows.callWith_builtin1 (thn (ha pos pins _ σ H _ I1 h) fun us s1 ⟨vs,H1,I2,r1,q1⟩=>?_) hst hpl
 obtain ⟨y,C,d,rest,fi,rfl,hy,hfi,hl,q⟩:=q1
 cases r1 with
 | cons r2 r3=>
  cases r2
  obtain ⟨bm,N,nm,qn,bs,hd',sn,sub,ab,col,dd,k0,k1,k2,k3,k5,mN,hC,hN,hi,T⟩:=exc_objI I2.kIn hfi
  obtain ⟨⟨t0,g0⟩,_⟩:=(show ObjOk X.prog X.w H1 s1.heap y (XI y C d) from I2.hok y _ hy)
  refine exc_base_init PySem.F.excBase_ValueError T hC g0 (fun h' t1 g1 kp=>?_) (by rw [← r3.length];exact hl)
  have J:=I2.write (t':=s1.toks) (x:=y) (e:=y) (o:=XI y C d) (by rw [hy];exact True.intro) (.inl rfl) kp ⟨_,g1⟩ (XI.ok g1)
  rw [upd_id hy] at J
  exact ⟨.non,H1,J,rfl,q⟩
def tJ2 (t1 t2:TE):TE:=fun σ H Q=>t1 σ H fun x H1=>∃ a,x=.str a∧a.length≤sizeLine∧t2 σ H1 fun y H2=>∃ b,y=.str b∧a.length+b.length≤sizeLine∧Q (.str (a++b)) H2
theorem pe_j2 (h1:PE X e1 t1) (h2:PE X e2 t2):PE X (.JoinedStr [e1,e2] pos) (tJ2 t1 t2):=by
 intro pins s σ H Q I h
 refine JoinedStr_many (joinParts_cons (thn (h1 pins s σ H _ I h) fun u s1 ⟨x,H1,I1,rx,a,ex,ha,q⟩=>?_))
 subst ex
 obtain ⟨t,rfl⟩:=rx
 refine ⟨by rw [Str.empty_append];exact ha,joinParts_cons (thn (h2 pins s1 σ H1 _ I1 q) fun u s2 ⟨y,H2,I2,ry,b,ey,hb,q2⟩=>?_)⟩
 subst ey
 obtain ⟨t',rfl⟩:=ry
 have hl:((Str.empty++a)++b).length≤sizeLine:=by rw [Str.empty_append,strLen_append];exact hb
 refine ⟨hl,joinParts_nil ?_ hl⟩
 rw [Str.empty_append]
 exact ⟨.str _,H2,I2.tok _,⟨_,rfl⟩,q2⟩
def tFv (tv:TE):TE:=fun σ H Q=>tv σ H fun x H1=>∃ z,x=.str z∧z.length≤sizeLine∧Q (.str z) H1
theorem pe_fv (h:PE X value tv):PE X (.FormattedValue value (-1) none pos) (tFv tv):=by
 intro pins s σ H Q I hq
 refine FormattedValue_plain (thn (h pins s σ H _ I hq) fun u s1 ⟨x,H1,I1,rx,z,ex,hz,q⟩=>?_)
 subst ex
 obtain ⟨t,rfl⟩:=rx
 exact formatField_str (fun t' tk=>⟨.str z,H1,I1.tok tk,⟨_,rfl⟩,q⟩) hz
def sXf (K:PySem.W.Frag) (ta tv:TE) (f:Str):TS:=fun D σ H=>tv σ H fun y H1=>ta σ H1 fun x H2=>∃ a C,x=.ref a∧H2 a=some (XI a C none)∧ExI K C∧NoAttr K C f∧
 ∀ dx,H2 dx=none→D.nx σ (upd (upd H2 a (XI a C (some dx))) dx (.xd [(f,y)]))
theorem ps_xfld {o:Expr} (ha:PE X o ta) (hv:PE X value tv) (hs:swapsWith value (some (.Attribute o f pos')) pos.line X.env=pure false) (hex:X.ex=[]:=by rfl):PS X (.Assign [.Attribute o f pos'] value pos) (sXf X.K ta tv f):=by
 intro pins s σ H D I h
 refine plainObj_wpAny_Assign_Attribute (thn (hv pins s σ H _ I h) fun u s1 ⟨y,H1,I1,ry,q⟩=>thn (ha pins s1 σ H1 _ I1 q) fun ov s2 ⟨x,H2,I2,rx,a,C,ex,ea,c,n,q2⟩=>?_) hs
 subst ex
 obtain rfl:ov=Value.ref a:=rx
 obtain ⟨⟨t0,g0⟩,_⟩:=(show ObjOk X.prog X.w H2 s2.heap a (XI a C none) from I2.hok a _ ea)
 refine exc_set0 I2.kIn c n g0 rfl (by nofun) rfl fun h' tk' g1 ns kp=>?_
 have nd:H2 s2.heap.objs.size=none:=I2.hok.fresh (Nat.le_refl _)
 have ne:s2.heap.objs.size≠a:=fun z=>by rw [z,ea] at nd;cases nd
 have J:=I2.write (t':=tk') (x:=a) (e:=a) (o:=XI a C (some s2.heap.objs.size)) (by rw [ea];exact True.intro) (.inl rfl) kp ⟨_,g1⟩ (XI.ok g1)
 have J2:=J.track (x:=s2.heap.objs.size) (o:=.xd [(f,y)]) (by rw [upd_ne ne];exact nd) (I2.off hex (Heap.get?_none_of_le (Nat.le_refl _))) ⟨_,ns,fun g=>?_⟩
 ·exact ⟨σ,_,J2,q2 _ nd⟩
 ·show RelO (List.lookup g [(f,y)]) (if g=f then some u else none)
  rw [List.lookup_cons]
  by_cases h:g=f
  ·rw [if_pos h,show (g == f)=true from beq_iff_eq.mpr h]
   exact ry
  ·rw [if_neg h,show (g == f)=false from beq_eq_false_iff_ne.mpr h]
   exact True.intro
def tXf (K:PySem.W.Frag) (ta:TE) (f:Str):TE:=fun σ H Q=>ta σ H fun x H1=>∃ a C dx fs v,x=.ref a∧H1 a=some (XO a C (some dx))∧H1 dx=some (.xd fs)∧ExA K C∧PySem.W.hasDictIn K C=true∧PySem.W.findIn K (.ref C) f=some none∧fs.lookup f=some v∧Q v H1
theorem pe_xfld (he:PE X e ta) (hb:attributeBase e f X.env (eval e X.env)=eval e X.env):PE X (.Attribute e f pos) (tXf X.K ta f):=by
 intro pins s σ H Q I h
 refine attr_of hb (thn (he pins s σ H _ I h) fun u s1 ⟨x,H1,I1,rx,a,C,dx,fs,v,ex,ea,ed,c,hd,nf,l,q⟩=>?_)
 subst ex
 obtain rfl:u=Value.ref a:=rx
 obtain ⟨⟨vs,sl,g0⟩,_⟩:=(show ObjOk X.prog X.w H1 s1.heap a (XO a C (some dx)) from I1.hok a _ ea)
 obtain ⟨mA,ns,rel⟩:=(show ObjOk X.prog X.w H1 s1.heap dx (.xd fs) from I1.hok dx _ ed)
 obtain ⟨od,ho,hl⟩:=lookIn_ns ns
 obtain ⟨u,hu,ru⟩:=RelO.some_of (v:=v) (o:=mA f) (by rw [← l];exact rel f)
 have J:PySem.W.InstAt s1.heap a ⟨.ref C,some dx,.fields vs,sl⟩ C (some od):=⟨g0,rfl,rfl,ho⟩
 have hfo:PySem.W.findObj X.K C (some od) f=some (.value u):=PySem.W.findObj_own hd nf rfl (by rw [hl,hu])
 obtain ⟨hh,gg,dd,tt,os⟩:=s1
 unfold getAttr
 refine wpAny_bind (wpAny_mkText ?_)
 exact exc_by (s:=⟨hh,gg,dd,tt+1,os⟩) c I1.kIn J (handed_of ru) (fun A R q=>exc_call_val (s:=⟨hh,gg,dd,tt+1,os⟩) c I1.kIn J hfo q) ⟨v,H1,I1.tok _,ru,q⟩
def XAtD (H:Hp) (x C:Addr) (fs:List (Str × V)):Prop:=∃ dx,H x=some (XO x C (some dx))∧H dx=some (.xd fs)
def rIsXD (K:PySem.W.Frag) (c:Value):List V→Hp→VK→Prop:=fun vs H Q=>∃ x D y b fs,vs=[.ref x,y]∧(∀ u,RelV y u→u=c)∧XAtD H x D fs∧ExA K D∧PySem.W.kitOne K (.ref D) c=some b∧Q (.bl b) H
theorem call_isXD {c:Value}:CallR X (.builtin "isinstance") (rIsXD X.K c):=by
 intro pins s σ H xs us Q I r h
 obtain ⟨x,D,y,b,fs,rfl,hc,⟨dx,hx,hd⟩,ea,e,q⟩:=h
 cases r with
 | cons r1 r2=>
  cases r2 with
  | cons r3 r4=>
   cases r4
   have:=hc _ r3
   subst this
   cases r1
   obtain ⟨⟨vs,sl,g⟩,_⟩:=(show ObjOk X.prog X.w H s.heap x (XO x D (some dx)) from I.hok x _ hx)
   obtain ⟨mA,ns,rel⟩:=(show ObjOk X.prog X.w H s.heap dx (.xd fs) from I.hok dx _ hd)
   obtain ⟨od,ho,hl⟩:=lookIn_ns ns
   exact PySem.W.kia_one (kitx_exc ea) I.kIn ⟨_,some od,g,rfl,rfl,ho⟩ e (fun z=>nomatch z) fun tk=>⟨.bl b,H,I.tok tk,rfl,q⟩
end
end L2
namespace L2
open PySem PySem.Spec PyProof.Rows
section
variable {P:Program} {w:World} {K:PySem.W.Frag} {mg:Str→Option Value} {base:Heap} {qual:Str} {C:Addr} {st:Stmt} {N ps:List Str} {k:Nat} {sp:Sp}
def XiDe (K:PySem.W.Frag) (C:Addr) (qual:Str) (st:Stmt) (ps:List Str):Prop:=∃ f fd,FunG K "__init__" qual st f fd∧excFI K C bmV "ValueError.__new__"=some f∧PySem.W.typeIn K (.ref f)=some (.type "function")∧Binds K fd ps []
theorem XiDe.ok (F:XiDe K C qual st ps) (S:FnScope N ps (defScope st)) (len:∀ vs H Q E,sp vs H Q E→vs.length=ps.length) (hbody:BodyOk P w K mg base qual st N k sp):XiB P w K mg base C (k+1) ps sp:=
 let ⟨f,fd,a,b,c,d⟩:=F
 ⟨f,fd,b,c,d,a.ok S len (hbody f)⟩
theorem XiDe.fi (F:XiDe K C qual st ps):∃ f,excFI K C bmV "ValueError.__new__"=some f:=let ⟨f,_,_,b,_⟩:=F;⟨f,b⟩
end
end L2
namespace L2
open PySem PySem.Spec PyProof.Rows
section
variable {X:Cx}
def rSlS:V→Option Int→Option Int→Hp→VK→Prop:=fun x lo hi H Q=>∃ z,x=.str z∧z.length≤sizeLine∧Q (.str (Txt.slice z lo hi)) H
theorem pe_gi {x:Str} {i:Int} {pos:Pos} (h:∃ tk,X.mg x=some (.int i tk)) (hg:Gl X x:=by rfl) (hd:(x == ("__debug__":Str))=false:=by decide):PE X (.Name x pos) (tC (.int i)):=by
 obtain ⟨tk,h⟩:=h
 exact pe_glob hg h ⟨tk,rfl⟩ hd
def rEqN (K:PySem.W.Frag):R2:=fun x y H Q=>∃ p q xs,x=.ref p∧y=.ref q∧SqL K H p xs∧SqL K H q []∧Q (.bl xs.isEmpty) H
def rNeN (K:PySem.W.Frag):R2:=fun x y H Q=>∃ p q xs,x=.ref p∧y=.ref q∧SqL K H p xs∧SqL K H q []∧Q (.bl (!xs.isEmpty)) H
theorem op_neN (hu:X.A.units<cLine):OpR X (compareOp .NotEq) (rNeN X.K):=by
 intro pins s σ H x y v u Q I rx ry h
 obtain ⟨p,q,xs,rfl,rfl,hp,hq,k⟩:=h
 cases rx
 cases ry
 obtain ⟨us,r,pl,hz⟩:=I.list hp
 obtain ⟨ws,r',pl',hz'⟩:=I.list hq
 cases r'
 cases r with
 | nil=>exact SeqAt.RcNeAt.lists (e:=fun _=>true) pl.isList pl'.isList rfl hu (fun j h1 _=>absurd h1 (by simp)) X.prog X.w X.xe _ ⟨.bl false,H,I,rfl,k⟩
 | cons=>exact SeqAt.RcNeAt.lists_lengths pl.isList pl'.isList (by simp) hu X.prog X.w X.xe _ ⟨.bl true,H,I,rfl,k⟩
theorem pe_fldK {K:PySem.W.Frag} {o:Expr} {f:Str} {pos:Pos} {ta:TE} (hK:X.K=K) (h:PE X o ta) (hb:attributeBase o f X.env (eval o X.env)=eval o X.env):PE X (.Attribute o f pos) (tFld K ta f):=by
 subst hK
 exact pe_fld h hb
end
end L2
namespace L2
open PySem PySem.Spec PyProof.Rows
section
variable {κ:Type} [DecidableEq κ]
def valV (kvs:List (κ × V)) (k:κ):Option V:=(kvs.find? fun kv=>decide (kv.1=k)).map (·.2)
def putK (kvs:List (κ × V)) (k:κ) (v:V):List (κ × V):=
 if (kvs.any fun kv=>decide (kv.1=k))=true then kvs.map (fun kv=>if kv.1=k then (kv.1,v) else kv) else kvs++[(k,v)]
def dropK (kvs:List (κ × V)) (k:κ):List (κ × V):=kvs.filter fun kv=>decide (kv.1≠k)
theorem valV_pos {p:κ × V} {r:List (κ × V)} {k:κ} (e:p.1=k):valV (p::r) k=some p.2:=by simp [valV,List.find?_cons,e]
theorem valV_neg {p:κ × V} {r:List (κ × V)} {k:κ} (e:¬ p.1=k):valV (p::r) k=valV r k:=by simp [valV,List.find?_cons,e]
theorem valV_any (k:κ):∀ kvs:List (κ × V),(kvs.any fun kv=>decide (kv.1=k))=(valV kvs k).isSome
 | []=>rfl
 | p::r=>by
  rw [List.any_cons]
  by_cases e:p.1=k
  ·simp only [valV_pos e,decide_eq_true e,Bool.true_or,Option.isSome_some]
  ·rw [valV_neg e,decide_eq_false e,Bool.false_or];exact valV_any k r
theorem valV_map (k j:κ) (y:V):∀ kvs:List (κ × V),valV (kvs.map fun kv=>if kv.1=k then (kv.1,y) else kv) j=(valV kvs j).map fun x=>if j=k then y else x
 | []=>rfl
 | p::r=>by
  have ih:=valV_map k j y r
  rw [List.map_cons]
  by_cases h:p.1=k
  ·rw [if_pos h]
   by_cases e:p.1=j
   ·rw [valV_pos (p:=(p.1,y)) e,valV_pos e,Option.map_some,if_pos (e.symm.trans h)]
   ·rw [valV_neg (p:=(p.1,y)) e,valV_neg e,ih]
  ·rw [if_neg h]
   by_cases e:p.1=j
   ·rw [valV_pos (p:=p) e,valV_pos e,Option.map_some,if_neg (fun z=>h (e.trans z))]
   ·rw [valV_neg (p:=p) e,valV_neg e,ih]
theorem valV_snoc (k j:κ) (y:V):∀ kvs:List (κ × V),valV kvs k=none→valV (kvs++[(k,y)]) j=if j=k then some y else valV kvs j
 | [],_=>by
  by_cases e:k=j
  ·rw [if_pos e.symm];exact valV_pos (p:=(k,y)) e
  ·rw [if_neg (fun z=>e z.symm)];exact valV_neg (p:=(k,y)) e
 | p::r,hn=>by
  rw [List.cons_append]
  have hk:¬ p.1=k:=fun z=>by rw [valV_pos z] at hn;cases hn
  rw [valV_neg hk] at hn
  have ih:=valV_snoc k j y r hn
  by_cases e:p.1=j
  ·rw [valV_pos e,valV_pos e,if_neg (fun z=>hk (e.trans z))]
  ·rw [valV_neg e,valV_neg e,ih]
theorem valV_put (kvs:List (κ × V)) (k j:κ) (y:V):valV (putK kvs k y) j=if j=k then some y else valV kvs j:=by
 unfold putK
 by_cases a:(kvs.any fun kv=>decide (kv.1=k))=true
 ·rw [if_pos a,valV_map]
  rw [valV_any] at a
  by_cases e:j=k
  ·obtain ⟨x,hx⟩:=Option.isSome_iff_exists.mp a
   rw [if_pos e,e,hx,Option.map_some,if_pos rfl]
  ·rw [if_neg e]
   cases valV kvs j with
   | none=>rfl
   | some x=>rw [Option.map_some,if_neg e]
 ·rw [if_neg a]
  refine valV_snoc k j y kvs ?_
  rw [valV_any] at a
  cases q:valV kvs k with
  | none=>rfl
  | some x=>rw [q] at a;exact (a rfl).elim
theorem length_putK (kvs:List (κ × V)) (k:κ) (v:V):(putK kvs k v).length≤kvs.length+1:=by
 unfold putK
 split
 ·rw [List.length_map];omega
 ·rw [List.length_append,List.length_cons,List.length_nil];omega
theorem putK_new {kvs:List (κ × V)} {k:κ} (v:V) (h:valV kvs k=none):putK kvs k v=kvs++[(k,v)]:=by
 unfold putK
 rw [valV_any,h]
 exact if_neg (by decide)
theorem RelO.isSome_eq {o:Option V} {u:Option Value} (r:RelO o u):o.isSome=u.isSome:=by
 cases o with
 | none=>cases u with
  | none=>rfl
  | some _=>exact (show False from r).elim
 | some _=>cases u with
  | none=>exact (show False from r).elim
  | some _=>rfl
theorem RelO.getD {o:Option V} {u:Option Value} {d:V} {d':Value} (r:RelO o u) (rd:RelV d d'):RelV (o.getD d) (u.getD d'):=by
 cases o with
 | none=>cases u with
  | none=>exact rd
  | some _=>exact (show False from r).elim
 | some _=>cases u with
  | none=>exact (show False from r).elim
  | some _=>exact r
theorem KV.val {kvs:List (κ × V)} {vs:List (κ × Value)} (r:KV kvs vs) (k:κ):RelO (valV kvs k) (valueAt vs k):=by
 unfold KV at r
 induction r with
 | nil=>exact True.intro
 | @cons p q ps qs h t ih=>
  obtain ⟨h1,h2⟩:=h
  by_cases e:p.1=k
  ·have e':q.1=k:=h1.symm.trans e
   have b:valueAt (q::qs) k=some q.2:=by simp [valueAt,List.find?_cons,e']
   rw [valV_pos e,b];exact h2
  ·have e':¬ q.1=k:=fun z=>e (h1.trans z)
   have b:valueAt (q::qs) k=valueAt qs k:=by simp [valueAt,List.find?_cons,e']
   rw [valV_neg e,b];exact ih
theorem KV.any {kvs:List (κ × V)} {vs:List (κ × Value)} (r:KV kvs vs) (k:κ):(kvs.any fun kv=>decide (kv.1=k))=vs.any fun kv=>decide (kv.1=k):=by
 unfold KV at r
 induction r with
 | nil=>rfl
 | cons h t ih=>rw [List.any_cons,List.any_cons,ih,h.1]
theorem KV.repl {kvs:List (κ × V)} {vs:List (κ × Value)} (r:KV kvs vs) (k:κ) {y:V} {u:Value} (ry:RelV y u) :
  KV (kvs.map fun kv=>if kv.1=k then (kv.1,y) else kv) (vs.map fun kv=>if kv.1=k then (kv.1,u) else kv):=by
 unfold KV at r ⊢
 induction r with
 | nil=>exact .nil
 | @cons p q ps qs h t ih=>
  rw [List.map_cons,List.map_cons]
  refine .cons ?_ ih
  obtain ⟨h1,h2⟩:=h
  by_cases e:p.1=k
  ·rw [if_pos e,if_pos (h1.symm.trans e)];exact ⟨h1,ry⟩
  ·rw [if_neg e,if_neg (fun z=>e (h1.trans z))];exact ⟨h1,h2⟩
theorem KV.put {kvs:List (κ × V)} {vs:List (κ × Value)} (r:KV kvs vs) (k:κ) {y:V} {u:Value} (ry:RelV y u):KV (putK kvs k y) (stored vs k u):=by
 unfold putK stored
 rw [r.any k]
 by_cases e:(vs.any fun kv=>decide (kv.1=k))=true
 ·rw [if_pos e,if_pos e];exact r.repl k ry
 ·rw [if_neg e,if_neg e];exact Paired.snoc r ⟨rfl,ry⟩
theorem KV.length {kvs:List (κ × V)} {vs:List (κ × Value)} (r:KV kvs vs):kvs.length=vs.length:=Paired.length r
end
theorem kV_is {P:Program} {w:World} {k:Key} {u:Value} (r:RelV (kV k) u):(mixKind P w).is k u=true:=by
 cases k with
 | inl i=>obtain ⟨t,e⟩:=(show ∃ t,u=Value.int i t from r);subst e;exact mixKind_int P w i t
 | inr x=>obtain ⟨t,e⟩:=(show ∃ t,u=Value.str x t from r);subst e;exact mixKind_str P w x t
theorem kV_inj {a b:Key} (e:kV a=kV b):a=b:=by
 cases a with
 | inl i=>cases b with
  | inl j=>have e':V.int i=V.int j:=e;injection e' with e';rw [e']
  | inr y=>exact nomatch (show V.int i=V.str y from e)
 | inr x=>cases b with
  | inl j=>exact nomatch (show V.str x=V.int j from e)
  | inr y=>have e':V.str x=V.str y:=e;injection e' with e';rw [e']
theorem items_are {P:Program} {w:World}:∀ {ks:List Key} {us:List Value},Vals (ks.map kV) us→ItemsAre (mixKind P w) ks us
 | [],_,r=>by rw [List.map_nil] at r;cases r;exact .nil
 | k::ks,_,r=>by
  rw [List.map_cons] at r
  cases r with
  | cons h t=>exact .cons (kV_is h) (items_are t)
abbrev KT (H:Hp):List (List Key × V)→List (List Key × Addr × Value)→Prop:=Paired fun p q=>p.1=q.1∧H q.2.1=some (.tup (p.1.map kV))∧RelV p.2 q.2.2
theorem KT.val {H:Hp} {kvs:List (List Key × V)} {xs:List (List Key × Addr × Value)} (r:KT H kvs xs) (k:List Key):RelO (valV kvs k) ((atKey xs k).map (·.2)):=by
 induction r with
 | nil=>exact True.intro
 | @cons p q ps qs h t ih=>
  obtain ⟨h1,_,h2⟩:=h
  by_cases e:p.1=k
  ·have e':q.1=k:=h1.symm.trans e
   have b:atKey (q::qs) k=some q.2:=by simp [atKey,List.find?_cons,e']
   rw [valV_pos e,b];exact h2
  ·have e':¬ q.1=k:=fun z=>e (h1.trans z)
   have b:atKey (q::qs) k=atKey qs k:=by simp [atKey,List.find?_cons,e']
   rw [valV_neg e,b];exact ih
theorem KT.repl {H:Hp} {kvs:List (List Key × V)} {xs:List (List Key × Addr × Value)} (r:KT H kvs xs) (k:List Key) {y:V} {u:Value} (ry:RelV y u) :
  KT H (kvs.map fun kv=>if kv.1=k then (kv.1,y) else kv) (xs.map (putAt k u)):=by
 induction r with
 | nil=>exact .nil
 | @cons p q ps qs h t ih=>
  rw [List.map_cons,List.map_cons]
  refine .cons ?_ ih
  obtain ⟨h1,h2,h3⟩:=h
  unfold putAt
  by_cases e:p.1=k
  ·rw [if_pos e,if_pos (h1.symm.trans e)];exact ⟨h1,h2,ry⟩
  ·rw [if_neg e,if_neg (fun z=>e (h1.trans z))];exact ⟨h1,h2,h3⟩
theorem KT.put {H:Hp} {kvs:List (List Key × V)} {xs:List (List Key × Addr × Value)} (r:KT H kvs xs) (k:List Key) {b:Addr} {y:V} {u:Value} (hb:H b=some (.tup (k.map kV))) (ry:RelV y u) :
  KT H (putK kvs k y) (storedH xs k b u):=by
 have e:(kvs.any fun kv=>decide (kv.1=k))=(atKey xs k).isSome:=by
  rw [valV_any,(r.val k).isSome_eq,Option.isSome_map]
 unfold putK storedH
 rw [e]
 by_cases q:(atKey xs k).isSome=true
 ·rw [if_pos q,if_pos q];exact r.repl k ry
 ·rw [if_neg q,if_neg q];exact Paired.snoc r ⟨rfl,hb,ry⟩
theorem KT.keeps {H H':Hp} {kvs:List (List Key × V)} {xs:List (List Key × Addr × Value)} (r:KT H kvs xs) (ht:∀ b ys,H b=some (.tup ys)→H' b=some (.tup ys)):KT H' kvs xs:=
 Paired.mapP r fun _ _ z=>⟨z.1,ht _ _ z.2.1,z.2.2⟩
section
variable {P:Program} {w:World} {H:Hp} {h:Heap} {a:Addr}
theorem rd_of {u:HO} (ok:HOk P w H h) (e:Rd H a u):ObjOk P w H h a u:=e.ok ok
theorem dk_rd {kvs:List (Key × V)} (ok:HOk P w H h) (e:Rd H a (.dK kvs)):kvs.length≤sizeLine∧(a == sysModules)=false∧∃ vs,KV kvs vs∧h.DictOf (mixKind P w) a vs:=
 show ObjOk P w H h a (.dK kvs) from rd_of ok e
theorem dk_of {kvs:List (Key × V)} (ok:HOk P w H h) (e:H a=some (.dK kvs)):kvs.length≤sizeLine∧(a == sysModules)=false∧∃ vs,KV kvs vs∧h.DictOf (mixKind P w) a vs:=dk_rd ok (.inl e)
theorem key_of {ks:List Key} (ok:HOk P w H h) (e:H a=some (.tup (ks.map kV))):(tupleKind (mixKind P w)).is h ks a:=by
 obtain ⟨_,its,r,o,h1,h2,n,h3⟩:=(show ObjOk P w H h a (.tup (ks.map kV)) from ok a _ e)
 exact ⟨o,its.toArray,n,h1,h2,h3,by simpa using items_are r⟩
theorem dt_rd {kvs:List (List Key × V)} (ok:HOk P w H h) (e:Rd H a (.dT kvs)):kvs.length≤sizeLine∧(a == sysModules)=false∧
  ∃ xs,KT H kvs xs∧h.DictOfH (tupleKind (mixKind P w)) a xs:=by
 obtain ⟨z,y,xs,r,o,es,ep,h1,h2,h3,h4,h5⟩:=(show ObjOk P w H h a (.dT kvs) from rd_of ok e)
 refine ⟨z,y,xs,r,o,es,ep,h1,h2,h3,h4,fun x hx=>?_,h5⟩
 have all:∀ {l:List (List Key × V)} {m:List (List Key × Addr × Value)},KT H l m→∀ x∈m,(tupleKind (mixKind P w)).is h x.1 x.2.1:=by
  intro l m q
  induction q with
  | nil=>intro x hx;exact nomatch hx
  | @cons p q ps qs hq t ih=>
   intro x hx
   rcases List.mem_cons.mp hx with e | hx
   ·subst e
    exact key_of ok (by rw [← hq.1];exact hq.2.1)
   ·exact ih x hx
 exact all r x hx
theorem dt_of {kvs:List (List Key × V)} (ok:HOk P w H h) (e:H a=some (.dT kvs)):kvs.length≤sizeLine∧(a == sysModules)=false∧
  ∃ xs,KT H kvs xs∧h.DictOfH (tupleKind (mixKind P w)) a xs:=dt_rd ok (.inl e)
end
def DGet (H:Hp) (a:Addr) (y:V) (r:Option V):Prop:=
 (∃ kvs k,Rd H a (.dK kvs)∧y=kV k∧r=valV kvs k)∨∃ kvs k b,Rd H a (.dT kvs)∧y=.ref b∧H b=some (.tup (k.map kV))∧r=valV kvs k
def DPut (H:Hp) (a:Addr) (y v:V) (H':Hp):Prop:=
 (∃ kvs k,H a=some (.dK kvs)∧y=kV k∧kvs.length<sizeLine∧H'=upd H a (.dK (putK kvs k v)))∨
 ∃ kvs k b,H a=some (.dT kvs)∧y=.ref b∧H b=some (.tup (k.map kV))∧kvs.length<sizeLine∧H'=upd H a (.dT (putK kvs k v))
theorem DGet.k {H:Hp} {a:Addr} {kvs:List (Key × V)} {k:Key} (e:H a=some (.dK kvs)):DGet H a (kV k) (valV kvs k):=.inl ⟨kvs,k,.inl e,rfl,rfl⟩
theorem DPut.k {H:Hp} {a:Addr} {kvs:List (Key × V)} {k:Key} {v:V} (e:H a=some (.dK kvs)) (hl:kvs.length<sizeLine):DPut H a (kV k) v (upd H a (.dK (putK kvs k v))):=.inl ⟨kvs,k,e,rfl,hl,rfl⟩
section
variable {X:Cx} {pins:List (Addr × Obj)} {σ:St} {H:Hp} {s:Shared} {a:Addr} {y v:V} {u r:Value} {o:Option V} {A:Around} {E:Value→Shared→Prop}
theorem Inv.big (I:Inv X pins σ H s):sysModules<s.heap.objs.size:=by
 have h:mainGlobals<s.heap.objs.size:=(I.mod.glob.keeps I.bk).lt
 exact Nat.lt_trans (by decide) h
theorem d_getItem {Q:Value→Shared→Prop} (hu:A.units+1<cLine) (I:Inv X pins σ H s) (g:DGet H a y (some v)) (ry:RelV y u) (h:∀ w' s',Inv X pins σ H s'→RelV v w'→Q w' s') :
  wpAny (model X.prog X.w) A (getItem (.ref a) u) Q E s:=by
 rcases g with ⟨kvs,k,e,ey,l⟩ | ⟨kvs,k,b,e,ey,eb,l⟩
 ·subst ey
  obtain ⟨z,hd,vs,rel,dd⟩:=dk_rd I.hok e
  obtain ⟨w',hw,rw'⟩:=RelO.some_of (v:=v) (o:=valueAt vs k) (by rw [l];exact rel.val k)
  exact wpAny_getItem_of (kV_is ry) dd.mapOf hw (h w' _ (I.tok _) rw')
 ·subst ey
  cases (show u=Value.ref b from ry)
  obtain ⟨z,hd,xs,rel,dd⟩:=dt_rd I.hok e
  obtain ⟨w',hw,rw'⟩:=RelO.some_of (v:=v) (o:=(atKey xs k).map (·.2)) (by rw [l];exact rel.val k)
  obtain ⟨p,hp,hp2⟩:=Option.map_eq_some_iff.mp hw
  refine wpAny_getItem_heap (tupleKind_room_in1 hu) (key_of I.hok eb) dd hp ?_
  rw [hp2]
  exact h w' _ (I.tok _) rw'
theorem d_in {Q:Value→Shared→Prop} (hu:A.units+1<cLine) (I:Inv X pins σ H s) (g:DGet H a y o) (ry:RelV y u) (h:∀ s',Inv X pins σ H s'→Q (.bool o.isSome) s') :
  wpAny (model X.prog X.w) A (compareOp .In u (.ref a)) Q E s:=by
 rcases g with ⟨kvs,k,e,ey,l⟩ | ⟨kvs,k,b,e,ey,eb,l⟩
 ·subst ey
  obtain ⟨z,hd,vs,rel,dd⟩:=dk_rd I.hok e
  refine wpAny_in_of (kV_is ry) hd dd.mapOf ?_
  rw [← (rel.val k).isSome_eq,← l]
  exact h _ (I.tok _)
 ·subst ey
  cases (show u=Value.ref b from ry)
  obtain ⟨z,hd,xs,rel,dd⟩:=dt_rd I.hok e
  refine wpAny_in_heap (tupleKind_room_in1 hu) (key_of I.hok eb) hd dd ?_
  have q:=(rel.val k).isSome_eq
  rw [Option.isSome_map] at q
  rw [← q,← l]
  exact h _ (I.tok _)
theorem d_notIn {Q:Value→Shared→Prop} (hu:A.units+1<cLine) (I:Inv X pins σ H s) (g:DGet H a y o) (ry:RelV y u) (h:∀ s',Inv X pins σ H s'→Q (.bool (!o.isSome)) s') :
  wpAny (model X.prog X.w) A (compareOp .NotIn u (.ref a)) Q E s:=by
 rcases g with ⟨kvs,k,e,ey,l⟩ | ⟨kvs,k,b,e,ey,eb,l⟩
 ·subst ey
  obtain ⟨z,hd,vs,rel,dd⟩:=dk_rd I.hok e
  refine wpAny_notIn_of (kV_is ry) hd dd.mapOf ?_
  rw [← (rel.val k).isSome_eq,← l]
  exact h _ (I.tok _)
 ·subst ey
  cases (show u=Value.ref b from ry)
  obtain ⟨z,hd,xs,rel,dd⟩:=dt_rd I.hok e
  refine wpAny_notIn_heap (tupleKind_room_in1 hu) (key_of I.hok eb) hd dd ?_
  have q:=(rel.val k).isSome_eq
  rw [Option.isSome_map] at q
  rw [← q,← l]
  exact h _ (I.tok _)
theorem d_write {h':Heap} {t':Nat} {ob:HO} (I:Inv X pins σ H s) (mu:Mut (H a)) (hs:Heap.SameBut a s.heap h') (he:∃ q,h'.get? a=some q) (new:ObjOk X.prog X.w (upd H a ob) h' a ob) :
  Inv X pins σ (upd H a ob) { s with heap:=h',toks:=t' }:=
 I.write (x:=a) (e:=a) mu (.inl rfl) (fun b q hb z=>(hs.2 b hb).trans z) he new
theorem dk_new {P:Program} {w:World} {H':Hp} {h':Heap} {kvs:List (Key × V)} {vs:List (Key × Value)} (z:kvs.length≤sizeLine) (hd:(a == sysModules)=false) (rel:KV kvs vs) (dd:h'.DictOf (mixKind P w) a vs) :
  ObjOk P w H' h' a (.dK kvs):=⟨z,hd,vs,rel,dd⟩
theorem d_setItem {H':Hp} {Q:Unit→Shared→Prop} (hu:A.units+1<cLine) (I:Inv X pins σ H s) (g:DPut H a y v H') (ry:RelV y u) (rv:RelV v r) (h:∀ s',Inv X pins σ H' s'→Q () s') :
  wpAny (model X.prog X.w) A (setItem (.ref a) u r) Q E s:=by
 rcases g with ⟨kvs,k,e,ey,l,eH⟩ | ⟨kvs,k,b,e,ey,eb,l,eH⟩
 ·subst ey eH
  obtain ⟨z,hd,vs,rel,dd⟩:=dk_of I.hok e
  have hz:vs.length≤sizeLine:=by rw [← rel.length];exact z
  have hl:(putK kvs k v).length≤sizeLine:=by have:=length_putK kvs k v;omega
  refine wpAny_setItem_pairs (hsz:=hz) (kV_is ry) dd fun h' dd' hs=>h _ ?_
  have he:∃ q,h'.get? a=some q:=let ⟨q,_,_,hq,_⟩:=dd';⟨q,hq⟩
  exact d_write I (by rw [e];exact True.intro) hs he (dk_new hl hd (rel.put k rv) dd')
 ·subst ey eH
  cases (show u=Value.ref b from ry)
  obtain ⟨z,hd,xs,rel,dd⟩:=dt_of I.hok e
  have hz:xs.length≤sizeLine:=by rw [← Paired.length rel];exact z
  have hl:(putK kvs k v).length≤sizeLine:=by have:=length_putK kvs k v;omega
  refine wpAny_setItem_heap (hsz:=hz) (tupleKind_room_in1 hu) (key_of I.hok eb) dd fun h' dd' hs=>h _ ?_
  obtain ⟨q,es,ep,hq,h2,h3,h4,_,h5⟩:=dd'
  refine d_write I (by rw [e];exact True.intro) hs ⟨q,hq⟩ ⟨hl,hd,_,(rel.put k eb rv).keeps fun c ys ec=>?_,q,es,ep,hq,h2,h3,h4,h5⟩
  rw [upd_ne (ne_of ec e (fun z=>nomatch z))]
  exact ec
end
section
variable {X:Cx} {pins:List (Addr × Obj)} {σ:St} {H:Hp} {s:Shared} {a:Addr} {kvs:List (Key × V)} {k:Key} {u:Value} {A:Around} {E:Value→Shared→Prop}
end
def NoSl (i:Expr):Prop:=∀ ov iv,subscripted i false ov iv=operate [ov,iv] (getItem ov iv)
theorem subD_of {prog:Program} {w:World} {A:Around} {E:Value→Shared→Prop} {s:Shared} {env:Env} {value slice:Expr} {pos:Pos} {T id:String} {Q:Value→Shared→Prop}
  (hl:typeLookup (.type T) "__getitem__"=pure (some (.builtin id))) (hs:NoSl slice)
  (h:wpAny (model prog w) A (eval value env) (fun o s₁=>wpAny (model prog w) A (eval slice env) (fun i s₂=>s₂.TypeIs o T∧wpAny (model prog w) A (getItem o i) Q E s₂) E s₁) E s) :
  wpAny (model prog w) A (eval (.Subscript value slice pos) env) Q E s:=by
 refine Subscript_ (wpAny_mono h (fun o s₁ h₁=>wpAny_mono h₁ (fun i s₂ h₂=>?_) fun _ _ x=>x) fun _ _ x=>x)
 obtain ⟨hT,h₂⟩:=h₂
 unfold subscriptTail
 refine wpAny_bind ?_
 rw [getitemInPython_of_ne hT.not_modules]
 refine wpAny_bind (wpAny_specialOf hT hl ?_)
 have fin:wpAny (model prog w) A (subscripted slice false o i) (fun r s₃=>wpAny (model prog w) A (letTemporaryGo value o r >>= fun _=>pure r) Q E s₃) E s₂:=by
  rw [hs o i]
  exact wpAny_operating (wpAny_mono h₂ (fun r s₃ h₃=>wpAny_bind (wpAny_letTemporaryGo (wpAny_pure h₃))) fun _ _ x=>x)
 first
  | exact wpAny_pure (wpAny_bind fin)
  | exact wpAny_bind (wpAny_pure (wpAny_bind fin))
  | exact wpAny_bind fin
theorem dict_typeIs {X:Cx} {pins:List (Addr × Obj)} {σ:St} {H:Hp} {s:Shared} {a:Addr} {y:V} {o:Option V} (I:Inv X pins σ H s) (g:DGet H a y o):s.TypeIs (.ref a) "dict":=by
 rcases g with ⟨kvs,k,e,_,_⟩ | ⟨kvs,k,b,e,_,_,_⟩
 ·obtain ⟨_,_,vs,_,dd⟩:=dk_rd I.hok e
  exact dd.typeIs
 ·obtain ⟨_,_,xs,_,dd⟩:=dt_rd I.hok e
  exact dd.typeIs
def tDGet (td ty:TE):TE:=fun σ H Q=>td σ H fun x H1=>ty σ H1 fun y H2=>∃ a v,x=.ref a∧DGet H2 a y (some v)∧Q v H2
def tDIn (ty td:TE):TE:=fun σ H Q=>ty σ H fun y H1=>td σ H1 fun x H2=>∃ a o,x=.ref a∧DGet H2 a y o∧Q (.bl o.isSome) H2
def tDNotIn (ty td:TE):TE:=fun σ H Q=>ty σ H fun y H1=>td σ H1 fun x H2=>∃ a o,x=.ref a∧DGet H2 a y o∧Q (.bl (!o.isSome)) H2
def sDPut (td ty tv:TE):TS:=fun D σ H=>tv σ H fun v H1=>td σ H1 fun x H2=>ty σ H2 fun y H3=>∃ a H4,x=.ref a∧DPut H3 a y v H4∧D.nx σ H4
def sDAug (td ty tv:TE) (rd:V→V→Hp→VK→Prop):TS:=fun D σ H=>td σ H fun x H1=>ty σ H1 fun y H2=>∃ a v,x=.ref a∧DGet H2 a y (some v)∧
 tv σ H2 fun y2 H3=>rd v y2 H3 fun z H4=>∃ H5,DPut H4 a y z H5∧D.nx σ H5
def sDDel (td ty:TE):TS:=fun D σ H=>td σ H fun x H1=>ty σ H1 fun y H2=>∃ a kvs k,x=.ref a∧H2 a=some (.dK kvs)∧y=kV k∧(valV kvs k).isSome=true∧D.nx σ (upd H2 a (.dK (dropK kvs k)))
section
variable {X:Cx} {o i e value:Expr} {pos pos' tpos:Pos} {td ty tv:TE}
theorem pe_dget (hu:X.A.units+1<cLine) (ho:PE X o td) (hi:PE X i ty) (hs:NoSl i):PE X (.Subscript o i pos) (tDGet td ty):=by
 intro pins s σ H Q I h
 refine subD_of PySem.F.slot_dict_getitem.lookup hs (thn (ho pins s σ H _ I h) fun u s1 ⟨x,H1,I1,rx,q1⟩=>thn (hi pins s1 σ H1 _ I1 q1) fun iv s2 ⟨y,H2,I2,ry,a,v,ex,g,q2⟩=>?_)
 subst ex
 obtain rfl:u=Value.ref a:=rx
 exact ⟨dict_typeIs I2 g,d_getItem hu I2 g ry fun w' s3 I3 rw'=>⟨v,H2,I3,rw',q2⟩⟩
theorem pc_din (hu:X.A.units+1<cLine) (hi:PE X i ty) (ho:PE X o td):PC X .In i o (tDIn ty td):=by
 intro pins s σ H Q I h
 refine thn (hi pins s σ H _ I h) fun iv s1 ⟨y,H1,I1,ry,q1⟩=>thn (ho pins s1 σ H1 _ I1 q1) fun u s2 ⟨x,H2,I2,rx,a,ov,ex,g,q2⟩=>?_
 subst ex
 obtain rfl:u=Value.ref a:=rx
 exact d_in hu I2 g ry fun s3 I3=>⟨.bl ov.isSome,H2,I3,rfl,q2⟩
theorem pc_dnotin (hu:X.A.units+1<cLine) (hi:PE X i ty) (ho:PE X o td):PC X .NotIn i o (tDNotIn ty td):=by
 intro pins s σ H Q I h
 refine thn (hi pins s σ H _ I h) fun iv s1 ⟨y,H1,I1,ry,q1⟩=>thn (ho pins s1 σ H1 _ I1 q1) fun u s2 ⟨x,H2,I2,rx,a,ov,ex,g,q2⟩=>?_
 subst ex
 obtain rfl:u=Value.ref a:=rx
 exact d_notIn hu I2 g ry fun s3 I3=>⟨.bl (!ov.isSome),H2,I3,rfl,q2⟩
theorem ps_dput (hu:X.A.units+1<cLine) (ho:PE X o td) (hi:PE X i ty) (hv:PE X value tv) (hs:swapsWith value (some (.Subscript o i pos')) pos.line X.env=pure false) :
  PS X (.Assign [.Subscript o i pos'] value pos) (sDPut td ty tv):=by
 intro pins s σ H D I h
 refine wpAny_Assign_Subscript (thn (hv pins s σ H _ I h) fun r s1 ⟨v,H1,I1,rv,q1⟩=>thn (ho pins s1 σ H1 _ I1 q1) fun u s2 ⟨x,H2,I2,rx,q2⟩=>thn (hi pins s2 σ H2 _ I2 q2) fun iv s3 ⟨y,H3,I3,ry,a,H4,ex,g,q3⟩=>?_) hs
 subst ex
 obtain rfl:u=Value.ref a:=rx
 exact d_setItem hu I3 g ry rv fun s4 I4=>⟨σ,H4,I4,q3⟩
end
theorem dk_empty {P:Program} {w:World} {H:Hp} (h:Heap) (hb:sysModules<h.objs.size):ObjOk P w H (h.push { cls:=.type "dict",data:=.dict #[] }) h.objs.size (.dK []):=
 ⟨Nat.zero_le _,beq_eq_false_iff_ne.mpr (Ne.symm (Nat.ne_of_lt hb)),[],.nil,Heap.DictOf.new h⟩
def tDNewK:TE:=fun _ H Q=>∀ p,H p=none→Q (.ref p) (upd H p (.dK []))
def tDNewT:TE:=fun _ H Q=>∀ p,H p=none→Q (.ref p) (upd H p (.dT []))
section
variable {X:Cx} {pos:Pos}
theorem pe_dnewK:PE X (.Dict [] [] pos) tDNewK:=fun pins s σ H Q I h=>
 wpAny_Dict_empty ⟨.ref s.heap.objs.size,_,I.laid (a:=s.heap.objs.size) (o:=.dK []) (t':=s.toks) (fun _ _ q=>Heap.get?_push_of_some _ q) (Nat.le_refl _) (dk_empty s.heap I.big),rfl,h _ (I.hok.fresh (Nat.le_refl _))⟩
end
def tPairs:List (TE × TE)→St→Hp→(List (V × V)→Hp→Prop)→Prop
 | [],_,H,Q=>Q [] H
 | (tk,tv)::r,σ,H,Q=>tk σ H fun x H1=>tv σ H1 fun y H2=>tPairs r σ H2 fun ps H3=>Q ((x,y)::ps) H3
abbrev VV:List (V × V)→List (Value × Value)→Prop:=Paired fun p q=>RelV p.1 q.1∧RelV p.2 q.2
def PPs (X:Cx) (pos:Pos) (keys:List (Option Expr)) (values:List Expr) (trs:List (TE × TE)):Prop:=
 ∀ (pins:List (Addr × Obj)) (s:Shared) (σ:St) (H:Hp) (Q:List (V × V)→Hp→Prop),Inv X pins σ H s→tPairs trs σ H Q→
  wpAny (model X.prog X.w) X.A (evalPairs (pairTrees keys values X.env pos)) (fun vs s'=>∃ ps H',Inv X pins σ H' s'∧VV ps vs∧Q ps H') X.xe s
def mergeK (kvs more:List (Key × V)):List (Key × V):=more.foldl (fun acc kv=>putK acc kv.1 kv.2) kvs
def tDisp (trs:List (TE × TE)):TE:=fun σ H Q=>∀ p,H p=none→tPairs trs σ (upd H p (.dK [])) fun ps H2=>H2 p=some (.dK [])∧∃ kvs:List (Key × V),ps=kvs.map (fun kv=>(kV kv.1,kv.2))∧kvs.length≤15∧Q (.ref p) (upd H2 p (.dK (mergeK [] kvs)))
structure M1 (X:Cx) (o:Expr) (m:Str) (apos:Pos) (e:Expr) (cpos:Pos):Prop where
 base:attributeBase o m X.env (eval o X.env)=eval o X.env
 few:((backTo cpos (starEach [e] X.env)).all (fun x=>!x.1) && (backToKw cpos (keywordEach [] X.env)).all (fun x=>x.1.isSome)
  && decide (([e]:List Expr).length+([]:List Keyword).length+(if ([]:List Keyword).isEmpty then 0 else 1)<30))=true
 line:(apos.endLine == cpos.line)=true
 trees:backTo cpos (starEach [e] X.env)=[(false,eval e X.env)]
structure M2 (X:Cx) (o:Expr) (m:Str) (apos:Pos) (e f:Expr) (cpos:Pos):Prop where
 base:attributeBase o m X.env (eval o X.env)=eval o X.env
 few:((backTo cpos (starEach [e,f] X.env)).all (fun x=>!x.1) && (backToKw cpos (keywordEach [] X.env)).all (fun x=>x.1.isSome)
  && decide (([e,f]:List Expr).length+([]:List Keyword).length+(if ([]:List Keyword).isEmpty then 0 else 1)<30))=true
 line:(apos.endLine == cpos.line)=true
 trees:backTo cpos (starEach [e,f] X.env)=[(false,eval e X.env),(false,eval f X.env)]
def IsD (H:Hp) (a:Addr):Prop:=(∃ kvs,Rd H a (.dK kvs))∨∃ kvs,Rd H a (.dT kvs)
theorem isD_at {X:Cx} {pins:List (Addr × Obj)} {σ:St} {H:Hp} {s:Shared} {a:Addr} (I:Inv X pins σ H s) (d:IsD H a) :
  s.TypeIs (.ref a) "dict"∧(∀ b,Value.ref a=.ref b→∃ ob,s.heap.get? b=some ob∧ob.dict=none)∧(a == sysModules)=false:=by
 rcases d with ⟨kvs,e⟩ | ⟨kvs,e⟩
 ·obtain ⟨_,hd,vs,_,dd⟩:=dk_rd I.hok e
  refine ⟨dd.typeIs,fun b q=>?_,hd⟩
  cases q
  obtain ⟨ob,_,_,h1,h2,_⟩:=dd
  exact ⟨ob,h1,h2.2.1⟩
 ·obtain ⟨_,hd,xs,_,dd⟩:=dt_rd I.hok e
  refine ⟨dd.typeIs,fun b q=>?_,hd⟩
  cases q
  obtain ⟨ob,_,_,h1,h2,_⟩:=dd
  exact ⟨ob,h1,h2.2.1⟩
section
variable {X:Cx} {pins:List (Addr × Obj)} {σ:St} {H:Hp} {s:Shared} {a:Addr} {y d:V} {u r:Value} {o:Option V} {A:Around} {E:Value→Shared→Prop}
theorem d_get2 {Q:Value→Shared→Prop} (hu:A.units+1<cLine) (I:Inv X pins σ H s) (g:DGet H a y o) (ry:RelV y u) (rd:RelV d r) (h:∀ w' s',Inv X pins σ H s'→RelV (o.getD d) w'→Q w' s') :
  wpAny (model X.prog X.w) A (call (.builtin "dict.get") [.ref a,u,r]) Q E s:=by
 rcases g with ⟨kvs,k,e,ey,l⟩ | ⟨kvs,k,b,e,ey,eb,l⟩
 ·subst ey
  obtain ⟨z,hd,vs,rel,dd⟩:=dk_rd I.hok e
  refine call_meetsIn PySem.F.slot_dict_get dd.typeIs PySem.F.entry_dict_get (PySem.F.args_dict_get_3 _ _ _) (meets_dict_get_default (mixKind X.prog X.w) a (kV_is ry) hd r) ⟨_,dd.mapOf,h _ _ (I.tok _) ?_⟩
  rw [l]
  exact (rel.val k).getD rd
 ·subst ey
  cases (show u=Value.ref b from ry)
  obtain ⟨z,hd,xs,rel,dd⟩:=dt_rd I.hok e
  refine call_meetsIn PySem.F.slot_dict_get dd.typeIs PySem.F.entry_dict_get (PySem.F.args_dict_get_3 _ _ _) (meetsH_dict_get_default (tupleKind (mixKind X.prog X.w)) a b hd r) ⟨tupleKind_room_in1 hu,k,xs,key_of I.hok eb,dd,h _ _ (I.tok _) ?_⟩
  rw [l]
  exact (rel.val k).getD rd
end
def tDGet1 (td ty:TE):TE:=fun σ H Q=>td σ H fun x H1=>∃ a,x=.ref a∧IsD H1 a∧ty σ H1 fun y H2=>∃ o,DGet H2 a y o∧Q (o.getD .non) H2
def tDGet2 (td ty tx:TE):TE:=fun σ H Q=>td σ H fun x H1=>∃ a,x=.ref a∧IsD H1 a∧ty σ H1 fun y H2=>tx σ H2 fun z H3=>∃ o,DGet H3 a y o∧Q (o.getD z) H3
def tDPop1 (td ty:TE):TE:=fun σ H Q=>td σ H fun x H1=>∃ a,x=.ref a∧IsD H1 a∧ty σ H1 fun y H2=>∃ kvs k v,H2 a=some (.dK kvs)∧y=kV k∧valV kvs k=some v∧Q v (upd H2 a (.dK (dropK kvs k)))
def tDPop2 (td ty tx:TE):TE:=fun σ H Q=>td σ H fun x H1=>∃ a,x=.ref a∧IsD H1 a∧ty σ H1 fun y H2=>tx σ H2 fun z H3=>∃ kvs k,H3 a=some (.dK kvs)∧y=kV k∧
 (∀ v,valV kvs k=some v→Q v (upd H3 a (.dK (dropK kvs k))))∧(valV kvs k=none→Q z H3)
section
variable {X:Cx} {o e f:Expr} {apos cpos:Pos} {td ty tx:TE}
theorem pe_dget2 (hu:X.A.units+1<cLine) (ho:PE X o td) (he:PE X e ty) (hf:PE X f tx) (m:M2 X o "get" apos e f cpos):PE X (.Call (.Attribute o "get" apos) [e,f] [] cpos) (tDGet2 td ty tx):=by
 intro pins s σ H Q I h
 refine wpAny_Call_method m.base m.few m.line PySem.F.plainAttrs_dict PySem.F.slot_dict_get PySem.F.type_dict_get (thn (ho pins s σ H _ I h) fun u s1 ⟨x,H1,I1,rx,a,ex,d,q1⟩=>?_)
 subst ex
 obtain rfl:u=Value.ref a:=rx
 obtain ⟨t1,t2,_⟩:=isD_at I1 d
 refine ⟨t1,t2,?_⟩
 rw [m.trees]
 refine Calls.callWith_builtin rfl (Calls.evalArgs_plain (Calls.spliced_cons (thn (he pins s1 σ H1 _ I1 q1) fun iv s2 ⟨y,H2,I2,ry,q2⟩=>
  Calls.spliced_cons (thn (hf pins s2 σ H2 _ I2 q2) fun fv s3 ⟨z,H3,I3,rz,ov,g,q3⟩=>Calls.spliced_nil ?_))))
 exact d_get2 hu I3 g ry rz fun w' s4 I4 rw'=>⟨_,H3,I4,rw',q3⟩
end
section
variable {X:Cx} {pins:List (Addr × Obj)} {σ:St} {H:Hp} {s:Shared} {a:Addr} {kvs:List (Key × V)} {A:Around} {E:Value→Shared→Prop}
theorem d_copyOf {Q:Value→Shared→Prop} (I:Inv X pins σ H s) (e:Rd H a (.dK kvs)) (h:∀ p s',H p=none→Inv X pins σ (upd H p (.dK kvs)) s'→Q (.ref p) s'):wpAny (model X.prog X.w) A (call (.type "dict") [.ref a]) Q E s:=by
 obtain ⟨z,hd,vs,rel,dd⟩:=dk_rd I.hok e
 refine kt_call_dict hd dd (by rw [← rel.length];exact z) fun h' dd' hs=>?_
 refine h _ _ (I.hok.fresh (Nat.le_refl _)) (I.laid (a:=s.heap.objs.size) (o:=.dK kvs) (t':=s.toks) (fun b q hq=>?_) (Nat.le_refl _) (dk_new z (beq_eq_false_iff_ne.mpr (Ne.symm (Nat.ne_of_lt I.big))) rel dd'))
 exact (hs.2 b (Nat.ne_of_lt (Heap.lt_size hq))).trans (Heap.get?_push_of_some _ hq)
end
section
variable {X:Cx} {pins:List (Addr × Obj)} {σ:St} {H:Hp} {s:Shared} {a:Addr} {y:V} {u:Value} {A:Around} {E:Value→Shared→Prop}
end
end L2
namespace L2
open PySem PySem.Spec PyProof.Rows
section
variable {X:Cx}
end
end L2
namespace L2
open PySem PySem.Spec PyProof.Rows
section
variable {κ:Type} [DecidableEq κ]
theorem valV_not {kvs:List (κ × V)} {k:κ} (h:valV kvs k=none):¬ k∈kvs.map (·.1):=by
 intro m
 obtain ⟨p,hp,e⟩:=List.mem_map.mp m
 have q:(kvs.any fun kv=>decide (kv.1=k))=true:=List.any_eq_true.mpr ⟨p,hp,decide_eq_true e⟩
 rw [valV_any,h] at q
 exact absurd q (by simp)
theorem valV_in {kvs:List (κ × V)} {k:κ} {v:V} (h:valV kvs k=some v):k∈kvs.map (·.1):=by
 have q:(kvs.any fun kv=>decide (kv.1=k))=true:=by
  rw [valV_any,h]
  all_goals rfl
 obtain ⟨p,hp,e⟩:=List.any_eq_true.mp q
 exact List.mem_map.mpr ⟨p,hp,of_decide_eq_true e⟩
theorem dropK_pos {p:κ × V} {r:List (κ × V)} {k:κ} (e:p.1=k):dropK (p::r) k=dropK r k:=by
 unfold dropK
 rw [List.filter_cons,if_neg (by simp [e])]
theorem dropK_neg {p:κ × V} {r:List (κ × V)} {k:κ} (e:¬ p.1=k):dropK (p::r) k=p::dropK r k:=by
 unfold dropK
 rw [List.filter_cons,if_pos (by simp [e])]
theorem dropK_no:∀ {kvs:List (κ × V)} {k:κ},¬ k∈kvs.map (·.1)→dropK kvs k=kvs
 | [],_,_=>rfl
 | p::r,k,h=>by
  have h':¬ k∈r.map (·.1):=fun m=>by
   obtain ⟨q,hq,e⟩:=List.mem_map.mp m
   exact h (List.mem_map.mpr ⟨q,List.mem_cons.mpr (Or.inr hq),e⟩)
  rw [dropK_neg fun e=>h (List.mem_map.mpr ⟨p,List.mem_cons.mpr (Or.inl rfl),e⟩),dropK_no h']
theorem dropK_mem {kvs:List (κ × V)} {k:κ} {p:κ × V} (h:p∈dropK kvs k):p∈kvs:=(List.mem_filter.mp h).1
end
end L2
namespace L2
open PySem PySem.Spec PyProof.Rows
section
variable {X:Cx}
def PTs (X:Cx) (ifs:List Expr) (t:TT):Prop:=
 ∀ (pins:List (Addr × Obj)) (s:Shared) (σ:St) (H:Hp) (Q:Bool→Hp→Prop),Inv X pins σ H s→t σ H Q→
  wpAny (model X.prog X.w) X.A (forIn ifs true fun c r=>if r=true then do let ok ← isTrue c X.env (eval c X.env);pure (ForInStep.yield ok) else pure (ForInStep.yield r)) (TP X pins σ Q) X.xe s
def tYes:TT:=fun _ H Q=>Q true H
theorem pts_nil:PTs X [] tYes:=fun pins s σ H Q I h=>wpAny_tests_nil ⟨H,I,h⟩
theorem pts_one {c:Expr} {t:TT} (h:PT X c t):PTs X [c] t:=fun pins s σ H Q I q=>wpAny_tests_one (h pins s σ H Q I q)
def ClSub (X:Cx):List (Str × Addr)→Prop
 | []=>True
 | p::r=>X.env.cells.lookup p.1=some p.2∧ClSub X r
theorem ClSub.at:∀ {cl:List (Str × Addr)},ClSub X cl→∀ y c,cl.lookup y=some c→X.env.cells.lookup y=some c
 | [],_,y,c,e=>by simp at e
 | (z,d)::r,h,y,c,e=>by
  by_cases q:y=z
  ·subst q
   simp at e
   subst e
   exact h.1
  ·rw [List.lookup_cons,beq_eq_false_iff_ne.mpr q] at e
   exact ClSub.at h.2 y c e
theorem lookup_has {cl:List (Str × Addr)} {y:Str}:y∈cl.map (·.1)→∃ c,cl.lookup y=some c:=by
 induction cl with
 | nil=>intro h;simp at h
 | cons p r ih=>
  intro h
  by_cases q:y=p.1
  ·subst q
   exact ⟨p.2,by cases p;simp⟩
  ·obtain ⟨c,e⟩:=ih (by
    rcases List.mem_cons.mp h with z | z
    ·exact absurd z q
    ·exact z)
   exact ⟨c,by rw [List.lookup_cons,beq_eq_false_iff_ne.mpr q];exact e⟩
theorem relabel_names {scope:Scope} {env:Env} {z:Str} {k:NameKind} (h:(z,k)∈(relabel scope env).names) (hk:k=.cell∨k=.free):(z,NameKind.cell)∈scope.names∨(z,NameKind.free)∈scope.names:=by
 unfold relabel at h
 obtain ⟨⟨n,k'⟩,hm,e⟩:=List.mem_map.mp h
 dsimp only at e
 split at e
 ·rename_i c
  cases e
  have:k'=.free:=by
   have:=(Bool.and_eq_true_iff.mp (Bool.and_eq_true_iff.mp c).1).1
   simpa using this
  subst this
  exact .inr hm
 ·cases e
  rcases hk with rfl | rfl
  ·exact .inl hm
  ·exact .inr hm
theorem Clos.many {scope:Scope} {cl:List (Str × Addr)} {ys:List Str} (h:closureFor scope X.env=pure cl) (hs:ClSub X cl) (hy:cl.map (·.1)=ys)
  (hr:∀ p∈scope.names,(p.2=.cell∨p.2=.free)→p.1∈ys):Clos X scope cl:=by
 refine ⟨h,fun y c e=>hs.at y c e,fun y hz=>lookup_has ?_⟩
 rw [hy]
 rcases hz with q | q
 ·rcases relabel_names (PySem.mem_of_lookup q) (.inl rfl) with m | m
  ·exact hr _ m (.inl rfl)
  ·exact hr _ m (.inr rfl)
 ·rcases relabel_names (PySem.mem_of_lookup q) (.inr rfl) with m | m
  ·exact hr _ m (.inl rfl)
  ·exact hr _ m (.inr rfl)
def RdAll (X:Cx) (scope:Scope):List Str→List Nat→Prop
 | [],[]=>True
 | y::ys,j::js=>(X.N[j]?=some y∧X.env.scope.names.lookup y=some .cell∧(relabel scope X.env).names.lookup y=some .cell)∧RdAll X scope ys js
 | _,_=>False
theorem RdAll.len {scope:Scope}:∀ {ys:List Str} {js:List Nat},RdAll X scope ys js→js.length=ys.length
 | [],[],_=>rfl
 | y::ys,j::js,h=>by rw [List.length_cons,List.length_cons,RdAll.len h.2]
theorem RdAll.at {scope:Scope}:∀ {ys:List Str} {js:List Nat},RdAll X scope ys js→∀ (i:Nat) (y:Str) (j:Nat),ys[i]?=some y→js[i]?=some j→X.N[j]?=some y∧X.env.scope.names.lookup y=some .cell∧(relabel scope X.env).names.lookup y=some .cell
 | [],[],_,i,y,j,e,_=>by simp at e
 | y'::ys,j'::js,h,0,y,j,e1,e2=>by
  simp at e1 e2
  subst e1 e2
  exact h.1
 | y'::ys,j'::js,h,i+1,y,j,e1,e2=>RdAll.at h.2 i y j (by simpa using e1) (by simpa using e2)
theorem Reads.many {scope:Scope} {ys:List Str} {js:List Nat} (h:RdAll X scope ys js):Reads X scope ys (fun σ=>js.map fun j=>σ.getD j Option.none):=by
 refine fun σ=>⟨by rw [List.length_map,h.len],fun i y v e1 e2=>?_⟩
 rw [List.getElem?_map] at e2
 cases q:js[i]? with
 | none=>rw [q] at e2;cases e2
 | some j=>
  rw [q] at e2
  obtain ⟨h1,h2,h3⟩:=h.at i y j e1 q
  refine ⟨j,h1,?_,h2,h3⟩
  have e3:σ.getD j Option.none=some v:=Option.some.inj e2
  rw [List.getD_eq_getElem?_getD] at e3
  cases z:σ[j]? with
  | none=>rw [z] at e3;cases e3
  | some o=>rw [z] at e3;exact congrArg some e3
def tCompG (k:Nat) (wi:TI) (g:TG) (tc:TT) (te:TE) (sel:St→St):TE:=fun σ H Q=>wi σ H fun J H1=>∀ l,H1 l=none→∃ W:Nat→Nat→Hp→Prop,(∃ m,W 0 m (upd H1 l (.lst [])))∧∀ i m H,W i m H→
 (J.stop i H∧Q (.ref l) H)∨(J.go i H∧∀ x H',J.yld i H x H'→∀ zs:St,zs.length=k→g x (zs++sel σ) H' fun σ2 H2=>(∃ zs':St,zs'.length=k∧σ2=zs'++sel σ)∧tc σ2 H2 fun b H3=>if b=true then te σ2 H3 fun y H4=>∃ ys,H4 l=some (.lst ys)∧ys.length<sizeLine∧∃ m',m'<m∧W (i+1) m' (upd H4 l (.lst (ys++[y]))) else ∃ m',m'<m∧W (i+1) m' H3)
theorem codeAny_compLoop_ownG {prog:Program} {w:World} {A:Around} {R:Result→Shared→Prop} {s:Shared} {elt target iter:Expr} {ifs:List Expr} {scope:Scope} {pos:Pos} {it acc:Value} {env:Env} (I:Nat→Shared→Prop)
  (turn:∀ n s,I n s→wpAny (model prog w) A (pyNext it) (fun r s₁=>match r with
   | none=>R (.ok .next) s₁
   | some v=>wpAny (model prog w) A (letOwnedTupleGo target it v) (fun _ s₁'=>wpAny (model prog w) A (assign target env v) (fun _ s₂=>
     wpAny (model prog w) A (forIn ifs true fun c r=>if r=true then do let ok ← isTrue c env (eval c env);pure (ForInStep.yield ok) else pure (ForInStep.yield r)) (fun ok s₃=>if ok=true then wpAny (model prog w) A (eval elt env) (fun x s₄=>
      wpAny (model prog w) A (call (.builtin "list.append") [acc,x]) (fun _ s₅=>∃ m,m<n∧I m s₅) (fun _ _=>False) s₄) (fun _ _=>False) s₃ else ∃ m,m<n∧I m s₃) (fun _ _=>False) s₂) (fun _ _=>False) s₁') (fun _ _=>False) s₁) (fun _ _=>False) s)
  (n:Nat) (h:I n s) :
  codeAny (model prog w) A (.compLoop (.ListComp elt [⟨target,iter,ifs,0⟩] scope pos) 0 it acc env) R s:=by
 refine codeAny_loop rfl I (fun n s hI=>?_) n h
 show wpAny _ _ ((compTurn (.ListComp elt [⟨target,iter,ifs,0⟩] scope pos) 0 it acc env).onRaise (fun x=>do noteFrame x env;theTreesLotGoes x)) _ _ s
 refine wpAny_noted ?_
 rw [compTurn_list]
 refine wpAny_bind (wpAny_standAt (wpAny_bind (wpAny_mono (turn n s hI) (fun r s₁ h₁=>?_) fun _ _ h'=>h'.elim)))
 cases r with
 | none=>exact wpAny_pure h₁
 | some v=>
  refine wpAny_bind (wpAny_mono h₁ (fun _ s₁' h₁'=>?_) fun _ _ h'=>h'.elim)
  refine wpAny_bind (wpAny_mono h₁' (fun _ s₂ h₂=>wpAny_bind (wpAny_mono h₂ (fun ok s₃ h₃=>?_) fun _ _ h'=>h'.elim)) fun _ _ h'=>h'.elim)
  cases ok with
  | false=>exact wpAny_pure ⟨rfl,h₃⟩
  | true=>exact wpAny_bind (wpAny_bind (wpAny_mono h₃ (fun x s₄ h₄=>wpAny_bind (wpAny_mono h₄ (fun _ s₅ h₅=>wpAny_pure (wpAny_pure ⟨rfl,h₅⟩)) fun _ _ h'=>h'.elim)) fun _ _ h'=>h'.elim))
theorem comp_blockG {elt iter tg:Expr} {ifs:List Expr} {xs:List Str} {pos:Pos} {scope:Scope} {cl:List (Str × Addr)} {rest:List Str} {sel:St→St} {g:TG} {tc:TT} {te:TE} {pins:List (Addr × Obj)} {σ:St} {H:Hp} {s:Shared} {Q:VK}
  {it:Addr} {fp:List Addr} {tn:Nat→Heap→Prop} {J:It} {RR:Value→Addr→Result→Shared→Prop} {E:Value→Shared→Prop}
  (hcalm:X.calm=true) (hkind:scope.kind=.function) (hcell:∀ z∈scope.names,z.2≠.cell) (hc:Clos X scope cl) (hr:Reads X scope rest sel)
  (hg:∀ (C:Addr) (s:Shared) (H:Hp),PG (cxComp X pins (xs++rest) scope cl C fp s H) tg g) (ht:∀ (C:Addr) (s:Shared) (H:Hp),PTs (cxComp X pins (xs++rest) scope cl C fp s H) ifs tc)
  (he:∀ (C:Addr) (s:Shared) (H:Hp),PE (cxComp X pins (xs++rest) scope cl C fp s H) elt te)
  (I:Inv X pins σ H s) (T:Turn X.prog X.w X.K tg J fp it tn) (t0:tn 0 s.heap) (hf:∀ b∈fp,FpOk X pins H b)
  (h:∀ l,H l=none→∃ W:Nat→Nat→Hp→Prop,(∃ m,W 0 m (upd H l (.lst [])))∧∀ i m H,W i m H→
   (J.stop i H∧Q (.ref l) H)∨(J.go i H∧∀ x H',J.yld i H x H'→∀ zs:St,zs.length=xs.length→g x (zs++sel σ) H' fun σ2 H2=>(∃ zs':St,zs'.length=xs.length∧σ2=zs'++sel σ)∧tc σ2 H2 fun b H3=>if b=true then te σ2 H3 fun y H4=>∃ ys,H4 l=some (.lst ys)∧ys.length<sizeLine∧∃ m',m'<m∧W (i+1) m' (upd H4 l (.lst (ys++[y]))) else ∃ m',m'<m∧W (i+1) m' H3))
  (hRR:∀ (D C:Addr) (H':Hp) (s':Shared),Inv X pins σ H' s'→FpOk X pins H' C→(∃ m,s'.heap.Ns C m)→Q (.ref D) H'→RR (.ref D) C (.ok .next) s') :
  wpAny (model X.prog X.w) X.A (newList []) (fun acc s₃=>wpAny (model X.prog X.w) X.A (newFunctionEnv scope X.env.globals cl [] X.env.qual none .none (some X.env)) (fun cenv s₄=>
   codeAny (model X.prog X.w) X.A (.compStart (.ListComp elt [⟨tg,iter,ifs,0⟩] scope pos) 0 (.ref it) acc { cenv with scope:=relabel scope X.env }) (RR acc cenv.locals) s₄) E s₃) E s:=by
 have hD:H s.heap.objs.size=none:=I.hok.fresh (Nat.le_refl _)
 obtain ⟨W,⟨m0,w0⟩,turn⟩:=h _ hD
 refine wpAny_newObj_type ?_
 have I3:Inv X pins σ (upd H s.heap.objs.size (.lst [])) { s with heap:=s.heap.push { cls:=.type "list",dict:=none,data:=.seq ([]:List Value).toArray } }:=
  I.laid (t':=s.toks) (fun b u e=>Heap.get?_push_of_some _ e) (Nat.le_refl _) ⟨Nat.zero_le _,[],0,.nil,Heap.get?_push_size _ rfl⟩
 generalize hs3:({ s with heap:=s.heap.push { cls:=.type "list",dict:=none,data:=.seq ([]:List Value).toArray } }:Shared)=s3 at I3 ⊢
 have old3:∀ b o,s.heap.get? b=some o→s3.heap.get? b=some o:=fun b o e=>by rw [← hs3];exact Heap.get?_push_of_some _ e
 refine wpAny_newFunctionEnv hcell (by intro y hy;simp at hy) (fun h1 hns1 hsb1=>?_) hkind
 have old4:∀ b o,s3.heap.get? b=some o→h1.get? b=some o:=fun b o e=>hsb1.extBut b o (Nat.ne_of_lt (Heap.lt_size e)) (Heap.get?_push_of_some _ e)
 have fD:∀ b∈fp,b≠s.heap.objs.size:=fun b hb z=>by
  obtain ⟨o,e,_⟩:=T.obj 0 _ t0 b hb
  exact absurd (Heap.lt_size e) (by rw [z];exact Nat.lt_irrefl _)
 have hf3:∀ b∈fp,FpOk X pins (upd H s.heap.objs.size (.lst [])) b:=fun b hb=>⟨by rw [upd_ne (fD b hb)];exact (hf b hb).1,(hf b hb).2⟩
 have fC:∀ b∈fp,b≠s3.heap.objs.size:=fun b hb z=>by
  obtain ⟨o,e,_⟩:=T.obj 0 _ t0 b hb
  exact absurd (Heap.lt_size (old3 b o e)) (by rw [z];exact Nat.lt_irrefl _)
 have cC:∀ y c,cl.lookup y=some c→c≠s3.heap.objs.size:=fun y c e z=>by
  obtain ⟨v,q⟩:=I3.cell y c (hc.sub y c e)
  exact absurd q.lt (by rw [z];exact Nat.lt_irrefl _)
 have fstk:∀ b∈fp,b ∉ frs X.stack:=fun b hb z=>(List.mem_cons.mp (I3.stkSub b z)).elim (hf b hb).2.1 (hf b hb).2.2.1
 have ok:(cxComp X pins (xs++rest) scope cl s3.heap.objs.size fp s3 (upd H s.heap.objs.size (.lst []))).Ok:=by
  refine ⟨I.ok.mod,hkind,I.ok.glob,I.ok.blt,Nat.le_refl _,fun y z c e1 e2=>I.ok.inj y z c (hc.sub y c e1) (hc.sub z c e2),fun y hy=>hc.has y hy,fun y c e=>(nomatch e),I.ok.hd,I.ok.frames,.inl rfl,fun b hb=>⟨fC b hb,fun y c e=>(hf b hb).2.2.2.2.1 y c (hc.sub y c e)⟩,
   I3.bs,Nat.le_trans I.ok.bsz I3.sz,fun b o e hb=>?_,fstk,I3.stack,I3.stkFree⟩
  rcases (hf b hb).2.2.2.1 with z | z
  ·exact I.ok.noex b o e z
  ·exact absurd (Nat.lt_of_lt_of_le (Heap.lt_size e) I.ok.bsz) (Nat.not_lt.mpr z)
 have I4:Inv (cxComp X pins (xs++rest) scope cl s3.heap.objs.size fp s3 (upd H s.heap.objs.size (.lst []))) [] (xs.map (fun _=>none)++sel σ) (upd H s.heap.objs.size (.lst [])) { s3 with heap:=h1,toks:=s3.toks+([]:List (Str × Value)).length }:=by
  refine ⟨ok,rfl,I3.bare,Un.kept old4,⟨_,hns1,fun i y v e1 e2 e3=>?_⟩,fun y c e=>?_,I3.hok.fresh (Nat.le_refl _),fun y c e=>I3.freeC y c (hc.sub y c e),fun p hp=>?_,I3.hok.kept old4,?_⟩
  ·have hge:xs.length≤i:=by
    apply Classical.byContradiction
    intro hlt
    rw [List.getElem?_append_left (by rw [List.length_map];omega),List.getElem?_map] at e2
    cases q:xs[i]? with
    | none=>rw [q] at e2;cases e2
    | some z=>rw [q] at e2;cases e2
   have e1':rest[i-xs.length]?=some y:=by
    have e1:(xs++rest)[i]?=some y:=e1
    rw [List.getElem?_append_right hge] at e1
    exact e1
   have e2':(sel σ)[i-xs.length]?=some (some v):=by
    rw [List.getElem?_append_right (by rw [List.length_map];exact hge),List.length_map] at e2
    exact e2
   obtain ⟨j,q1,q2,q3,q4⟩:=(hr σ).2 _ y v e1' e2'
   obtain ⟨m,hn,hl⟩:=I3.loc
   obtain ⟨u,r,l⟩:=hl j y v q1 q2 (.inr (.inl q3))
   refine ⟨u,r,.inr ⟨.inl q4,?_⟩⟩
   obtain ⟨c,ec⟩:=hc.has y (.inl q4)
   refine ⟨c,ec,?_⟩
   rcases l with ⟨k,_⟩ | ⟨_,c',e',z⟩
   ·have k':X.env.scope.names.lookup y=some .local:=k
    rw [q3] at k';cases k'
   ·rw [hc.sub y c ec] at e'
    cases e'
    obtain ⟨o,ho,hd⟩:=z
    exact ⟨o,old4 c o ho,hd⟩
  ·obtain ⟨v,o,ho,hd⟩:=I3.cell y c (hc.sub y c e)
   exact ⟨v,o,old4 c o ho,hd⟩
  ·have hp':p∈X.pn++pins:=by simpa [cxComp] using hp
   obtain ⟨e,n,ne,nf,d⟩:=I3.pin p hp'
   exact ⟨old4 _ _ e,n,Nat.ne_of_lt (Heap.lt_size e),fun z=>(List.mem_cons.mp (I3.stkSub _ z)).elim ne nf,d⟩
  ·show (xs.map (fun _=>none)++sel σ).length=(xs++rest).length
   rw [List.length_append,List.length_append,List.length_map,(hr σ).1]
 have stat:∀ {H':Hp},(∀ b∈fp,H' b=none)→∀ b∈fp,FpOk (cxComp X pins (xs++rest) scope cl s3.heap.objs.size fp s3 (upd H s.heap.objs.size (.lst []))) [] H' b:=fun hn b hb=>
  ⟨hn b hb,fC b hb,fstk b hb,.inl hb,fun y c e=>(hf b hb).2.2.2.2.1 y c (hc.sub y c e),fun p hp=>(hf b hb).2.2.2.2.2 p (by simpa [cxComp] using hp)⟩
 have t4:tn 0 h1:=T.keep _ _ _ t0 fun b hb o e=>old4 b o (old3 b o e)
 have loop:∀ s4:Shared,s4 = { s3 with heap:=h1,toks:=s3.toks+([]:List (Str × Value)).length }→
   codeAny (model X.prog X.w) X.A (.compLoop (.ListComp elt [⟨tg,iter,ifs,0⟩] scope pos) 0 (.ref it) (.ref s.heap.objs.size) (compEnvC scope cl s3.heap.objs.size X.env)) (RR (.ref s.heap.objs.size) s3.heap.objs.size) s4:=by
  rintro s4 rfl
  refine codeAny_compLoop_ownG (fun n s'=>∃ i zs H',zs.length=xs.length∧Inv (cxComp X pins (xs++rest) scope cl s3.heap.objs.size fp s3 (upd H s.heap.objs.size (.lst []))) [] (zs++sel σ) H' s'∧tn i s'.heap∧(∀ b∈fp,H' b=none)∧W i n H') ?_ m0
   ⟨0,_,_,List.length_map _,I4,t4,fun b hb=>(hf3 b hb).1,w0⟩
  rintro n s5 ⟨i,zs,H5,hzs,I5,t5,f5,w5⟩
  rcases turn i n H5 w5 with ⟨stop,qn⟩ | ⟨go,step⟩
  ·refine thn (T.done (cxComp X pins (xs++rest) scope cl s3.heap.objs.size fp s3 (upd H s.heap.objs.size (.lst []))) rfl rfl rfl hcalm i [] s5 _ H5 _ I5 (stat f5) t5 stop) fun r s6 ⟨er,I6⟩=>?_
   subst er
   have J6:Inv X pins σ H5 s6:=I3.call' (ch:=fp) I6.os I6.base I6.hok I6.bare fun b hb=>⟨(hf b hb).2.2.2.1,(hf b hb).2.1,(hf b hb).2.2.2.2.1,(hf b hb).2.2.2.2.2⟩
   exact hRR _ _ H5 s6 J6 (I3.fpOk (Nat.le_refl _) I6.free) (let ⟨m,hn,_⟩:=I6.loc;⟨m,hn⟩) qn
  ·refine thn (T.item (cxComp X pins (xs++rest) scope cl s3.heap.objs.size fp s3 (upd H s.heap.objs.size (.lst []))) rfl rfl rfl hcalm i [] s5 _ H5 _ I5 (stat f5) t5 go) fun r s6 ⟨u,er,h6⟩=>?_
   subst er
   refine thn h6 fun _ s7 ⟨y,H7,I7,r7,y7,t7,f7⟩=>?_
   have I7':=I7.pinned (stat f7) (T.obj _ _ t7)
   refine thn (hg _ _ _ _ s7 _ H7 y u _ I7' r7 (step y H7 y7 zs hzs)) fun _ s8 ⟨σ8,H8,I8,⟨zs',hz',e8⟩,q8⟩=>?_
   subst e8
   refine thn (ht _ _ _ _ s8 _ H8 _ I8 q8) fun b s9 ⟨H9,I9,q9⟩=>?_
   cases b with
   | false=>
    rw [if_neg Bool.false_ne_true] at q9 ⊢
    obtain ⟨m',hm,w9⟩:=q9
    refine ⟨m',hm,i+1,zs',_,hz',I9.unpinned,T.keep _ _ _ t7 fun b hb o e=>(I9.pin (b,o) (List.mem_append_right _ (List.mem_append_right _ (mem_pinsAt hb e)))).1,fun b hb=>?_,w9⟩
    obtain ⟨o,e,d⟩:=T.obj _ _ t7 b hb
    exact (I9.pin (b,o) (List.mem_append_right _ (List.mem_append_right _ (mem_pinsAt hb e)))).2.1
   | true=>
    rw [if_pos rfl] at q9 ⊢
    refine thn (he _ _ _ _ s9 _ H9 _ I9 q9) fun z s9 ⟨yv,H9,I9,r9,ys,hl,hz,m',hm,w9⟩=>?_
    refine thn (mt_append (X:=cxComp X pins (xs++rest) scope cl s3.heap.objs.size fp s3 (upd H s.heap.objs.size (.lst []))) _ s9 _ H9 (.ref s.heap.objs.size) [yv] (.ref s.heap.objs.size) [z]
     (fun v H'=>H'=upd H9 s.heap.objs.size (.lst (ys++[yv]))) I9 rfl (.cons r9 .nil) ⟨_,ys,yv,rfl,rfl,hl,hz,rfl⟩) fun _ s10 ⟨v10,H10,I10,_,e10⟩=>?_
    subst e10
    refine ⟨m',hm,i+1,zs',_,hz',I10.unpinned,T.keep _ _ _ t7 fun b hb o e=>(I10.pin (b,o) (List.mem_append_right _ (List.mem_append_right _ (mem_pinsAt hb e)))).1,fun b hb=>?_,w9⟩
    obtain ⟨o,e,d⟩:=T.obj _ _ t7 b hb
    exact (I10.pin (b,o) (List.mem_append_right _ (List.mem_append_right _ (mem_pinsAt hb e)))).2.1
 exact codeAny_compStart_list (loop _ rfl) (T.self _ 0 _ _ _ t4 (loop _ rfl))
theorem pe_compG {elt iter tg:Expr} {ifs:List Expr} {xs:List Str} {pos:Pos} {scope:Scope} {cl:List (Str × Addr)} {rest:List Str} {sel:St→St} {g:TG} {tc:TT} {te:TE} {wi:TI}
  (hcalm:X.calm=true) (hi:PI X tg iter wi) (hg:∀ (pins:List (Addr × Obj)) (fp:List Addr) (C:Addr) (s:Shared) (H:Hp),PG (cxComp X pins (xs++rest) scope cl C fp s H) tg g) (ht:∀ (pins:List (Addr × Obj)) (fp:List Addr) (C:Addr) (s:Shared) (H:Hp),PTs (cxComp X pins (xs++rest) scope cl C fp s H) ifs tc)
  (he:∀ (pins:List (Addr × Obj)) (fp:List Addr) (C:Addr) (s:Shared) (H:Hp),PE (cxComp X pins (xs++rest) scope cl C fp s H) elt te)
  (hc:Clos X scope cl) (hr:Reads X scope rest sel) (hkind:scope.kind=.function:=by rfl) (hcell:∀ z∈scope.names,z.2≠.cell:=by decide +kernel) (hnames:∀ z∈scope.names,z.2=.local→scope.names.lookup z.1=some .local:=by decide +kernel)
  (hs:∀ x,foldedSetIterable iter X.env x=pure x:=by intro _;rfl) :
  PE X (.ListComp elt [⟨tg,iter,ifs,0⟩] scope pos) (tCompG xs.length wi g tc te sel):=by
 intro pins s σ H Q I h
 rw [eval_ListComp]
 refine wpAny_comprehension_free (use:=none) rfl hs hc.clos hkind hnames (thn (hi pins s σ H _ I h) fun v s1 h1=>thn h1 fun itv s2 h2=>?_)
 obtain ⟨it,fp,tn,J,H2,rfl,I2,T,t2,f2,q2⟩:=h2
 refine comp_blockG (RR:=fun acc C=>compPost (model X.prog X.w) X.A X.xe none (EP X pins σ Q) acc C) hcalm hkind hcell hc hr (hg pins fp) (ht pins fp) (he pins fp) I2 T t2 f2 q2 fun D C H' s' I' fC ⟨m,hn⟩ q=>?_
 exact ⟨m,hn,fun h' sb=>⟨.ref D,H',I'.turned (t':=s'.toks) (fun b o hb e=>(sb.2 b hb).trans e) fC.1 fC.2.1 fC.2.2.2.1 fC.2.2.2.2.1 fC.2.2.2.2.2,rfl,q⟩⟩
theorem ps_compG {i:Nat} {y:Str} {py spos:Pos} {elt iter tg:Expr} {ifs:List Expr} {xs:List Str} {pos:Pos} {scope:Scope} {cl:List (Str × Addr)} {rest:List Str} {sel:St→St} {g:TG} {tc:TT} {te:TE} {wi:TI}
  (hNX:X.N.Nodup) (hi':X.N[i]?=some y) (hy:X.env.scope.names.lookup y=some .local)
  (hcalm:X.calm=true) (hi:PI X tg iter wi) (hg:∀ (pins:List (Addr × Obj)) (fp:List Addr) (C:Addr) (s:Shared) (H:Hp),PG (cxComp X pins (xs++rest) scope cl C fp s H) tg g) (ht:∀ (pins:List (Addr × Obj)) (fp:List Addr) (C:Addr) (s:Shared) (H:Hp),PTs (cxComp X pins (xs++rest) scope cl C fp s H) ifs tc)
  (he:∀ (pins:List (Addr × Obj)) (fp:List Addr) (C:Addr) (s:Shared) (H:Hp),PE (cxComp X pins (xs++rest) scope cl C fp s H) elt te)
  (hc:Clos X scope cl) (hr:Reads X scope rest sel) (hkind:scope.kind=.function:=by rfl) (hcell:∀ z∈scope.names,z.2≠.cell:=by decide +kernel) (hnames:∀ z∈scope.names,z.2=.local→scope.names.lookup z.1=some .local:=by decide +kernel)
  (hs:∀ x,foldedSetIterable iter X.env x=pure x:=by intro _;rfl)
  (hsw:swapsWith (.ListComp elt [⟨tg,iter,ifs,0⟩] scope pos) (some (.Name y py)) spos.line X.env=pure true:=by rfl) :
  PS X (.Assign [.Name y py] (.ListComp elt [⟨tg,iter,ifs,0⟩] scope pos) spos) (tAsg (tCompG xs.length wi g tc te sel) (gName i)):=by
 intro pins s σ H D I h
 rw [exec_Assign_Name_used _ _ _ _ hsw]
 refine wpAny_bind (wpAny_standAt (wpAny_bind ?_))
 show wpAny _ X.A (do let _ ← comprehension (.ListComp elt [⟨tg,iter,ifs,0⟩] scope pos) scope X.env _ (newList []) false (eval iter X.env) (some (assign (.Name y py) X.env))) _ _ s
 refine wpAny_bind (wpAny_mono (wpAny_comprehension_free (use:=some (assign (.Name y py) X.env)) (Q:=fun _ s'=>SP X pins D .next s') rfl hs hc.clos hkind hnames
  (thn (hi pins s σ H _ I h) fun v s1 h1=>thn h1 fun itv s2 h2=>?_)) (fun _ s' hq=>wpAny_pure (wpAny_pure hq)) fun _ _ e=>e)
 obtain ⟨it,fp,tn,J,H2,rfl,I2,T,t2,f2,q2⟩:=h2
 refine comp_blockG (Q:=fun x H1=>gName i x σ H1 D.nx) (RR:=fun acc C=>compPost (model X.prog X.w) X.A X.xe (some (assign (.Name y py) X.env)) (fun _ s'=>SP X pins D .next s') acc C) hcalm hkind hcell hc hr (hg pins fp) (ht pins fp) (he pins fp) I2 T t2 f2 q2 fun L C H' s' I' fC ⟨m,hn⟩ q=>?_
 show wpAny _ X.A (assign (.Name y py) X.env (.ref L)) _ _ _
 refine wpAny_assign_Name (store_ok2 I' hNX hi' (.inl hy) (v:=.ref L) rfl (fun s2 I2' ⟨a,sb,ha⟩=>?_) (.inr hy))
 have hCa:C≠a:=fun z=>by
  rcases ha with z' | z'
  ·exact fC.2.1 (z.trans z')
  ·exact fC.2.2.2.2.1 y a z' z.symm
 exact ⟨m,hn.sameBut sb hCa,fun h' sb'=>⟨_,H',I2'.turned (t':=s2.toks) (fun b o hb e=>(sb'.2 b hb).trans e) fC.1 fC.2.1 fC.2.2.2.1 fC.2.2.2.2.1 fC.2.2.2.2.2,q⟩⟩
end
end L2
namespace L2
open PySem PySem.Spec PyProof.Rows
section
variable {X:Cx} {pins:List (Addr × Obj)} {σ:St} {H:Hp} {s:Shared} {a:Addr} {o:Obj} {u:HO}
theorem Inv.freeze (I:Inv X pins σ H s) (ha:H a=some u) (mu:Mut (some u)) (ho:s.heap.get? a=some o):Inv X pins σ (upd H a (.frz o u)) s:=by
 have mu':Mut (H a):=by rw [ha];exact mu
 have nown:∀ c y,H c=some (.own y)→c≠a:=fun c y r z=>by subst z;rw [r] at mu';exact mu'
 have ntup:∀ c xs,H c=some (.tup xs)→c≠a:=fun c xs r z=>by subst z;rw [r] at mu';exact mu'
 refine I.un (t':=s.toks) (Un.write (x:=a) (e:=a) mu' (.inl rfl) (fun _ _ _ q=>q) ⟨o,ho⟩) (I.hok.write (x:=a) (e:=a) mu' (.inl rfl) (fun _ _ _ q=>q) ⟨o,ho⟩ ⟨ho,?_⟩)
 exact (I.hok a u ha).stay (fun _ _ _ q=>q) (fun c r=>by rw [upd_ne (nown c a r)];exact r) fun c xs r=>by rw [upd_ne (ntup c xs r)];exact r
theorem Inv.thaw (I:Inv X pins σ H s) (ha:H a=some (.frz o u)) (h0:∀ o' u',X.H₀ a≠some (.frz o' u')):Inv X pins σ (upd H a u) s:=by
 have nown:∀ c y,H c=some (.own y)→c≠a:=fun c y r z=>by subst z;rw [r] at ha;cases ha
 have ntup:∀ c xs,H c=some (.tup xs)→c≠a:=fun c xs r z=>by subst z;rw [r] at ha;cases ha
 have nn:∀ c,H c=none→c≠a:=fun c r z=>by subst z;rw [r] at ha;cases ha
 have up:∀ c,H c=none→upd H a u c=none:=fun c r=>by rw [upd_ne (nn c r)];exact r
 refine ⟨I.ok,I.os,I.bare,⟨I.base.keep,I.base.slot,fun b ob e n hx=>up b (I.base.free b ob e n hx),I.base.there,fun b xs e=>?_,fun b ob z e=>?_,fun b ps e=>?_⟩,I.loc,I.cell,up _ I.free,fun x c e=>up _ (I.freeC x c e),fun p hp=>?_,fun b ob e=>?_,I.len⟩
 ·have q:=I.base.tups b xs e
  rw [upd_ne (ntup b xs q)]
  exact q
 ·have q:=I.base.frzs b ob z e
  have nb:b≠a:=fun z'=>by subst z';exact h0 _ _ e
  rw [upd_ne nb]
  exact q
 ·obtain ⟨m,q⟩:=I.base.tbls b ps e
  have nb:b≠a:=fun z'=>by subst z';rw [q] at ha;cases ha
  exact ⟨m,by rw [upd_ne nb];exact q⟩
 ·obtain ⟨e,n,r⟩:=I.pin p hp
  exact ⟨e,up _ n,r⟩
 ·by_cases hb:b=a
  ·subst hb
   rw [upd_same] at e
   cases e
   obtain ⟨_,q⟩:=I.hok b _ ha
   exact q.stay (fun _ _ _ q=>q) (fun c r=>by rw [upd_ne (nown c b r)];exact r) fun c xs r=>by rw [upd_ne (ntup c xs r)];exact r
  ·rw [upd_ne hb] at e
   exact (I.hok b ob e).stay (fun _ _ _ q=>q) (fun c r=>by rw [upd_ne (nown c b r)];exact r) fun c xs r=>by rw [upd_ne (ntup c xs r)];exact r
theorem Inv.nofrz (I:Inv X pins σ H s) (ha:H a=some u) (nu:∀ o' u',u≠.frz o' u'):∀ o' u',X.H₀ a≠some (.frz o' u'):=fun o' u' e=>by
 have q:=I.base.frzs a o' u' e
 rw [ha] at q
 exact nu _ _ (Option.some.inj q)
def tThaw (t:TE):TE:=fun σ H Q=>∃ a u,H a=some u∧(∀ o' u',u≠.frz o' u')∧t σ H fun v H'=>∃ o,H' a=some (.frz o u)∧Q v (upd H' a u)
def tThawS (t:TS):TS:=fun D σ H=>∃ a u,H a=some u∧(∀ o' u',u≠.frz o' u')∧t { D with nx:=fun σ' H'=>∃ o,H' a=some (.frz o u)∧D.nx σ' (upd H' a u),rt:=fun v H'=>∃ o,H' a=some (.frz o u)∧D.rt v (upd H' a u),ct:=fun σ' H'=>∃ o,H' a=some (.frz o u)∧D.ct σ' (upd H' a u),bk:=fun σ' H'=>∃ o,H' a=some (.frz o u)∧D.bk σ' (upd H' a u) } σ H
theorem ps_thaw {st:Stmt} {t:TS} (h:PS X st t):PS X st (tThawS t):=by
 intro pins s σ H D I q
 obtain ⟨a,u,ha,nu,q⟩:=q
 have hn:=I.nofrz ha nu
 refine thn (h pins s σ H _ I q) fun f s1 q1=>?_
 cases f with
 | next=>obtain ⟨σ1,H1,I1,o,e1,q2⟩:=q1;exact ⟨σ1,_,I1.thaw e1 hn,q2⟩
 | cont=>obtain ⟨σ1,H1,I1,o,e1,q2⟩:=q1;exact ⟨σ1,_,I1.thaw e1 hn,q2⟩
 | brk=>obtain ⟨σ1,H1,I1,o,e1,q2⟩:=q1;exact ⟨σ1,_,I1.thaw e1 hn,q2⟩
 | ret v=>obtain ⟨x,σ1,H1,I1,r1,o,e1,q2⟩:=q1;exact ⟨x,σ1,_,I1.thaw e1 hn,r1,q2⟩
def Itd (a:Addr) (o:Obj) (kvs:List (Key × V)):It:=
 ⟨fun i H=>H a=some (.frz o (.dK kvs))∧i<kvs.length,fun i H x H'=>H'=H∧∃ kv,kvs[i]?=some kv∧x=kV kv.1,fun i H=>H a=some (.frz o (.dK kvs))∧kvs.length≤i⟩
theorem KV.get {κ:Type}:∀ {kvs:List (κ × V)} {vs:List (κ × Value)} {i:Nat} {kv:κ × V},KV kvs vs→kvs[i]?=some kv→∃ v,vs[i]?=some (kv.1,v)∧RelV kv.2 v
 | _,_,_,_,.nil,e=>by simp at e
 | _,_,0,kv,.cons (b:=b) r t,e=>by
  simp at e
  subst e
  exact ⟨b.2,by simp [r.1],r.2⟩
 | _,_,i+1,kv,.cons r t,e=>by
  obtain ⟨v,e',r'⟩:=KV.get (i:=i) t (by simpa using e)
  exact ⟨v,by simpa using e',r'⟩
theorem is_kV {P:Program} {w:World} {k:Key} {u:Value} (h:(mixKind P w).is k u=true):RelV (kV k) u:=by
 rcases keyIs_shape (show keyIs k u=true from h) with ⟨i,t,rfl,rfl⟩ | ⟨x,t,rfl,rfl⟩
 ·exact ⟨t,rfl⟩
 ·exact ⟨t,rfl⟩
theorem turn_dict {P:Program} {w:World} {K:PySem.W.Frag} {tg:Expr} (a it:Addr) (o:Obj) (kvs:List (Key × V)) {es:Array DictEntry} {ep:Nat} (hd:o.data=.dict es ep):Turn P w K tg (Itd a o kvs) [it] it (fun i h=>h.IsKeyIter it a i kvs.length ep) where
 mem:=by simp
 obj:=fun i h st b hb=>by
  have e:b=it:=by simpa using hb
  subst e
  obtain ⟨o,e,c,d⟩:=st
  exact ⟨o,e,fun v z=>by rw [d] at z;cases z⟩
 keep:=fun i h h' st k=>st.at fun o e=>k it (by simp) o e
 item:=by
  intro X hP hw hK hc i pins s σ H E I hf st hg
  subst hP hw hK
  obtain ⟨ha,hi⟩:=hg
  obtain ⟨ho,hz,hs,vs,r,o',es',ep',e1,e2,e3,e4,e5,e6⟩:=I.hok a _ ha
  rw [ho] at e1;cases e1
  rw [hd] at e3;cases e3
  have hx:kvs[i]?=some kvs[i]:=List.getElem?_eq_getElem hi
  obtain ⟨v,hv,rv⟩:=KV.get r hx
  obtain ⟨f0,f1,f2,f3,f4,f5⟩:=hf it (by simp)
  have st0:s.heap.IsKeyIter it a i vs.length ep:=by rw [← r.length];exact st
  refine wpAny_pyNext_dict_item st0 ⟨o,es,ho,e2,hd,e4,e5,e6⟩ hv fun key h' hk st' sb=>?_
  rw [← r.length] at st'
  have I1:Inv X pins σ H { s with heap:=h' }:=I.turned (t':=s.toks) (fun b o hb e=>(sb.2 b hb).trans e) f0 f1 f3 f4 f5
  obtain ⟨oi,e,c,d⟩:=id st'
  exact ⟨key,rfl,go_of (s:={ s with heap:=h' }) e c d (by decide) ⟨kV (kvs[i]).1,H,I1,is_kV hk,⟨rfl,_,hx,rfl⟩,st',fun b hb=>(hf b hb).1⟩⟩
 done:=by
  intro X hP hw hK hc i pins s σ H E I hf st hg
  subst hP hw hK
  obtain ⟨ha,hi⟩:=hg
  obtain ⟨ho,hz,hs,vs,r,o',es',ep',e1,e2,e3,e4,e5,e6⟩:=I.hok a _ ha
  rw [ho] at e1;cases e1
  rw [hd] at e3;cases e3
  obtain ⟨f0,f1,f2,f3,f4,f5⟩:=hf it (by simp)
  have st0:s.heap.IsKeyIter it a i vs.length ep:=by rw [← r.length];exact st
  exact wpAny_pyNext_dict_end (I.ok.hd hc) st0 ⟨o,es,ho,e2,hd,e4,e5,e6⟩ (List.getElem?_eq_none (by rw [← r.length];exact hi)) fun h' eb=>⟨rfl,I.turned (t':=s.toks) (fun b o hb e=>eb b o hb e) f0 f1 f3 f4 f5⟩
 self:=fun _ _ _ _ _ st h=>wpAny_pyIter_keyiter st h
def iDic (tl:TE):TI:=fun σ H R=>tl σ H fun x H1=>∃ a kvs,x=.ref a∧H1 a=some (.dK kvs)∧∀ o,R (Itd a o kvs) (upd H1 a (.frz o (.dK kvs)))
theorem pi_dict {tg l:Expr} {tl:TE} (hl:PE X l tl):PI X tg l (iDic tl):=by
 intro pins s σ H R I h
 refine thn (hl pins s σ H _ I h) fun v s1 ⟨x,H1,I1,r1,q1⟩=>?_
 obtain ⟨a,kvs,e,ha,q⟩:=q1
 subst e
 cases r1
 obtain ⟨hz,hs,vs,r,o,es,ep,e1,e2,e3,e4,e5,e6⟩:=dk_of I1.hok ha
 have I2:Inv X pins σ (upd H1 a (.frz o (.dK kvs))) s1:=I1.freeze ha True.intro e1
 refine wpAny_pyIter_dict hs ⟨o,es,e1,e2,e3,e4,e5,e6⟩ ?_
 refine ⟨s1.heap.objs.size,[s1.heap.objs.size],_,_,_,rfl,I2.kept (t':=s1.toks) fun b o e=>Heap.get?_push_of_some _ e,turn_dict a _ o kvs e3,⟨_,Heap.get?_push_size _ rfl,rfl,by rw [r.length];rfl⟩,fun b hb=>?_,q o⟩
 have e:b=s1.heap.objs.size:=by simpa using hb
 subst e
 exact I2.fpOk (Nat.le_refl _) (I2.hok.fresh (Nat.le_refl _))
end
theorem for_dict {a:Addr} {o:Obj} {kvs:List (Key × V)} {g:TG} {tb:TS} {D:Ends} {σ:St} {H:Hp} (Pv:Nat→St→Hp→Prop) (h0:Pv 0 σ H) (hl:∀ i σ H,i≤kvs.length→Pv i σ H→H a=some (.frz o (.dK kvs)))
  (hs:∀ i kv σ H,kvs[i]?=some kv→Pv i σ H→g (kV kv.1) σ H fun σ2 H2=>tb { D with nx:=Pv (i+1),ct:=Pv (i+1),bk:=D.nx } σ2 H2) (hd:∀ σ H,Pv kvs.length σ H→D.nx σ H) :
  ∃ W:Nat→Nat→St→Hp→Prop,(∃ m,W 0 m σ H)∧∀ i m σ H,W i m σ H→
   ((Itd a o kvs).stop i H∧D.nx σ H)∨((Itd a o kvs).go i H∧∃ N:St→Hp→Prop,(∀ σ' H',N σ' H'→∃ m',m'<m∧W (i+1) m' σ' H')∧∀ x H',(Itd a o kvs).yld i H x H'→g x σ H' fun σ2 H2=>tb { D with nx:=N,ct:=N,bk:=D.nx } σ2 H2):=by
 refine ⟨fun i m σ H=>m=kvs.length-i∧i≤kvs.length∧Pv i σ H,⟨kvs.length,by simp,Nat.zero_le _,h0⟩,?_⟩
 rintro i m σ H ⟨rfl,hi,p⟩
 have q:=hl i σ H hi p
 by_cases hlt:i<kvs.length
 ·refine .inr ⟨⟨q,hlt⟩,Pv (i+1),fun σ' H' p'=>⟨kvs.length-(i+1),by omega,rfl,hlt,p'⟩,fun x H' y=>?_⟩
  obtain ⟨e,kv,hkv,ex⟩:=y
  subst e ex
  exact hs i kv σ _ hkv p
 ·have e:i=kvs.length:=by omega
  subst e
  exact .inl ⟨⟨q,Nat.le_refl _⟩,hd σ H p⟩
end L2
namespace L2
open PySem PySem.Spec PyProof.Rows
def NextP (n:Nat) (Pv:Nat→Hp→Prop) (i:Nat) (H:Hp):Prop:=∃ m',m'<n-i∧m'=n-(i+1)∧i+1≤n∧Pv (i+1) H
theorem nextP {n i:Nat} {Pv:Nat→Hp→Prop} {H:Hp} (hi:i<n) (h:Pv (i+1) H):NextP n Pv i H:=⟨n-(i+1),by omega,rfl,hi,h⟩
section
variable {l:Addr} {k:Nat} {g:TG} {tc:TT} {te:TE} {ρ:St} {R:Hp→Prop} {H₀:Hp}
theorem compG_by {J:It} {n:Nat} (Pv:Nat→Hp→Prop) (h0:Pv 0 (upd H₀ l (.lst []))) (hgo:∀ i H,i<n→Pv i H→J.go i H) (hst:∀ H,Pv n H→J.stop n H)
  (hs:∀ i x H H',i<n→J.yld i H x H'→Pv i H→∀ zs:St,zs.length=k→g x (zs ++ ρ) H' fun σ2 H2=>(∃ zs':St,zs'.length=k∧σ2=zs' ++ ρ)∧tc σ2 H2 fun b H3=>if b=true then te σ2 H3 fun y H4=>∃ ys,H4 l=some (.lst ys)∧ys.length<sizeLine∧NextP n Pv i (upd H4 l (.lst (ys++[y]))) else NextP n Pv i H3)
  (hd:∀ H,Pv n H→R H) :
  ∃ W:Nat→Nat→Hp→Prop,(∃ m,W 0 m (upd H₀ l (.lst [])))∧∀ i m H,W i m H→
   (J.stop i H∧R H)∨(J.go i H∧∀ x H',J.yld i H x H'→∀ zs:St,zs.length=k→g x (zs ++ ρ) H' fun σ2 H2=>(∃ zs':St,zs'.length=k∧σ2=zs' ++ ρ)∧tc σ2 H2 fun b H3=>if b=true then te σ2 H3 fun y H4=>∃ ys,H4 l=some (.lst ys)∧ys.length<sizeLine∧∃ m',m'<m∧W (i+1) m' (upd H4 l (.lst (ys++[y]))) else ∃ m',m'<m∧W (i+1) m' H3):=by
 refine ⟨fun i m H=>m=n-i∧i≤n∧Pv i H,⟨n,by simp,Nat.zero_le _,h0⟩,?_⟩
 rintro i m H ⟨rfl,hi,p⟩
 by_cases hlt:i<n
 ·exact .inr ⟨hgo i H hlt p,fun x H' y=>hs i x H H' hlt y p⟩
 ·have e:i=n:=by omega
  subst e
  exact .inl ⟨hst H p,hd H p⟩
theorem compG_list {K:PySem.W.Frag} {a:Addr} {xs:List V} (Pv:Nat→Hp→Prop) (h0:Pv 0 (upd H₀ l (.lst []))) (hl:∀ i H,Pv i H→SqL K H a xs)
  (hs:∀ i x H,xs[i]?=some x→Pv i H→∀ zs:St,zs.length=k→g x (zs ++ ρ) H fun σ2 H2=>(∃ zs':St,zs'.length=k∧σ2=zs' ++ ρ)∧tc σ2 H2 fun b H3=>if b=true then te σ2 H3 fun y H4=>∃ ys,H4 l=some (.lst ys)∧ys.length<sizeLine∧NextP xs.length Pv i (upd H4 l (.lst (ys++[y]))) else NextP xs.length Pv i H3)
  (hd:∀ H,Pv xs.length H→R H) :
  ∃ W:Nat→Nat→Hp→Prop,(∃ m,W 0 m (upd H₀ l (.lst [])))∧∀ i m H,W i m H→
   ((Itl K a).stop i H∧R H)∨((Itl K a).go i H∧∀ x H',(Itl K a).yld i H x H'→∀ zs:St,zs.length=k→g x (zs ++ ρ) H' fun σ2 H2=>(∃ zs':St,zs'.length=k∧σ2=zs' ++ ρ)∧tc σ2 H2 fun b H3=>if b=true then te σ2 H3 fun y H4=>∃ ys,H4 l=some (.lst ys)∧ys.length<sizeLine∧∃ m',m'<m∧W (i+1) m' (upd H4 l (.lst (ys++[y]))) else ∃ m',m'<m∧W (i+1) m' H3):=
 compG_by (n:=xs.length) Pv h0 (fun i H hi p=>⟨xs,xs[i],hl i H p,List.getElem?_eq_getElem hi⟩) (fun H p=>⟨xs,hl _ H p,Nat.le_refl _⟩) (fun i x H H' hi y p=>by
  obtain ⟨e,y⟩:=y
  subst e
  exact hs i x _ (y xs (hl i _ p)) p) hd
end
theorem g1 {v:V} {ρ:St} {H:Hp} {Q:St→Hp→Prop} (h:Q (some v :: ρ) H):∀ zs:St,zs.length=1→gName 0 v (zs ++ ρ) H Q:=fun zs hz=>by
 match zs,hz with
 | [z],_=>exact h
theorem yes {σ:St} {H:Hp} {A B:Hp→Prop} (h:A H):tYes σ H (fun b H3=>if b=true then A H3 else B H3):=by
 show if true=true then A H else B H
 rw [if_pos rfl]
 exact h
end L2
namespace L2
open PySem PySem.Spec PyProof.Rows
section
variable {X:Cx}
def Iti (a:Addr) (o:Obj) (kvs:List (Key × V)):It:=
 ⟨fun i H=>H a=some (.frz o (.dK kvs))∧i<kvs.length,fun i H x H'=>∃ kv t,kvs[i]?=some kv∧H t=none∧x=.ref t∧H'=upd H t (.tup [kV kv.1,kv.2]),fun i H=>H a=some (.frz o (.dK kvs))∧kvs.length≤i⟩
theorem entry_itemiter_iter:entryFor table "dict_itemiterator.__iter__"=some Builtin.«dict_keyiterator.__iter__»:=entryFor_alias (id':="dict_keyiterator.__iter__") (by kernel_rfl) rfl (by decide +kernel) (by kernel_rfl)
theorem Inv.trackI {pins:List (Addr × Obj)} {σ:St} {H:Hp} {s:Shared} {t:Addr} {o:HO} (I:Inv X pins σ H s) (h0:X.s₀.heap.objs.size≤t) (hn:H t=none) (hL:t≠X.env.locals) (hc:∀ x c,X.env.cells.lookup x=some c→c≠t) (hp:∀ p∈X.pn++pins,p.1≠t) (hok:HOk X.prog X.w (upd H t o) s.heap):Inv X pins σ (upd H t o) s:=by
 have up:∀ c,c≠t→H c=none→upd H t o c=none:=fun c n r=>by rw [upd_ne n];exact r
 refine ⟨I.ok,I.os,I.bare,⟨I.base.keep,I.base.slot,fun b ob e n hx=>up b (Nat.ne_of_lt (Nat.lt_of_lt_of_le (Heap.lt_size e) h0)) (I.base.free b ob e n hx),I.base.there,fun b xs e=>?_,fun b ob z e=>?_,fun b ps e=>?_⟩,I.loc,I.cell,up _ hL.symm I.free,fun x c e=>up _ (hc x c e) (I.freeC x c e),fun p hp'=>?_,hok,I.len⟩
 ·have q:=I.base.tups b xs e
  rw [upd_ne (ne_of_none q hn)]
  exact q
 ·have q:=I.base.frzs b ob z e
  rw [upd_ne (ne_of_none q hn)]
  exact q
 ·obtain ⟨m,q⟩:=I.base.tbls b ps e
  exact ⟨m,by rw [upd_ne (ne_of_none q hn)];exact q⟩
 ·obtain ⟨e,n,r⟩:=I.pin p hp'
  exact ⟨e,up _ (hp p hp') n,r⟩
theorem turn_items {P:Program} {w:World} {K:PySem.W.Frag} {elts:List Expr} {x1} {tpos:Pos} (a it:Addr) (o:Obj) (kvs:List (Key × V)) {es:Array DictEntry} {ep:Nat} (hd:o.data=.dict es ep) :
  Turn P w K (.Tuple elts x1 tpos) (Iti a o kvs) [it] it (fun i h=>∃ ok ov,IsItemIter h it a i kvs.length ep ok ov) where
 mem:=by simp
 obj:=fun i h st b hb=>by
  have e:b=it:=by simpa using hb
  subst e
  obtain ⟨ok,ov,e⟩:=st
  exact ⟨_,e,fun v z=>by
   have z':Data.fields _=Data.cell v:=z
   cases z'⟩
 keep:=fun i h h' st k=>let ⟨ok,ov,e⟩:=st;⟨ok,ov,k it (by simp) _ e⟩
 item:=by
  intro X hP hw hK hc i pins s σ H E I hf st hg
  subst hP hw hK
  obtain ⟨ha,hi⟩:=hg
  obtain ⟨ho,hz,hs,vs,r,o',es',ep',e1,e2,e3,e4,e5,e6⟩:=I.hok a _ ha
  rw [ho] at e1;cases e1
  rw [hd] at e3;cases e3
  have hx:kvs[i]?=some kvs[i]:=List.getElem?_eq_getElem hi
  obtain ⟨v,hv,rv⟩:=KV.get r hx
  obtain ⟨f0,f1,f2,f3,f4,f5⟩:=hf it (by simp)
  obtain ⟨ok,ov,st⟩:=st
  have st0:IsItemIter s.heap it a i vs.length ep ok ov:=by rw [← r.length];exact st
  refine wpAny_pyNext_items_item st0 ⟨o,es,ho,e2,hd,e4,e5,e6⟩ hv fun key h' hk st' ht hz' kk=>?_
  rw [← r.length] at st'
  refine ⟨_,rfl,?_⟩
  refine wpAny_letOwnedTupleGo_items (s:={ s with heap:=h' }) st' fun h2 st2 sb=>?_
  have nt:s.heap.objs.size≠it:=Nat.ne_of_gt (Heap.lt_size st0)
  have I1:Inv X pins σ H { s with heap:=h2,toks:=s.toks }:=I.turned (t':=s.toks) (fun b o hb e=>(sb.2 b hb).trans (kk b o hb e)) f0 f1 f3 f4 f5
  have hn:H s.heap.objs.size=none:=I.hok.fresh (Nat.le_refl _)
  have ht2:h2.get? s.heap.objs.size=some { cls:=.type "tuple",data:=.seq #[key,v] }:=(sb.2 _ nt).trans ht
  have hok:HOk X.prog X.w (upd H s.heap.objs.size (.tup [kV (kvs[i]).1,(kvs[i]).2])) h2:=fun b u e=>by
   by_cases hb:b=s.heap.objs.size
   ·subst hb
    rw [upd_same] at e
    cases e
    exact ⟨by show 2≤sizeLine;decide,[key,v],.cons (is_kV hk) (.cons rv .nil),_,ht2,rfl,_,rfl⟩
   ·rw [upd_ne hb] at e
    exact (I1.hok b u e).stay (fun _ _ _ q=>q) (fun c q=>by rw [upd_ne (ne_of_none q hn)];exact q) fun c xs q=>by rw [upd_ne (ne_of_none q hn)];exact q
  have I2:=I1.trackI (t:=s.heap.objs.size) I.sz hn (Nat.ne_of_gt I.lt) (fun x c e z=>by
   obtain ⟨v,q⟩:=I.cell x c e
   exact absurd q.lt (by rw [z];exact Nat.lt_irrefl _)) (fun p hp z=>absurd (Heap.lt_size (I.pin p hp).1) (by rw [z];exact Nat.lt_irrefl _)) hok
  refine ⟨.ref s.heap.objs.size,_,I2,rfl,⟨_,_,hx,hn,rfl,rfl⟩,⟨_,_,st2⟩,fun b hb=>?_⟩
  have e:b=it:=by simpa using hb
  subst e
  rw [upd_ne nt.symm]
  exact f0
 done:=by
  intro X hP hw hK hc i pins s σ H E I hf st hg
  subst hP hw hK
  obtain ⟨ha,hi⟩:=hg
  obtain ⟨ho,hz,hs,vs,r,o',es',ep',e1,e2,e3,e4,e5,e6⟩:=I.hok a _ ha
  rw [ho] at e1;cases e1
  rw [hd] at e3;cases e3
  obtain ⟨f0,f1,f2,f3,f4,f5⟩:=hf it (by simp)
  obtain ⟨ok,ov,st⟩:=st
  have st0:IsItemIter s.heap it a i vs.length ep ok ov:=by rw [← r.length];exact st
  exact wpAny_pyNext_items_end (I.ok.hd hc) st0 ⟨o,es,ho,e2,hd,e4,e5,e6⟩ (List.getElem?_eq_none (by rw [← r.length];exact hi)) fun h' eb=>⟨rfl,I.turned (t':=s.toks) (fun b o hb e=>eb b o hb e) f0 f1 f3 f4 f5⟩
 self:=fun _ _ _ _ _ st h=>by
  obtain ⟨ok,ov,st⟩:=st
  have hT:Shared.TypeIs _ (.ref it) "dict_itemiterator":=⟨_,st,rfl⟩
  refine wpAny_pyIter_slot hT F.slot_dict_itemiterator_iter (wpAny_call_entry F.slot_dict_itemiterator_iter hT entry_itemiter_iter ?_ (F.args_dict_itemiterator_iter_1 _))
  show wpAny _ _ (ret (.ref it)) _ _ _
  exact wpAny_pure ⟨_,rfl,"dict_itemiterator",_,hT,F.slot_dict_itemiterator_next.lookup,h⟩
def iItems (to:TE):TI:=fun σ H R=>to σ H fun x H1=>∃ a kvs,x=.ref a∧H1 a=some (.dK kvs)∧∀ o,R (Iti a o kvs) (upd H1 a (.frz o (.dK kvs)))
theorem pi_items {elts:List Expr} {x1} {tpos apos cpos:Pos} {o:Expr} {to:TE} (ho:PE X o to) (hbase:attributeBase o "items" X.env (eval o X.env)=eval o X.env:=by rfl) (hline:(apos.endLine == cpos.line)=true:=by rfl) :
  PI X (.Tuple elts x1 tpos) (.Call (.Attribute o "items" apos) [] [] cpos) (iItems to):=by
 intro pins s σ H R I h
 refine wpAny_Call_method0_late hbase hline (thn (ho pins s σ H _ I h) fun v s1 ⟨x,H1,I1,r1,a,kvs,e,ha,q⟩=>?_)
 subst e
 cases r1
 obtain ⟨hz,hs,vs,r,o,es,ep,e1,e2,e3,e4,e5,e6⟩:=dk_of I1.hok ha
 have hm:s1.heap.DictOf (mixKind X.prog X.w) a vs:=⟨o,es,ep,e1,e2,e3,e4,e5,e6⟩
 obtain ⟨h1,h2⟩:=tyV_is (T:="dict") I1 (x:=.ref a) rfl (.inr (.inr (.inl ⟨rfl,.inl ⟨kvs,ha⟩⟩)))
 refine ⟨"dict","dict.items",F.plainAttrs_dict,F.slot_dict_items,F.type_dict_items,h1,h2,?_⟩
 have I2:Inv X pins σ (upd H1 a (.frz o (.dK kvs))) s1:=I1.freeze ha True.intro e1
 refine method_meetsIn F.slot_dict_items F.entry_dict_items rfl (PySem.evalArgs_none ⟨rfl,hm.typeIs,F.args_dict_items_1 _,_,meets_dict_items (mixKind X.prog X.w) a hs,⟨vs,hm⟩,?_⟩)
 have I3:Inv X pins σ (upd H1 a (.frz o (.dK kvs))) { s1 with heap:=s1.heap.push { cls:=.type "dict_items",data:=.fields #[.ref a] } }:=I2.kept (t':=s1.toks) fun b o e=>Heap.get?_push_of_some _ e
 refine wpAny_pyIter_items (knd:=mixKind X.prog X.w) (d:=a) (kvs:=vs) (ep:=ep) ⟨_,Heap.get?_push_size _ rfl,rfl,rfl⟩ ⟨o,es,Heap.get?_push_of_some _ e1,e2,e3,e4,e5,e6⟩ ?_
 refine ⟨_,[_],_,_,_,rfl,I3.kept (t':=s1.toks) fun b o e=>Heap.get?_push_of_some _ e,turn_items a _ o kvs e3,⟨.none,.none,?_⟩,fun b hb=>?_,q o⟩
 ·rw [r.length]
  exact Heap.get?_push_size _ rfl
 ·have e:=List.mem_singleton.mp hb
  subst e
  exact I3.fpOk (Nat.le_refl _) (I3.hok.fresh (Nat.le_refl _))
end
theorem for_items {a:Addr} {o:Obj} {kvs:List (Key × V)} {g:TG} {tb:TS} {D:Ends} {σ:St} {H:Hp} (Pv:Nat→St→Hp→Prop) (h0:Pv 0 σ H) (hl:∀ i σ H,i≤kvs.length→Pv i σ H→H a=some (.frz o (.dK kvs)))
  (hs:∀ i kv t σ H,kvs[i]?=some kv→H t=none→Pv i σ H→g (.ref t) σ (upd H t (.tup [kV kv.1,kv.2])) fun σ2 H2=>tb { D with nx:=Pv (i+1),ct:=Pv (i+1),bk:=D.nx } σ2 H2) (hd:∀ σ H,Pv kvs.length σ H→D.nx σ H) :
  ∃ W:Nat→Nat→St→Hp→Prop,(∃ m,W 0 m σ H)∧∀ i m σ H,W i m σ H→
   ((Iti a o kvs).stop i H∧D.nx σ H)∨((Iti a o kvs).go i H∧∃ N:St→Hp→Prop,(∀ σ' H',N σ' H'→∃ m',m'<m∧W (i+1) m' σ' H')∧∀ x H',(Iti a o kvs).yld i H x H'→g x σ H' fun σ2 H2=>tb { D with nx:=N,ct:=N,bk:=D.nx } σ2 H2):=by
 refine ⟨fun i m σ H=>m=kvs.length-i∧i≤kvs.length∧Pv i σ H,⟨kvs.length,by simp,Nat.zero_le _,h0⟩,?_⟩
 rintro i m σ H ⟨rfl,hi,p⟩
 have q:=hl i σ H hi p
 by_cases hlt:i<kvs.length
 ·refine .inr ⟨⟨q,hlt⟩,Pv (i+1),fun σ' H' p'=>⟨kvs.length-(i+1),by omega,rfl,hlt,p'⟩,fun x H' y=>?_⟩
  obtain ⟨kv,t,hkv,ht,ex,eh⟩:=y
  subst ex eh
  exact hs i kv t σ _ hkv ht p
 ·have e:i=kvs.length:=by omega
  subst e
  exact .inl ⟨⟨q,Nat.le_refl _⟩,hd σ H p⟩
end L2
namespace L2
open PySem PySem.Spec PyProof.Rows
theorem vals_idx:∀ {xs:List V} {us:List Value},xs.length=us.length→(∀ (j:Nat) (x:V) (u:Value),xs[j]?=some x→us[j]?=some u→RelV x u)→Vals xs us
 | [],[],_,_=>.nil
 | [],_::_,h,_=>by cases h
 | _::_,[],h,_=>by cases h
 | x::xs,u::us,h,k=>.cons (k 0 x u rfl rfl) (vals_idx (Nat.succ.inj h) fun j y w a b=>k (j+1) y w (by simpa using a) (by simpa using b))
section
variable {X:Cx}
theorem call_list_dict (hh:X.A.handled=none):CallR X (.type "list") (fun xs H Q=>∃ p kvs,xs=[.ref p]∧Rd H p (.dK kvs)∧∀ l,H l=none→Q (.ref l) (upd H l (.lst (kvs.map fun kv=>kV kv.1)))):=by
 intro pins s σ H xs us Q I r h
 obtain ⟨p,kvs,rfl,hp,q⟩:=h
 obtain ⟨u,rfl,rx⟩:=vals1 r
 cases rx
 obtain ⟨hz,hs,vs,kv,hD⟩:=dk_rd I.hok hp
 obtain ⟨ep,hat⟩:=hD.dictAt
 have el:=kv.length
 refine PySem.W.kdl_call (PySem.W.kdl_dict (knd:=mixKind X.prog X.w) (kvs:=vs) (ep:=ep) hs) hh hat (by rw [← el];exact hz) fun h' tk acc c hk hD' hacc=>?_
 obtain ⟨e1,e2⟩:=hacc
 refine ⟨.ref s.heap.objs.size,_,I.laid (t':=tk) hk (Nat.le_refl _) (show ObjOk X.prog X.w _ h' _ (.lst (kvs.map fun kv=>kV kv.1)) from ⟨by rw [List.length_map];exact hz,acc.toList,c,vals_idx (by rw [List.length_map,el,← e1];simp) fun j x w a b=>?_,by simpa using hD'⟩),rfl,q _ (I.hok.fresh (Nat.le_refl _))⟩
 rw [List.getElem?_map] at a
 cases e:kvs[j]? with
 | none=>rw [e] at a;cases a
 | some z=>
  rw [e] at a
  cases a
  obtain ⟨v,hv,_⟩:=KV.get kv e
  obtain ⟨k,y,hk,hi⟩:=e2 j w (by simpa using b)
  rw [hv] at hk
  cases hk
  exact is_kV hi
def ViewO (v d:Addr):HO:=.ext fun h=>h.IsValuesView v d
def rValues:V→List V→Hp→VK→Prop:=fun x vs H Q=>∃ a kvs,x=.ref a∧vs=[]∧Rd H a (.dK kvs)∧∀ v,H v=none→Q (.ref v) (upd H v (ViewO v a))
theorem mt_values:MtM X "dict.values" rValues:=by
 intro pins s σ H x vs v us Q I rx rv h
 obtain ⟨a,kvs,rfl,rfl,ha,q⟩:=h
 cases rx
 cases rv
 obtain ⟨hz,hs,ws,kv,hD⟩:=dk_rd I.hok ha
 refine call_meetsIn PySem.F.slot_dict_values hD.typeIs PySem.F.entry_dict_values (PySem.F.args_dict_values_1 _) (meets_dict_values (mixKind X.prog X.w) a hs) ⟨⟨ws,hD⟩,?_⟩
 have e:(s.heap.push { cls:=.type "dict_values",data:=.fields #[.ref a] }).get? s.heap.objs.size=some { cls:=.type "dict_values",data:=.fields #[.ref a] }:=Heap.get?_push_size _ rfl
 refine ⟨.ref s.heap.objs.size,_,I.laid (t':=s.toks) (fun b o e=>Heap.get?_push_of_some _ e) (Nat.le_refl _) (show ObjOk X.prog X.w _ _ _ (ViewO _ a) from ⟨⟨_,e,rfl,rfl⟩,⟨_,e⟩,fun h1 h2 z k=>?_⟩),rfl,q _ (I.hok.fresh (Nat.le_refl _))⟩
 obtain ⟨o,ho,c⟩:=z
 exact ⟨o,k _ ho,c⟩
theorem call_list_vals (hh:X.A.handled=none):CallR X (.type "list") (fun xs H Q=>∃ v a kvs,xs=[.ref v]∧H v=some (ViewO v a)∧Rd H a (.dK kvs)∧∀ l,H l=none→Q (.ref l) (upd H l (.lst (kvs.map (·.2))))):=by
 intro pins s σ H xs us Q I r h
 obtain ⟨v,p,kvs,rfl,hv,hp,q⟩:=h
 obtain ⟨u,rfl,rx⟩:=vals1 r
 cases rx
 obtain ⟨hz,hs,vs,kv,hD⟩:=dk_rd I.hok hp
 obtain ⟨ep,hat⟩:=hD.dictAt
 obtain ⟨hview,_⟩:=(show ObjOk X.prog X.w H s.heap v (ViewO v p) from I.hok v _ hv)
 have el:=kv.length
 refine PySem.W.kdl_call (PySem.W.kdl_values (knd:=mixKind X.prog X.w) (kvs:=vs) (ep:=ep)) hh ⟨hview,hat⟩ (by rw [← el];exact hz) fun h' tk acc c hk hD' hacc=>?_
 obtain ⟨e1,e2⟩:=hacc
 refine ⟨.ref s.heap.objs.size,_,I.laid (t':=tk) hk (Nat.le_refl _) (show ObjOk X.prog X.w _ h' _ (.lst (kvs.map (·.2))) from ⟨by rw [List.length_map];exact hz,acc.toList,c,vals_idx (by rw [List.length_map,el,← e1];simp) fun j x w a b=>?_,by simpa using hD'⟩),rfl,q _ (I.hok.fresh (Nat.le_refl _))⟩
 rw [List.getElem?_map] at a
 cases e:kvs[j]? with
 | none=>rw [e] at a;cases a
 | some z=>
  rw [e] at a
  cases a
  obtain ⟨y,hy,ry⟩:=KV.get kv e
  obtain ⟨k,hk⟩:=e2 j w (by simpa using b)
  rw [hy] at hk
  cases hk
  exact ry
end
end L2
namespace L2
open PySem PySem.Spec PyProof.Rows
section
variable {X:Cx}
theorem call_dict_copy:CallR X (.type "dict") (fun xs H Q=>∃ p kvs,xs=[.ref p]∧Rd H p (.dK kvs)∧∀ l,H l=none→Q (.ref l) (upd H l (.dK kvs))):=by
 intro pins s σ H xs us Q I r h
 obtain ⟨p,kvs,rfl,hp,q⟩:=h
 obtain ⟨u,rfl,rx⟩:=vals1 r
 cases rx
 exact d_copyOf I hp fun l s' nl I'=>⟨.ref l,_,I',rfl,q l nl⟩
def rDClear:V→List V→Hp→VK→Prop:=fun x vs H Q=>∃ a kvs,x=.ref a∧vs=[]∧H a=some (.dK kvs)∧Q .non (upd H a (.dK []))
end
section
variable {l:Addr} {k:Nat} {g:TG} {tc:TT} {te:TE} {ρ:St} {R:Hp→Prop} {H₀:Hp}
end
section
variable {X:Cx} {CX:CXT} {j:Nat} {E:XK} {m:Str} {pos apos:Pos} {e o:Expr} {es:List Expr} {ta:TE} {t:TA}
theorem pe_mtDK {pl:Sem Bool} {P:Program} {w:World} {K:PySem.W.Frag} {mg:Str→Option Value} {base:Heap} (hP:X.prog=P) (hw:X.w=w) (hK:X.K=K) (hmg:X.mg=mg) (hb:X.base=base) (he:PE X o ta) (hr:Room j X.A) (hx:Passes CX X E) (ha:PA X (e::es) t)
  (hst:starEach (e::es) X.env=(false,eval e X.env)::starEach es X.env:=by rfl) (hpl:(backTo pos (starEach es X.env)).any (·.1)=false:=by rfl)
  (ht:eval (.Call (.Attribute o m apos) (e::es) [] pos) X.env=(do
   let ov ← eval o X.env
   standAt apos.atName
   let (f,first) ← holding [ov] (getMethod ov m pl)
   callWith pos f first (backTo pos (starEach (e::es) X.env)) (backToKw pos (keywordEach [] X.env))):=by rfl):PE X (.Call (.Attribute o m apos) (e::es) [] pos) (tMethD P w K mg base CX m j E ta t):=by
 subst hP hw hK hmg hb
 exact pe_mtD he hr hx ha hst hpl ht
end
section
variable {X:Cx}
end
end L2
namespace L2
open PySem PySem.Spec PyProof.Rows
section
variable {X:Cx}
theorem Inv.turnedL {pins:List (Addr × Obj)} {σ:St} {H:Hp} {s:Shared} {h':Heap} {t':Nat} {its:List Addr} (I:Inv X pins σ H s) (k:∀ b o,b ∉ its→s.heap.get? b=some o→h'.get? b=some o) (hf:∀ b∈its,FpOk X pins H b):Inv X pins σ H { s with heap:=h',toks:=t' }:=by
 have nit:∀ b u,H b=some u→b ∉ its:=fun b u e z=>by rw [(hf b z).1] at e;cases e
 have hL:X.env.locals ∉ its:=fun z=>(hf _ z).2.1 rfl
 refine I.step (g':=s.gens) (d':=s.drawn) (ch:=its) (fun b hb=>?_) (fun b o _ _ hc e _=>k b o hc e) (fun b o _ _ hc e _=>⟨o.slots,k b o hc e⟩) (fun _ _ _ _ n=>n)
  (fun b o hc e=>⟨o,k b o hc e⟩) (fun _ _ e=>e) (fun _ _ _ e=>e) (fun b ps e=>⟨#[],by rw [e];simp⟩) (fun m hm=>?_) (fun b u e=>?_) I.bare
 ·obtain ⟨_,h1,_,h3,h4,h5⟩:=hf b hb
  exact ⟨h3,h1,h4,h5⟩
 ·obtain ⟨o,es,ep,ho,r⟩:=hm
  exact ⟨o,es,ep,k _ o hL ho,r⟩
 ·refine (I.hok b u e).stay (fun c v hc q=>k c v ?_ q) (fun _ q=>q) fun _ _ q=>q
  rcases hc with z | z
  ·rw [z];exact nit b u e
  ·exact nit c _ z
def Itz (K:PySem.W.Frag) (a b:Addr) (xs ys:List V):It:=
 ⟨fun i H=>SqL K H a xs∧SqL K H b ys∧i<xs.length∧i<ys.length,fun i H v H'=>∃ x y t,xs[i]?=some x∧ys[i]?=some y∧H t=none∧v=.ref t∧H'=upd H t (.tup [x,y]),fun i H=>SqL K H a xs∧SqL K H b ys∧(xs.length≤i∨ys.length≤i)⟩
theorem vals_get:∀ {xs:List V} {us:List Value},Vals xs us→∀ {i:Nat} {x:V},xs[i]?=some x→∃ u,us[i]?=some u∧RelV x u
 | _,_,.nil,i,x,e=>by simp at e
 | _,_,.cons r t,0,x,e=>by
  simp at e
  subst e
  exact ⟨_,rfl,r⟩
 | _,_,.cons r t,i+1,x,e=>by
  obtain ⟨u,h1,h2⟩:=vals_get t (i:=i) (x:=x) (by simpa using e)
  exact ⟨u,by simpa using h1,h2⟩
def iZip (K:PySem.W.Frag) (ta:TA):TI:=fun σ H R=>ta σ H fun vs H1=>∃ a b xs ys,vs=[.ref a,.ref b]∧SqL K H1 a xs∧SqL K H1 b ys∧R (Itz K a b xs ys) H1
end
section
variable {l:Addr} {k:Nat} {g:TG} {tc:TT} {te:TE} {ρ:St} {R:Hp→Prop} {H₀:Hp}
end
end L2
namespace L2
open PySem PySem.Spec PyProof.Rows
theorem eqV_str (x y:Str):eqV (.str x) (.str y)=decide (x=y):=by
 unfold eqV
 by_cases h:x=y
 ·subst h;simp
 ·simp [h]
theorem flat_strs (ts:List Str):(ts.map V.str).all flatV=true:=by
 rw [List.all_eq_true]
 intro v hv
 obtain ⟨t,_,rfl⟩:=List.mem_map.mp hv
 rfl
section
variable {X:Cx}
def rIndexT (K:PySem.W.Frag):V→List V→Hp→VK→Prop:=fun x vs H Q=>∃ (l:Addr) (ts:List Str) (y:Str),x=.ref l∧vs=[.str y]∧SqL K H l (ts.map V.str)∧y∈ts∧Q (.int (ts.idxOf y:Nat)) H
end
section
variable {prog:Program} {w:World} {A:Around}
variable {E:Value→Shared→Prop} {s:Shared}
def freshSet (led:Bool):Obj:={ cls:=.type "set",dict:=none,data:=.set #[] 0 (.fresh 0 0 led) }
end
section
variable {X:Cx}
def SetT (P:Program) (w:World) (p:Addr) (ts:List Str):HO:=.ext fun h=>h.SetOf (PySem.strKind P w) p (fun x=>decide (x∈ts)) ts.length
def rNeL (K:PySem.W.Frag):R2:=fun x y H Q=>∃ p q xs ys,x=.ref p∧y=.ref q∧SqL K H p xs∧SqL K H q ys∧xs.all flatV=true∧ys.all flatV=true∧Q (.bl (!eqVs xs ys)) H
theorem eqVs_strs:∀ ts:List Str,eqVs (ts.map V.str) (ts.map V.str)=true
 | []=>rfl
 | t::ts=>by
  show (eqV (.str t) (.str t) && eqVs (ts.map V.str) (ts.map V.str))=true
  rw [eqVs_strs ts,eqV_str,decide_eq_true rfl]
  rfl
end
end L2
namespace L2
open PySem PySem.Spec PyProof.Rows
section
variable {X:Cx}
theorem tup_all {xs ys:List V} {us ws:List Value} (e1:xs.length=us.length) (e2:ys.length=ws.length):((List.range (min us.toArray.size ws.toArray.size)).all (eqAtJ xs ys) && us.toArray.size == ws.toArray.size)=eqVs xs ys:=by
 rw [List.size_toArray,List.size_toArray,← e1,← e2]
 by_cases hl:xs.length=ys.length
 ·rw [← hl,Nat.min_self,eqVs_all hl]
  simp
 ·rw [eqVs_len hl]
  simp [hl]
theorem tup_eqs {pins:List (Addr × Obj)} {σ:St} {H:Hp} {s:Shared} {xs ys:List V} {us ws:List Value} (I:Inv X pins σ H s) (r:Vals xs us) (r':Vals ys ws) (fx:xs.all flatV=true) (fy:ys.all flatV=true) {A:Around}:∀ j (h1:j<us.toArray.size) (h2:j<ws.toArray.size),SeqAt.EqAt A s us.toArray[j] ws.toArray[j] (eqAtJ xs ys j):=fun j h1 h2=>by
 have e1:=r.length
 have e2:=r'.length
 have j1:j<us.length:=by simpa using h1
 have j2:j<ws.length:=by simpa using h2
 have a1:xs[j]?=some (xs[j]'(by omega)):=List.getElem?_eq_getElem _
 have a2:ys[j]?=some (ys[j]'(by omega)):=List.getElem?_eq_getElem _
 have:eqAtJ xs ys j=eqV (xs[j]'(by omega)) (ys[j]'(by omega)):=by unfold eqAtJ;rw [a1,a2]
 rw [this,List.getElem_toArray,List.getElem_toArray]
 exact eqAt_V (vals_at r a1 (List.getElem?_eq_getElem j1)) (vals_at r' a2 (List.getElem?_eq_getElem j2)) (List.all_eq_true.mp fx _ (List.getElem_mem _)) (List.all_eq_true.mp fy _ (List.getElem_mem _))
def rEqT (K:PySem.W.Frag):R2:=fun x y H Q=>∃ p q xs ys,x=.ref p∧y=.ref q∧SqT K H p xs∧SqT K H q ys∧xs.all flatV=true∧ys.all flatV=true∧Q (.bl (eqVs xs ys)) H
theorem op_eqT (hu:X.A.units<cLine):OpR X (compareOp .Eq) (rEqT X.K):=by
 intro pins s σ H x y v u Q I rx ry h
 obtain ⟨p,q,xs,ys,rfl,rfl,hp,hq,fx,fy,k⟩:=h
 cases rx
 cases ry
 obtain ⟨us,r,pl,_⟩:=I.tuple hp
 obtain ⟨ws,r',pl',_⟩:=I.tuple hq
 refine SeqAt.RcAt.tuples (e:=eqAtJ xs ys) pl pl' hu (tup_eqs I r r' fx fy) X.prog X.w X.xe _ ⟨.bl _,H,I,rfl,?_⟩
 rw [tup_all r.length r'.length]
 exact k
def rNeT (K:PySem.W.Frag):R2:=fun x y H Q=>∃ p q xs ys,x=.ref p∧y=.ref q∧SqT K H p xs∧SqT K H q ys∧xs.all flatV=true∧ys.all flatV=true∧Q (.bl (!eqVs xs ys)) H
theorem op_neT (hu:X.A.units<cLine):OpR X (compareOp .NotEq) (rNeT X.K):=by
 intro pins s σ H x y v u Q I rx ry h
 obtain ⟨p,q,xs,ys,rfl,rfl,hp,hq,fx,fy,k⟩:=h
 cases rx
 cases ry
 obtain ⟨us,r,pl,_⟩:=I.tuple hp
 obtain ⟨ws,r',pl',_⟩:=I.tuple hq
 refine SeqAt.RcNeAt.tuples (e:=eqAtJ xs ys) pl pl' hu (tup_eqs I r r' fx fy) X.prog X.w X.xe _ ⟨.bl _,H,I,rfl,?_⟩
 rw [tup_all r.length r'.length]
 exact k
end
end L2
namespace L2
open PySem PySem.Spec PyProof.Rows
section
variable {X:Cx}
def rLClear:V→List V→Hp→VK→Prop:=fun x vs H Q=>∃ l xs,x=.ref l∧vs=[]∧H l=some (.lst xs)∧Q .non (upd H l (.lst []))
end
end L2
namespace L2
open PySem PySem.Spec PyProof.Rows
def Its (z:Str):It:=⟨fun i _=>i<z.cps.size,fun i H v H'=>H'=H∧∃ c,z.cps[i]?=some c∧v=.str ⟨#[c]⟩,fun i _=>z.cps.size≤i⟩
section
variable {X:Cx}
def iStr (tl:TE):TI:=fun σ H R=>tl σ H fun x H1=>∃ z,x=.str z∧R (Its z) H1
def rStarts:V→List V→Hp→VK→Prop:=fun x vs H Q=>∃ z y,x=.str z∧vs=[.str y]∧Q (.bl (Txt.startswith z y)) H
def rPart:V→List V→Hp→VK→Prop:=fun x vs H Q=>∃ z y,x=.str z∧vs=[.str y]∧(y.length == 0)=false∧z.length≤sizeLine∧∀ p,H p=none→Q (.ref p) (upd H p (.tup [.str (Txt.partition z y).1,.str (Txt.partition z y).2.1,.str (Txt.partition z y).2.2]))
end
section
variable {l:Addr} {k:Nat} {g:TG} {tc:TT} {te:TE} {ρ:St} {R:Hp→Prop} {H₀:Hp}
end
end L2
namespace L2
open PySem PySem.Spec PyProof.Rows
section
variable {X:Cx}
def Ite (K:PySem.W.Frag) (a:Addr) (xs:List V):It:=
 ⟨fun i H=>SqL K H a xs∧i<xs.length,fun i H v H'=>∃ x t,xs[i]?=some x∧H t=none∧v=.ref t∧H'=upd H t (.tup [.int i,x]),fun i H=>SqL K H a xs∧xs.length≤i⟩
theorem turn_enum {P:Program} {w:World} {K:PySem.W.Frag} {elts:List Expr} {x1} {tpos:Pos} {e it a:Addr} (ne:e≠it) (xs:List V) :
  Turn P w K (.Tuple elts x1 tpos) (Ite K a xs) [e,it] e (fun i h=>(∃ old,IsEnum h e it i old)∧h.IsListIter it a i) where
 mem:=by simp
 obj:=fun i h st c hc=>by
  obtain ⟨⟨old,h1⟩,⟨o4,e4,_,d4⟩⟩:=st
  simp only [List.mem_cons,List.not_mem_nil,or_false] at hc
  rcases hc with rfl | rfl
  ·exact ⟨_,h1,fun v z=>by have z':Data.fields _=Data.cell v:=z;cases z'⟩
  ·exact ⟨_,e4,fun v z=>by rw [d4] at z;cases z⟩
 keep:=fun i h h' st k=>by
  obtain ⟨⟨old,h1⟩,⟨o4,e4,r4⟩⟩:=st
  exact ⟨⟨old,k e (by simp) _ h1⟩,⟨o4,k it (by simp) _ e4,r4⟩⟩
 item:=by
  intro X hP hw hK hc i pins s σ H E I hf st hg
  subst hP hw hK
  obtain ⟨ha,hx⟩:=hg
  obtain ⟨⟨old,h1⟩,h4⟩:=st
  obtain ⟨us,ru,pu,_⟩:=I.list ha
  have ex:xs[i]?=some xs[i]:=List.getElem?_eq_getElem hx
  obtain ⟨u,eu,rux⟩:=vals_get ru ex
  refine wpAny_pyNext_enum_item h1 h4 pu.isList (by simpa using eu) ne fun h' a1 a2 a3 a4 a5=>?_
  refine ⟨_,rfl,?_⟩
  refine wpAny_letOwnedTupleGo_enum (s:={ s with heap:=h',toks:=s.toks+1 }) a1 fun h2' z2 sb=>?_
  have nt:s.heap.objs.size≠e:=Nat.ne_of_gt (Heap.lt_size h1)
  have I1:Inv X pins σ H { s with heap:=h2',toks:=s.toks+1 }:=I.turnedL (its:=[e,it]) (t':=s.toks+1) (fun c o hc q=>by
   simp only [List.mem_cons,List.not_mem_nil,or_false,not_or] at hc
   exact (sb.2 c hc.1).trans (a5 c o hc.1 hc.2 q)) hf
  have hn:H s.heap.objs.size=none:=I.hok.fresh (Nat.le_refl _)
  have ht2:h2'.get? s.heap.objs.size=some { cls:=.type "tuple",data:=.seq #[.int i s.toks,u] }:=(sb.2 _ nt).trans a3
  have hok:HOk X.prog X.w (upd H s.heap.objs.size (.tup [.int i,xs[i]])) h2':=fun c o q=>by
   by_cases hb:c=s.heap.objs.size
   ·subst hb
    rw [upd_same] at q
    cases q
    exact ⟨by show 2≤sizeLine;decide,[.int i s.toks,u],.cons ⟨_,rfl⟩ (.cons rux .nil),_,ht2,rfl,_,rfl⟩
   ·rw [upd_ne hb] at q
    exact (I1.hok c o q).stay (fun _ _ _ q=>q) (fun c q=>by rw [upd_ne (ne_of_none q hn)];exact q) fun c xs q=>by rw [upd_ne (ne_of_none q hn)];exact q
  have I2:=I1.trackI (t:=s.heap.objs.size) I.sz hn (Nat.ne_of_gt I.lt) (fun x c e z=>by
   obtain ⟨v,q⟩:=I.cell x c e
   exact absurd q.lt (by rw [z];exact Nat.lt_irrefl _)) (fun p hp z=>absurd (Heap.lt_size (I.pin p hp).1) (by rw [z];exact Nat.lt_irrefl _)) hok
  refine ⟨.ref s.heap.objs.size,_,I2,rfl,⟨_,_,ex,hn,rfl,rfl⟩,⟨⟨_,z2⟩,?_⟩,fun c hc=>?_⟩
  ·obtain ⟨o,q,r⟩:=a2
   exact ⟨o,(sb.2 _ ne.symm).trans q,r⟩
  ·have:c≠s.heap.objs.size:=by
    obtain ⟨o4,e4,_⟩:=h4
    simp only [List.mem_cons,List.not_mem_nil,or_false] at hc
    rcases hc with rfl | rfl
    ·exact Nat.ne_of_lt (Heap.lt_size h1)
    ·exact Nat.ne_of_lt (Heap.lt_size e4)
   rw [upd_ne this]
   exact (hf c hc).1
 done:=by
  intro X hP hw hK hc i pins s σ H E I hf st hg
  subst hP hw hK
  obtain ⟨ha,hend⟩:=hg
  obtain ⟨⟨old,h1⟩,h4⟩:=st
  obtain ⟨us,ru,pu,_⟩:=I.list ha
  have lu:=ru.length
  refine wpAny_pyNext_enum_end (I.ok.hd hc) h1 h4 pu.isList (by simp;omega) fun h' a7=>⟨rfl,I.turnedL (its:=[e,it]) (t':=s.toks) (fun c o hc q=>by
   simp only [List.mem_cons,List.not_mem_nil,or_false,not_or] at hc
   exact a7 c o hc.2 q) hf⟩
 self:=fun _ _ _ _ _ st h=>by
  obtain ⟨⟨old,h1⟩,_⟩:=st
  exact wpAny_pyIter_enum h1 h
def iEnum (K:PySem.W.Frag) (ta:TA):TI:=fun σ H R=>ta σ H fun vs H1=>∃ a xs,vs=[.ref a]∧SqL K H1 a xs∧R (Ite K a xs) H1
theorem pi_enum {elts:List Expr} {x1} {tpos:Pos} {a:Expr} {ta:TA} {p pos:Pos} (hg:Gl X "enumerate") (hm:X.mg "enumerate"=none) (ha:PA X [a] ta) (hs:starEach [a] X.env=[(false,eval a X.env)]:=by rfl):PI X (.Tuple elts x1 tpos) (.Call (.Name "enumerate" p) [a] [] pos) (iEnum X.K ta):=by
 intro pins s σ H R I h
 refine Call_ (ld_blt I hg hm boot_enumerate (PyProof.Rows.callWith_type1 (thn (ha pos pins s σ H _ I h) fun us s1 ⟨vs,H1,I1,r1,q1⟩=>?_) hs rfl))
 obtain ⟨l1,xs,e,h1,q⟩:=q1
 subst e
 cases r1 with
 | cons r rr=>
  cases rr
  cases r
  obtain ⟨us,ru,pu,_⟩:=I1.list h1
  refine call_enumerate_list pu.isList fun h' z1 z2 z3 z7=>?_
  have I2:Inv X pins σ H1 { s1 with heap:=h' }:=I1.kept (t':=s1.toks) z7
  refine wpAny_pyIter_enum z1 ⟨_,[s1.heap.objs.size+1,s1.heap.objs.size],_,_,_,rfl,I2,turn_enum (Nat.succ_ne_self _) xs,⟨⟨_,z1⟩,z2⟩,fun c hc=>?_,q⟩
  have hb:s1.heap.objs.size≤c:=by
   simp only [List.mem_cons,List.not_mem_nil,or_false] at hc
   rcases hc with rfl | rfl
   ·exact Nat.le_add_right _ _
   ·exact Nat.le_refl _
  exact I1.fpOk hb (I1.hok.fresh hb)
theorem for_enum {K:PySem.W.Frag} {a:Addr} {xs:List V} {g:TG} {tb:TS} {D:Ends} {σ:St} {H:Hp} (Pv:Nat→St→Hp→Prop) (h0:Pv 0 σ H) (hl:∀ i σ H,Pv i σ H→SqL K H a xs)
  (hs:∀ i x t σ H,xs[i]?=some x→H t=none→Pv i σ H→g (.ref t) σ (upd H t (.tup [.int i,x])) fun σ2 H2=>tb { D with nx:=Pv (i+1),ct:=Pv (i+1),bk:=D.nx } σ2 H2) (hd:∀ σ H,Pv xs.length σ H→D.nx σ H) :
  ∃ W:Nat→Nat→St→Hp→Prop,(∃ m,W 0 m σ H)∧∀ i m σ H,W i m σ H→
   ((Ite K a xs).stop i H∧D.nx σ H)∨((Ite K a xs).go i H∧∃ N:St→Hp→Prop,(∀ σ' H',N σ' H'→∃ m',m'<m∧W (i+1) m' σ' H')∧∀ x H',(Ite K a xs).yld i H x H'→g x σ H' fun σ2 H2=>tb { D with nx:=N,ct:=N,bk:=D.nx } σ2 H2):=by
 refine ⟨fun i m σ H=>m=xs.length-i∧i≤xs.length∧Pv i σ H,⟨xs.length,by simp,Nat.zero_le _,h0⟩,?_⟩
 rintro i m σ H ⟨rfl,hi,p⟩
 have q1:=hl i σ H p
 by_cases hlt:i<xs.length
 ·refine .inr ⟨⟨q1,hlt⟩,Pv (i+1),fun σ' H' p'=>⟨xs.length-(i+1),by omega,rfl,hlt,p'⟩,fun v H' y=>?_⟩
  obtain ⟨x,t,hx,ht,ev,eh⟩:=y
  subst ev eh
  exact hs i x t σ _ hx ht p
 ·have e:i=xs.length:=by omega
  subst e
  exact .inl ⟨⟨q1,Nat.le_refl _⟩,hd σ H p⟩
end
end L2
namespace L2
open PySem PySem.Spec PyProof.Rows
section
variable {X:Cx}
theorem draws1 {P:Program} {w:World} {A:Around} (hh:A.handled=none) (it l:Addr) (hne:l≠it) (items:Array Value) :
  Draws P w A it [it,l] (items.size+1) (fun j v=>items[j-1]?=some v) (fun j h=>1≤j∧h.IsListIter it l (j-1)∧h.IsList l items) where
 live:=fun _ _ st=>st.2.1.imp fun o ho=>ho.1
 frame:=fun _ _ _ st hk=>⟨st.1,st.2.1.at fun o e=>hk it (by simp) o e,st.2.2.at fun o e=>hk l (by simp) o e⟩
 item:=fun j s Q E hj st hQ=>by
  obtain ⟨j,rfl⟩:∃ i,j=i+1:=⟨j-1,by have:=st.1;omega⟩
  have hi:j<items.size:=by omega
  exact wpAny_nextOf_list_item (i:=j) st.2.1 st.2.2 (x:=items[j]) (by simp [hi]) fun h' h1 h2=>hQ _ h' s.toks (by simp [hi]) ⟨by omega,h1,st.2.2.extBut h2.extBut hne⟩ h2
 done:=fun s Q E st hE=>wpAny_nextOf_list_end hh st.2.1 st.2.2 (by simp) hE
theorem li_ne {h:Heap} {it l:Addr} {i:Nat} {xs:Array Value} (h1:h.IsListIter it l i) {k:Addr} (h2:h.IsList k xs):k≠it:=fun e=>by
 obtain ⟨o,e1,c1,_⟩:=h1
 obtain ⟨o',e2,c2,_⟩:=h2
 rw [e,e1] at e2
 cases e2
 rw [c1] at c2
 exact absurd c2 (by decide)
theorem en_ne {h:Heap} {e it:Addr} {i:Int} {old:Value} {xs:Array Value} (h1:IsEnum h e it i old) {k:Addr} (h2:h.IsList k xs):k≠e:=fun z=>by
 obtain ⟨o',e2,c2,_⟩:=h2
 rw [z,show h.get? e=some _ from h1] at e2
 cases e2
 have c2:Value.type "enumerate"=Value.type "list":=c2
 exact absurd c2 (by decide)
theorem next1 {P:Program} {w:World} {A:Around} {E:Value→Shared→Prop} {s:Shared} {e it l:Addr} {i:Nat} {items:Array Value} {x old:Value} {Q:Option Value→Shared→Prop} (hh:A.handled=none)
  (he:IsEnum s.heap e it ((i+1:Nat):Int) old) (hit:s.heap.IsListIter it l i) (hl:s.heap.IsList l items) (hx:items[i]?=some x) (hne:e≠it)
  (hQ:∀ h' tk,IsEnumOut h' e it (((i+1:Nat):Int)+1) x s.heap.objs.size→h'.IsListIter it l (i+1)→h'.get? s.heap.objs.size=some { cls:=.type "tuple",data:=.seq #[.int ((i+1:Nat):Int) tk,x] }→(∀ b o,b≠e→b≠it→s.heap.get? b=some o→h'.get? b=some o)→Q (some (.ref s.heap.objs.size)) { s with heap:=h',toks:=tk+1 }) :
  wpAny (model P w) A (pyNext (.ref e)) Q E s:=by
 have ty:s.TypeIs (.ref e) "enumerate":=⟨_,he,rfl⟩
 have ln:=li_ne hit hl
 have le:=en_ne he hl
 have hi:i<items.size:=by
  rcases Nat.lt_or_ge i items.size with z | z
  ·exact z
  ·rw [Array.getElem?_eq_none z] at hx;cases hx
 unfold pyNext
 refine wpAny_bind (wpAny_attempt (wpAny_callSpecial?_slot (name:=Str.ofString "__next__") ty F.slot_enumerate_next (wpAny_call_entry F.slot_enumerate_next ty F.entry_enumerate_next ?_ (F.args_enumerate_next_1 _))))
 refine enumerate_next_itemD (draws1 (P:=P) (w:=w) (A:=A.in1) hh it l ln items) he ⟨by omega,hit,hl⟩ (by omega) hne ?_ fun y h' tk py o1 st t1 _ k1=>?_
 ·simp only [List.mem_cons,List.not_mem_nil,or_false,not_or]
  exact ⟨hne,Ne.symm le⟩
 ·have e0:y=x:=by
   have:items[i]?=some y:=py
   rw [hx] at this
   exact (Option.some.inj this).symm
  subst e0
  exact wpAny_pure (hQ h' tk o1 st.2.1 t1 k1)
def Ite1 (K:PySem.W.Frag) (a:Addr) (xs:List V):It:=
 ⟨fun i H=>SqL K H a xs∧i<xs.length,fun i H v H'=>∃ x t,xs[i]?=some x∧H t=none∧v=.ref t∧H'=upd H t (.tup [.int ((i+1:Nat):Int),x]),fun i H=>SqL K H a xs∧i=xs.length⟩
theorem turn_enum1 {P:Program} {w:World} {K:PySem.W.Frag} {elts:List Expr} {x1} {tpos:Pos} {e it a:Addr} (ne:e≠it) (xs:List V) :
  Turn P w K (.Tuple elts x1 tpos) (Ite1 K a xs) [e,it] e (fun i h=>(∃ old,IsEnum h e it ((i+1:Nat):Int) old)∧h.IsListIter it a i) where
 mem:=by simp
 obj:=fun i h st c hc=>by
  obtain ⟨⟨old,h1⟩,⟨o4,e4,_,d4⟩⟩:=st
  simp only [List.mem_cons,List.not_mem_nil,or_false] at hc
  rcases hc with rfl | rfl
  ·exact ⟨_,h1,fun v z=>by have z':Data.fields _=Data.cell v:=z;cases z'⟩
  ·exact ⟨_,e4,fun v z=>by rw [d4] at z;cases z⟩
 keep:=fun i h h' st k=>by
  obtain ⟨⟨old,h1⟩,⟨o4,e4,r4⟩⟩:=st
  exact ⟨⟨old,k e (by simp) _ h1⟩,⟨o4,k it (by simp) _ e4,r4⟩⟩
 item:=by
  intro X hP hw hK hc i pins s σ H E I hf st hg
  subst hP hw hK
  obtain ⟨ha,hx⟩:=hg
  obtain ⟨⟨old,h1⟩,h4⟩:=st
  obtain ⟨us,ru,pu,_⟩:=I.list ha
  have ex:xs[i]?=some xs[i]:=List.getElem?_eq_getElem hx
  obtain ⟨u,eu,rux⟩:=vals_get ru ex
  refine next1 (I.ok.hd hc) h1 h4 pu.isList (by simpa using eu) ne fun h' tk a1 a2 a3 a5=>?_
  refine ⟨_,rfl,?_⟩
  refine wpAny_letOwnedTupleGo_enum (s:={ s with heap:=h',toks:=tk+1 }) a1 fun h2' z2 sb=>?_
  have nt:s.heap.objs.size≠e:=Nat.ne_of_gt (Heap.lt_size h1)
  have I1:Inv X pins σ H { s with heap:=h2',toks:=tk+1 }:=I.turnedL (its:=[e,it]) (t':=tk+1) (fun c o hc q=>by
   simp only [List.mem_cons,List.not_mem_nil,or_false,not_or] at hc
   exact (sb.2 c hc.1).trans (a5 c o hc.1 hc.2 q)) hf
  have hn:H s.heap.objs.size=none:=I.hok.fresh (Nat.le_refl _)
  have ht2:h2'.get? s.heap.objs.size=some { cls:=.type "tuple",data:=.seq #[.int ((i+1:Nat):Int) tk,u] }:=(sb.2 _ nt).trans a3
  have hok:HOk X.prog X.w (upd H s.heap.objs.size (.tup [.int ((i+1:Nat):Int),xs[i]])) h2':=fun c o q=>by
   by_cases hb:c=s.heap.objs.size
   ·subst hb
    rw [upd_same] at q
    cases q
    exact ⟨by show 2≤sizeLine;decide,[.int ((i+1:Nat):Int) tk,u],.cons ⟨_,rfl⟩ (.cons rux .nil),_,ht2,rfl,_,rfl⟩
   ·rw [upd_ne hb] at q
    exact (I1.hok c o q).stay (fun _ _ _ q=>q) (fun c q=>by rw [upd_ne (ne_of_none q hn)];exact q) fun c xs q=>by rw [upd_ne (ne_of_none q hn)];exact q
  have I2:=I1.trackI (t:=s.heap.objs.size) I.sz hn (Nat.ne_of_gt I.lt) (fun x c e z=>by
   obtain ⟨v,q⟩:=I.cell x c e
   exact absurd q.lt (by rw [z];exact Nat.lt_irrefl _)) (fun p hp z=>absurd (Heap.lt_size (I.pin p hp).1) (by rw [z];exact Nat.lt_irrefl _)) hok
  refine ⟨.ref s.heap.objs.size,_,I2,rfl,⟨_,_,ex,hn,rfl,rfl⟩,⟨⟨_,z2⟩,?_⟩,fun c hc=>?_⟩
  ·obtain ⟨o,q,r⟩:=a2
   exact ⟨o,(sb.2 _ ne.symm).trans q,r⟩
  ·have:c≠s.heap.objs.size:=by
    obtain ⟨o4,e4,_⟩:=h4
    simp only [List.mem_cons,List.not_mem_nil,or_false] at hc
    rcases hc with rfl | rfl
    ·exact Nat.ne_of_lt (Heap.lt_size h1)
    ·exact Nat.ne_of_lt (Heap.lt_size e4)
   rw [upd_ne this]
   exact (hf c hc).1
 done:=by
  intro X hP hw hK hc i pins s σ H E I hf st hg
  subst hP hw hK
  obtain ⟨ha,hend⟩:=hg
  obtain ⟨⟨old,h1⟩,h4⟩:=st
  obtain ⟨us,ru,pu,_⟩:=I.list ha
  have lu:=ru.length
  have ei:i=us.toArray.size:=by simp;omega
  subst ei
  exact wpAny_pyNext_enum_endD (draws1 (P:=X.prog) (w:=X.w) (A:=X.A.in1) (I.ok.hd hc) it a (li_ne h4 pu.isList) us.toArray) h1 ⟨by omega,h4,pu.isList⟩ fun h' a7=>⟨rfl,I.turnedL (its:=[e,it]) (t':=s.toks) (fun c o hc q=>by
   simp only [List.mem_cons,List.not_mem_nil,or_false,not_or] at hc
   exact a7 c o hc.2 q) hf⟩
 self:=fun _ _ _ _ _ st h=>by
  obtain ⟨⟨old,h1⟩,_⟩:=st
  exact wpAny_pyIter_enum h1 h
theorem meets_enum1 (l:Addr) (items:Array Value) (n:Nat) (dct:Option Addr) (sl:Array (Option Value)) (t:Tok) :
  Meets (Builtin.«enumerate.__new__» ⟨[.type "enumerate",.ref l],[("start",.int 1 t)]⟩) (fun _ R s=>s.heap.get? l=some { cls:=.type "list",dict:=dct,data:=.seq items n,slots:=sl }∧∀ tk,
   R (.ok (.ret (.ref (s.heap.push { cls:=.type "list_iterator",data:=.fields #[.ref l,.int 0 0] }).objs.size))) { s with heap:=(s.heap.push { cls:=.type "list_iterator",data:=.fields #[.ref l,.int 0 0] }).push { cls:=.type "enumerate",data:=.fields #[.none,.bool false,.ref s.heap.objs.size,rawInt 1,.none,.none] },toks:=tk }):=
 .of_wp fun prog w A R s ⟨hl,h⟩=>by
  obtain ⟨hp,g,d,tk,os⟩:=s
  have sub:=sub_enumerate
  have il:Heap.IsList (Shared.heap ⟨hp,g,d,tk,os⟩) l items:=⟨_,hl,rfl,n,rfl⟩
  wp_walk using AutoSeq1.wpAny_loadPart' hl
  refine wpAny_stack_any fun st=>wpAny_pure ?_
  split
  ·rename_i c _ _ _ _ _
   cases (c == Value.type "enumerate") <;> (wp_walk using AutoSeq1.wpAny_loadPart' hl,wpAny_pyIter_list il;exact ⟨_,rfl,h _⟩)
  ·wp_walk using AutoSeq1.wpAny_loadPart' hl,wpAny_pyIter_list il
   exact ⟨_,rfl,h _⟩
section
variable {prog:Program} {w:World} {A:Around} {E:Value→Shared→Prop} {s:Shared}
theorem typeCall_enum1 (a b:Value):checkTypeCall "enumerate" ⟨[a],[("start",b)]⟩=pure ():=by kernel_rfl
theorem newCall_enum1 (a b:Value):checkBuiltinCall "enumerate.__new__" ⟨[.type "enumerate",a],[("start",b)]⟩=pure ():=by kernel_rfl
theorem obj_args1 (a b c:Value):argsOk "object.__init__" ⟨[a,b],[("start",c)]⟩:=by
 have e:=signature?_of (id:="object.__init__") (n:="__tini__".toList) (o:="tcejbo".toList) (by kernel_rfl) F.owner_object
 unfold argsOk
 rw [e]
 kernel_rfl
theorem obj_init1 (self a b:Value):Meets (Builtin.«object.__init__» ⟨[self,a],[("start",b)]⟩) (fun _ R s=>s.TypeIs self "enumerate"∧R (.ok (.ret .none)) s):=.of_wp fun prog w A R s ⟨hT,hq⟩=>by
 have q1:=F.called_enumerate.init.lookup
 have q2:=F.called_enumerate.made
 have q3:(some "enumerate.__new__" != some "object.__new__")=true:=by decide
 repeat (any_goals (first | assumption | wp_step))
 exact ⟨_,rfl,hq⟩
theorem call_enum1 {l:Addr} {items:Array Value} {t:Tok} {Q:Value→Shared→Prop} (hL:s.heap.IsList l items)
  (h:∀ h' tk,IsEnum h' (s.heap.objs.size+1) s.heap.objs.size 1 .none→h'.IsListIter s.heap.objs.size l 0→(∀ b o,s.heap.get? b=some o→h'.get? b=some o)→Q (.ref (s.heap.objs.size+1)) { s with heap:=h',toks:=tk }) :
  wpAny (model prog w) A (call (.type "enumerate") [.ref l] [("start",.int 1 t)]) Q E s:=by
 obtain ⟨⟨c0,dct,dt,sl⟩,hl,hc0,n,hd0⟩:=hL
 obtain rfl:c0=.type "list":=hc0
 obtain rfl:dt=.seq items n:=hd0
 have ft:=F.called_enumerate
 obtain ⟨c,tl,hm⟩:=ft.mro
 have q1:=ft.notType
 have q2:=ft.canCreate
 have q3:=ft.made
 have q4:=ft.sub
 have q5:=typeCall_enum1 (.ref l) (.int 1 t)
 refine wpAny_call (codeAny_of_tree (show wpAny _ _ (callAny (.type "enumerate") _) _ _ _ from wpAny_pure ⟨Code.quiet_builtin _ (by decide +kernel),codeAny_builtin F.entry_type_call ?_⟩))
 rw [Around.under_plain (weight_type_call_type "enumerate" [.ref l] [("start",.int 1 t)]) (units_type_call_type "enumerate" [.ref l] [("start",.int 1 t)])]
 repeat (any_goals (first | assumption | wp_step))
 have hz:(s.heap.push { cls:=.type "list_iterator",data:=.fields #[.ref l,.int 0 0] }).objs.size=s.heap.objs.size+1:=Heap.size_push ..
 have g:=meets_enum1 l items n dct sl t prog w A.in1 (wants (fun obj s₁=>s₁.TypeIs obj "enumerate"∧Q obj s₁) E) s ⟨hl,fun tk=>by
  show _∧_
  rw [hz]
  have e1:IsEnum ((s.heap.push { cls:=.type "list_iterator",data:=.fields #[.ref l,.int 0 0] }).push { cls:=.type "enumerate",data:=.fields #[.none,.bool false,.ref s.heap.objs.size,rawInt 1,.none,.none] }) (s.heap.objs.size+1) s.heap.objs.size 1 .none:=by rw [← hz];exact Heap.get?_push_size _ rfl
  exact ⟨⟨_,e1,rfl⟩,h _ tk e1 ⟨_,Heap.get?_push_of_some _ (Heap.get?_push_size _ rfl),rfl,rfl⟩ fun b o x=>Heap.get?_push_of_some _ (Heap.get?_push_of_some _ x)⟩⟩
 refine codeAny_mono (codeAny_call_builtin ft.plain F.entry_enumerate_new (wpAny_of_eq (newCall_enum1 (.ref l) (.int 1 t)) g)) fun r s₁ hr=>?_
 match r,hr with
 | .error e,hr=>exact hr
 | .ok (.ret obj),⟨hT,hq⟩=>
  have i1:=ft.init.lookup
  have i2:=ft.init.bind obj
  repeat (any_goals (first | assumption | wp_step))
  have g2:=obj_init1 obj (.ref l) (.int 1 t) prog w A.in1 (wants (fun r s₂=>r=.none∧Q obj s₂) E) s₁ ⟨hT,rfl,hq⟩
  refine codeAny_mono (codeAny_call_builtin ft.init.plain F.entry_object_init (ft.init.check _ _ _ _ _ _ _ _ hT (obj_args1 obj (.ref l) (.int 1 t)) g2)) fun r₂ s₂ hr₂=>?_
  match r₂,hr₂ with
  | .error e,hr₂=>exact hr₂
  | .ok (.ret r),⟨e,hq⟩=>
   subst e
   repeat (any_goals (first | assumption | wp_step))
end
theorem callWith_type_kw {M:Model} {A:Around} {E:Value→Shared→Prop} {s:Shared} {env:Env} {pos:Pos} {T:String} {e:Expr} {kws:List Keyword} {Q:Value→Shared→Prop}
  (h:wpAny M A (spliced (backTo pos (starEach [e] env))) (fun vs s₁=>wpAny M A (evalAll ((backToKw pos (keywordEach kws env)).map (·.2))) (fun kvs s₂=>wpAny M A (call (.type T) vs (((backToKw pos (keywordEach kws env)).filterMap (·.1)).zip kvs)) Q E s₂) E s₁) E s)
  (he:backTo pos (starEach [e] env)=[(false,eval e env)]:=by rfl)
  (hall:(backToKw pos (keywordEach kws env)).all (·.1.isSome)=true:=by rfl) (hkw:(backToKw pos (keywordEach kws env)).any (·.1.isNone)=false:=by rfl) :
  wpAny M A (callWith pos (.type T) [] (backTo pos (starEach [e] env)) (backToKw pos (keywordEach kws env))) Q E s:=by
 unfold callWith
 rw [he] at h ⊢
 refine wpAny_bind (wpAny_holding (wpAny_mono (evalArgs_kwB (Q:=fun a s₁=>wpAny M A (call (.type T) a.pos a.kw) Q E s₁) hall h) (fun a s₁ h₁=>wpAny_bind (wpAny_standAt ?_)) fun _ _ x=>x))
 simp only [hkw,List.any_cons,List.any_nil,Bool.or_false]
 refine wpAny_bind (wpAny_pure (wpAny_bind (wpAny_mono h₁ (fun r s₂ hr=>wpAny_bind (wpAny_holding (wpAny_point (wpAny_pure hr)))) fun _ _ x=>x)))
section
variable {X:Cx}
theorem Call_kw1 {M:Model} {A:Around} {E:Value→Shared→Prop} {s:Shared} {env:Env} {func e:Expr} {kws:List Keyword} {pos:Pos} {Q:Value→Shared→Prop}
  (h:wpAny M A (eval func env) (fun f s₁=>wpAny M A (callWith pos f [] (backTo pos (starEach [e] env)) (backToKw pos (keywordEach kws env))) Q E s₁) E s)
  (he:eval (.Call func [e] kws pos) env=(do callWith pos (← eval func env) [] (backTo pos (starEach [e] env)) (backToKw pos (keywordEach kws env))):=by rfl):wpAny M A (eval (.Call func [e] kws pos) env) Q E s:=he ▸ wpAny_bind h
def iEnum1 (K:PySem.W.Frag) (ta:TA):TI:=fun σ H R=>ta σ H fun vs H1=>∃ a xs,vs=[.ref a]∧SqL K H1 a xs∧R (Ite1 K a xs) H1
theorem pi_enum1 {elts:List Expr} {x1} {tpos:Pos} {a:Expr} {ta:TA} {p pos kp cp:Pos} {j:Nat} (hg:Gl X "enumerate") (hm:X.mg "enumerate"=none) (ha:PA X [a] ta) (hs:backTo pos (starEach [a] X.env)=[(false,eval a X.env)]:=by rfl)
  (he:eval (.Call (.Name "enumerate" p) [a] [⟨some "start",.Constant (.int 1) j cp,kp⟩] pos) X.env=(do callWith pos (← eval (.Name "enumerate" p) X.env) [] (backTo pos (starEach [a] X.env)) (backToKw pos (keywordEach [⟨some "start",.Constant (.int 1) j cp,kp⟩] X.env))):=by rfl):PI X (.Tuple elts x1 tpos) (.Call (.Name "enumerate" p) [a] [⟨some "start",.Constant (.int 1) j cp,kp⟩] pos) (iEnum1 X.K ta):=by
 intro pins s σ H R I h
 refine Call_kw1 (ld_blt I hg hm boot_enumerate (callWith_type_kw (thn (ha pos pins s σ H _ I h) fun us s1 ⟨vs,H1,I1,r1,q1⟩=>?_) hs)) he
 obtain ⟨l1,xs,e,h1,q⟩:=q1
 subst e
 cases r1 with
 | cons r rr=>
  cases rr
  cases r
  refine kws_cons (wpAny_Constant_int (kws_nil ?_))
  have I1':=I1.tok (s1.toks+1)
  obtain ⟨us,ru,pu,_⟩:=I1'.list h1
  refine call_enum1 (t:=s1.toks) pu.isList fun h' tk z1 z2 z7=>?_
  have I2:Inv X pins σ H1 { s1 with heap:=h',toks:=tk }:=I1'.kept (t':=tk) z7
  refine wpAny_pyIter_enum z1 ⟨_,[s1.heap.objs.size+1,s1.heap.objs.size],_,_,_,rfl,I2,turn_enum1 (Nat.succ_ne_self _) xs,⟨⟨_,z1⟩,z2⟩,fun c hc=>?_,q⟩
  have hb:s1.heap.objs.size≤c:=by
   simp only [List.mem_cons,List.not_mem_nil,or_false] at hc
   rcases hc with rfl | rfl
   ·exact Nat.le_add_right _ _
   ·exact Nat.le_refl _
  exact I1.fpOk hb (I1.hok.fresh hb)
theorem for_enum1 {K:PySem.W.Frag} {a:Addr} {xs:List V} {g:TG} {tb:TS} {D:Ends} {σ:St} {H:Hp} (Pv:Nat→St→Hp→Prop) (h0:Pv 0 σ H) (hl:∀ i σ H,Pv i σ H→SqL K H a xs)
  (hs:∀ i x t σ H,xs[i]?=some x→H t=none→Pv i σ H→g (.ref t) σ (upd H t (.tup [.int ((i+1:Nat):Int),x])) fun σ2 H2=>tb { D with nx:=Pv (i+1),ct:=Pv (i+1),bk:=D.nx } σ2 H2) (hd:∀ σ H,Pv xs.length σ H→D.nx σ H) :
  ∃ W:Nat→Nat→St→Hp→Prop,(∃ m,W 0 m σ H)∧∀ i m σ H,W i m σ H→
   ((Ite1 K a xs).stop i H∧D.nx σ H)∨((Ite1 K a xs).go i H∧∃ N:St→Hp→Prop,(∀ σ' H',N σ' H'→∃ m',m'<m∧W (i+1) m' σ' H')∧∀ x H',(Ite1 K a xs).yld i H x H'→g x σ H' fun σ2 H2=>tb { D with nx:=N,ct:=N,bk:=D.nx } σ2 H2):=by
 refine ⟨fun i m σ H=>m=xs.length-i∧i≤xs.length∧Pv i σ H,⟨xs.length,by simp,Nat.zero_le _,h0⟩,?_⟩
 rintro i m σ H ⟨rfl,hi,p⟩
 have q1:=hl i σ H p
 by_cases hlt:i<xs.length
 ·refine .inr ⟨⟨q1,hlt⟩,Pv (i+1),fun σ' H' p'=>⟨xs.length-(i+1),by omega,rfl,hlt,p'⟩,fun v H' y=>?_⟩
  obtain ⟨x,t,hx,ht,ev,eh⟩:=y
  subst ev eh
  exact hs i x t σ _ hx ht p
 ·have e:i=xs.length:=by omega
  subst e
  exact .inl ⟨⟨q1,rfl⟩,hd σ H p⟩
end
end
end L2
namespace L2
open PySem PySem.Spec PyProof.Rows
structure RoomH (k:Nat) (A:Around):Prop where
 dp:A.depth+3*k+5<recursionLimit
 un:A.units+16*k+200<cLine
structure FnOkH (P:Program) (w:World) (K:PySem.W.Frag) (mg:Str→Option Value) (base:Heap) (CX:CXT) (k:Nat) (f:Addr) (fd:FuncData) (ps:List Str) (sp:Sp):Prop where
 len:∀ vs H Q E,sp vs H Q E→vs.length=ps.length
 run:∀ (A:Around) (outer:List Env) (s:Shared) (H:Hp) (args:Args) (us:List Value) (vs:List V) (Q:VK) (E:XK),RoomH k A→Env0 P w K mg base A outer s H→BindsTo s fd args (ps.zip us)→Vals vs us→sp vs H Q E→
  codeAny (model P w) A (.call (.ref f) args) (CR CX outer P w H s Q E) s
abbrev Cx.rough (X:Cx):Cx:={ X with calm:=false }
section
variable {P:Program} {w:World} {K:PySem.W.Frag} {mg:Str→Option Value} {base:Heap}
def FnBH (P:Program) (w:World) (K:PySem.W.Frag) (mg:Str→Option Value) (base:Heap) (CX:CXT) (x:Str) (k:Nat) (ps:List Str) (sp:Sp):Prop:=
 ∃ f fd,mg x=some (.ref f)∧PySem.W.keepIn K (.ref f)=true∧Binds K fd ps []∧FnOkH P w K mg base CX k f fd ps sp
end
section
variable {X:Cx} {CX:CXT} {k j:Nat} {f:Addr} {fd:FuncData} {ps:List Str} {sp:Sp} {dvs:List V} {ds:List Value} {E:XK} {x:Str} {p pos:Pos} {e:Expr} {es:List Expr} {t:TA}
end
end L2
namespace L2
open PySem PySem.Spec PyProof.Rows
section
variable {X:Cx}
theorem pe_xfldK {K:PySem.W.Frag} {e:Expr} {f:Str} {pos:Pos} {ta:TE} (hK:X.K=K) (he:PE X e ta) (hb:attributeBase e f X.env (eval e X.env)=eval e X.env):PE X (.Attribute e f pos) (tXf K ta f):=by
 subst hK
 exact pe_xfld he hb
end
end L2
namespace L2
open PySem PySem.Spec PyProof.Rows
section
variable {X:Cx}
variable {j:Nat} {m:Str} {pos apos:Pos} {e o:Expr} {es:List Expr} {ta:TE} {t:TA}
end
end L2
namespace L2
open PySem PySem.Spec PyProof.Rows
section
variable {X:Cx}
def rDPop:V→List V→Hp→VK→Prop:=fun x vs H Q=>∃ a kvs k dv,x=.ref a∧vs=[kV k,dv]∧H a=some (.dK kvs)∧(∀ v,valV kvs k=some v→Q v (upd H a (.dK (dropK kvs k))))∧(valV kvs k=none→Q dv H)
def rEqX (K:PySem.W.Frag):R2:=fun x y H Q=>∃ p q s1 s2 r1 r2 a b c d,x=.ref p∧y=.ref q∧SqT K H p [.str s1,.ref r1]∧SqT K H q [.str s2,.ref r2]∧SqT K H r1 [.int a,.int b]∧SqT K H r2 [.int c,.int d]∧(r1=r2→a=c∧b=d)∧Q (.bl (eqV (.str s1) (.str s2) && eqVs [.int a,.int b] [.int c,.int d])) H
theorem call_isXDK {K:PySem.W.Frag} {c:Value} (hK:X.K=K):CallR X (.builtin "isinstance") (rIsXD K c):=by
 subst hK
 exact call_isXD
end
end L2
namespace L2
open PySem PySem.Spec PyProof.Rows
section
variable {X:Cx}
def tFree (t:TS):TS:=fun D σ H=>∃ a o u,H a=some (.frz o u)∧(∀ o' u',X.H₀ a≠some (.frz o' u'))∧t D σ (upd H a u)
theorem ps_free {st:Stmt} {t:TS} (h:PS X st t):PS X st (tFree (X:=X) t):=by
 intro pins s σ H D I q
 obtain ⟨a,o,u,ha,h0,q⟩:=q
 exact h pins s σ _ D (I.thaw ha h0) q
def tFree? (t:TS):TS:=fun D σ H=>t D σ H∨tFree (X:=X) t D σ H
theorem ps_free? {st:Stmt} {t:TS} (h:PS X st t):PS X st (tFree? (X:=X) t):=by
 intro pins s σ H D I q
 rcases q with q | q
 ·exact h pins s σ H D I q
 ·exact ps_free h pins s σ H D I q
end
end L2
namespace L2
open PySem PySem.Spec PyProof.Rows
section
variable {X:Cx}
theorem pa_dcons {pos:Pos} {es:List Expr} {t:TA} (hr:PA X es t):PA X (.Dict [] [] pos::es) (tCons tDNewK t):=pa_cons pe_dnewK hr rfl
def tDNs (n:Nat):TA:=fun _ H Q=>∀ (ds:List Addr) (H':Hp),ds.length=n→(∀ d∈ds,H d=none∧H' d=some (.dK []))→(∀ b u,H b=some u→H' b=some u)→Q (ds.map V.ref) H'
theorem pa_dN:∀ ps:List Pos,PA X (ps.map fun p=>Expr.Dict [] [] p) (tDNs ps.length)
 | []=>fun pos pins s σ H Q I h=>pa_nil pos pins s σ H Q I (h [] H rfl (fun d hd=>absurd hd List.not_mem_nil) fun _ _ e=>e)
 | p::ps=>fun pos pins s σ H Q I h=>pa_dcons (pa_dN ps) pos pins s σ H Q I fun d nd ds H' hl hd hs=>h (d::ds) H' (by rw [List.length_cons,List.length_cons,hl]) (fun x hx=>by
   rcases List.mem_cons.mp hx with rfl | hx
   ·exact ⟨nd,hs _ _ upd_same⟩
   ·obtain ⟨h1,h2⟩:=hd x hx
    by_cases e:x=d
    ·rw [e] at h1
     rw [upd_same] at h1
     cases h1
    ·rw [upd_ne e] at h1
     exact ⟨h1,h2⟩) fun b u e=>hs _ _ (by rw [upd_ne (fun z=>by rw [z,nd] at e;cases e)];exact e)
def posOf:Expr→Pos
 | .Dict _ _ p=>p
 | _=>⟨0,0,0,0⟩
def allD:List Expr→Bool
 | []=>true
 | .Dict [] [] _::r=>allD r
 | _=>false
theorem allD_eq:∀ {es:List Expr},allD es=true→es=(es.map posOf).map fun p=>Expr.Dict [] [] p
 | [],_=>rfl
 | .Dict [] [] p::r,h=>by
  have ih:=allD_eq (es:=r) h
  rw [List.map_cons,List.map_cons,← ih]
  rfl
theorem pe_dl {es:List Expr} {pos:Pos} (n:Nat) (h:allD es=true) (hn:es.length=n):PE X (.List es pos) (tLst (tDNs n)):=by
 have e:=allD_eq h
 have:n=(es.map posOf).length:=by rw [List.length_map,hn]
 rw [this]
 generalize es.map posOf=ps at e
 subst e
 exact pe_lst (pa_dN ps)
theorem pe_alt {e:Expr} {t1 t2:TE} (h1:PE X e t1) (h2:PE X e t2):PE X e (fun σ H Q=>t1 σ H Q∨t2 σ H Q):=fun pins s σ H Q I h=>h.elim (h1 pins s σ H Q I) (h2 pins s σ H Q I)
def rInsert:V→List V→Hp→VK→Prop:=fun x vs H Q=>∃ (l:Addr) (xs:List V) (i:Nat) (y:V),x=.ref l∧vs=[.int (i:Int),y]∧H l=some (.lst xs)∧i≤xs.length∧xs.length≤900∧Q .non (upd H l (.lst (xs.take i++y::xs.drop i)))
end
end L2
namespace G
def gcd (a b:Int):Int:=(Int.gcd a b:Int)
theorem gcd_nonneg (a b:Int):0≤gcd a b:=Int.natCast_nonneg _
theorem gcd_zero (a:Int) (h:0≤a):gcd a 0=a:=by
 unfold gcd;rw [Int.gcd_zero_right];omega
theorem gcd_abs (a b:Int):gcd (if a<0 then -a else a) (if b<0 then -b else b)=gcd a b:=by
 unfold gcd;congr 1
 split <;> split <;> simp [Int.neg_gcd,Int.gcd_neg]
theorem gcd_step (a b:Int) (hb:0<b):gcd b (a % b)=gcd a b:=by
 unfold gcd;congr 1
 rw [Int.gcd_comm b]
 have e:a=a % b+(a / b)*b:=by have:=Int.emod_add_mul_ediv a b;rw [Int.mul_comm] at this;omega
 have h:=Int.gcd_add_mul_right_left b (a % b) (a / b)
 rw [← e] at h
 exact h.symm
theorem fdiv_nat (a b:Nat):(a:Int).fdiv (b:Int)=((a / b:Nat):Int):=by
 rw [Int.fdiv_eq_ediv_of_nonneg _ (Int.natCast_nonneg _)];rfl
theorem den_pos (x:Rat):(0:Int)<(x.den:Int):=by have:=x.den_nz;omega
theorem gcd_den (x:Rat):gcd x.num x.den=1:=by
 have h:=x.reduced
 have e:Int.gcd x.num x.den=1:=h
 unfold gcd;rw [e];rfl
theorem init_spec (a b:Int) (hb:b≠0):a.fdiv (if b<0 then -(gcd a b) else gcd a b)=(Rat.divInt a b).num∧b.fdiv (if b<0 then -(gcd a b) else gcd a b)=((Rat.divInt a b).den:Int):=by
 have gp:0<Int.gcd a b:=Int.gcd_pos_of_ne_zero_right a hb
 obtain ⟨k,hk⟩:=Int.gcd_dvd_left a b
 obtain ⟨m,hm⟩:=Int.gcd_dvd_right a b
 have gz:(Int.gcd a b:Int)≠0:=by omega
 rw [Rat.num_divInt,Rat.den_divInt,if_neg hb,Int.gcd_comm b a]
 unfold gcd
 generalize hgg:Int.gcd a b=g at *
 have e1:∀ z:Int,(g*z).fdiv g=z:=fun z=>by rw [Int.mul_comm,Int.mul_fdiv_cancel _ gz]
 have e2:∀ z:Int,(g*z).fdiv (-(g:Int)) = -z:=fun z=>by
  have:(g:Int)*z=(-z)*(-(g:Int)):=by rw [Int.neg_mul_neg,Int.mul_comm]
  rw [this,Int.mul_fdiv_cancel _ (by omega)]
 by_cases hs:b<0
 ·rw [if_pos hs,Int.sign_eq_neg_one_of_neg hs]
  constructor
  ·conv=>lhs;rw [hk,e2]
   have:-1*a = -k*g:=by rw [hk,Int.mul_comm (g:Int) k,Int.neg_mul,Int.neg_mul,Int.one_mul]
   rw [this,Int.mul_ediv_cancel _ gz]
  ·conv=>lhs;rw [hm,e2]
   have mneg:m<0:=by
    rcases Int.lt_trichotomy m 0 with h | h | h
    ·exact h
    ·rw [h] at hm;omega
    ·have:=Int.mul_pos (show (0:Int)<g by omega) h;omega
   have:b.natAbs=m.natAbs*g:=by rw [hm,Int.natAbs_mul,Int.natAbs_natCast,Nat.mul_comm]
   rw [this,Nat.mul_div_cancel _ gp];omega
 ·rw [if_neg hs,Int.sign_eq_one_of_pos (by omega)]
  constructor
  ·conv=>lhs;rw [hk,e1]
   have:1*a=k*g:=by rw [hk,Int.mul_comm (g:Int) k,Int.one_mul]
   rw [this,Int.mul_ediv_cancel _ gz]
  ·conv=>lhs;rw [hm,e1]
   have mpos:0<m:=by
    rcases Int.lt_trichotomy m 0 with h | h | h
    ·have:=Int.mul_neg_of_pos_of_neg (show (0:Int)<g by omega) h;omega
    ·rw [h] at hm;omega
    ·exact h
   have:b.natAbs=m.natAbs*g:=by rw [hm,Int.natAbs_mul,Int.natAbs_natCast,Nat.mul_comm]
   rw [this,Nat.mul_div_cancel _ gp];omega
theorem fdiv_exact {a:Int} {g:Nat} (h:(g:Int)∣a):a.fdiv (g:Int)=a.tdiv g:=by
 rw [Int.fdiv_eq_ediv_of_nonneg _ (Int.natCast_nonneg _),Int.tdiv_eq_ediv_of_dvd h]
theorem add_spec (x y:Rat) :
  let g:=gcd x.den y.den
  let own:=(x.den:Int).fdiv g
  let top:=x.num*((y.den:Int).fdiv g)+y.num*own
  let left:=gcd top g
  top.fdiv left=(x+y).num∧own*((y.den:Int).fdiv left)=((x+y).den:Int):=by
 have hx:=x.den_nz
 have hy:=y.den_nz
 have eg:gcd x.den y.den=((x.den.gcd y.den:Nat):Int):=by unfold gcd;rw [Int.gcd_natCast_natCast]
 have gpos:0<x.den.gcd y.den:=Nat.gcd_pos_of_pos_left _ (by omega)
 intro g own top left
 have hown:own=((x.den / x.den.gcd y.den:Nat):Int):=by show (x.den:Int).fdiv (gcd x.den y.den)=_;rw [eg,fdiv_nat]
 have htop:top=x.num*((y.den / x.den.gcd y.den:Nat):Int)+y.num*((x.den / x.den.gcd y.den:Nat):Int):=by
  show x.num*((y.den:Int).fdiv (gcd x.den y.den))+y.num*own=_
  rw [hown,eg,fdiv_nat]
 have hleft:left=((top.natAbs.gcd (x.den.gcd y.den):Nat):Int):=by
  show ((Int.gcd top (gcd x.den y.den):Nat):Int)=_
  rw [eg];rfl
 have e1:x+y=Rat.add x y:=rfl
 rw [e1];delta Rat.add;dsimp only
 rw [hleft,hown]
 split
 ·rename_i h1
  rw [htop]
  simp only [h1,Nat.div_one,Nat.gcd_one_right,fdiv_nat]
  simp
 ·rename_i h1
  rw [Rat.maybeNormalize_eq]
  dsimp only
  simp only [Int.divExact_eq_tdiv]
  rw [← htop]
  have d1:((top.natAbs.gcd (x.den.gcd y.den):Nat):Int)∣top:=Int.ofNat_dvd_left.2 (Nat.gcd_dvd_left _ _)
  have d2:(top.natAbs.gcd (x.den.gcd y.den):Nat)∣y.den:=Nat.dvd_trans (Nat.gcd_dvd_right _ _) (Nat.gcd_dvd_right _ _)
  refine ⟨?_,?_⟩
  ·rw [fdiv_exact d1]
  ·rw [fdiv_nat,← Int.natCast_mul,Nat.mul_div_assoc _ d2]
theorem mul_spec (x y:Rat) :
  let first:=gcd x.num y.den
  let second:=gcd y.num x.den
  x.num.fdiv first*y.num.fdiv second=(x*y).num∧(x.den:Int).fdiv second*(y.den:Int).fdiv first=((x*y).den:Int):=by
 intro first second
 have e1:x*y=Rat.mul x y:=rfl
 rw [e1];delta Rat.mul;dsimp only
 have h1:first=((x.num.natAbs.gcd y.den:Nat):Int):=rfl
 have h2:second=((y.num.natAbs.gcd x.den:Nat):Int):=rfl
 rw [h1,h2]
 simp only [Int.divExact_eq_tdiv,Nat.divExact_eq_div]
 rw [fdiv_exact (Int.ofNat_dvd_left.2 (Nat.gcd_dvd_left _ _)),fdiv_exact (Int.ofNat_dvd_left.2 (Nat.gcd_dvd_left _ _)),fdiv_nat,fdiv_nat]
 exact ⟨rfl,by rw [Int.natCast_mul]⟩
end G
namespace G
def Bd (n:Nat) (x:Rat):Prop:=x.num.natAbs≤2 ^ n∧x.den≤2 ^ n
theorem pow_le {m n:Nat} (h:m≤n):2 ^ m≤2 ^ n:=Nat.pow_le_pow_right (by decide) h
theorem Bd.mono {m n:Nat} {x:Rat} (b:Bd m x) (h:m≤n):Bd n x:=⟨Nat.le_trans b.1 (pow_le h),Nat.le_trans b.2 (pow_le h)⟩
theorem natAbs_ediv_le (a:Int) (d:Nat):(a / (d:Int)).natAbs≤a.natAbs:=by
 rcases Nat.eq_zero_or_pos d with h | h
 ·subst h;simp
 ·have hd:(0:Int)<d:=by omega
  rcases Int.le_total 0 a with ha | ha
  ·have h1:=Int.ediv_nonneg ha (Int.le_of_lt hd)
   have h2:=Int.ediv_le_self (d:Int) ha
   omega
  ·have h1:a / (d:Int)≤0:=Int.ediv_nonpos_of_nonpos_of_neg ha hd
   have h2:a≤a / (d:Int):=by
    rw [Int.le_ediv_iff_mul_le hd]
    have h3:0≤(-a)*((d:Int)-1):=Int.mul_nonneg (by omega) (by omega)
    rw [Int.neg_mul,Int.mul_sub,Int.mul_one] at h3
    omega
   omega
theorem Bd.divInt {n:Nat} {a b:Int} (ha:a.natAbs≤2 ^ n) (hb:b.natAbs≤2 ^ n):Bd n (Rat.divInt a b):=by
 constructor
 ·rw [Rat.num_divInt]
  refine Nat.le_trans (natAbs_ediv_le _ _) ?_
  rw [Int.natAbs_mul]
  have:b.sign.natAbs≤1:=by
   rcases Int.lt_trichotomy b 0 with h | h | h
   ·rw [Int.sign_eq_neg_one_of_neg h];decide
   ·rw [h];decide
   ·rw [Int.sign_eq_one_of_pos h];decide
  calc b.sign.natAbs*a.natAbs≤1*a.natAbs:=Nat.mul_le_mul_right _ this
   _≤2 ^ n:=by omega
 ·rw [Rat.den_divInt]
  split
  ·exact Nat.one_le_two_pow
  ·exact Nat.le_trans (Nat.div_le_self _ _) hb
theorem mul_le_pow {a b m n:Nat} (ha:a≤2 ^ m) (hb:b≤2 ^ n):a*b≤2 ^ (m+n):=by
 rw [Nat.pow_add];exact Nat.mul_le_mul ha hb
theorem Bd.mul {m n:Nat} {x y:Rat} (hx:Bd m x) (hy:Bd n y):Bd (m+n) (x*y):=by
 constructor
 ·rw [Rat.num_mul]
  refine Nat.le_trans (natAbs_ediv_le _ _) ?_
  rw [Int.natAbs_mul]
  exact mul_le_pow hx.1 hy.1
 ·rw [Rat.den_mul]
  exact Nat.le_trans (Nat.div_le_self _ _) (mul_le_pow hx.2 hy.2)
theorem Bd.zero:Bd 0 0:=⟨by decide,by decide⟩
theorem Bd.one:Bd 0 1:=⟨by decide,by decide⟩
end G
namespace G
theorem divInt_nn (n:Int) {d:Int} (h:0<d):0≤Rat.divInt n d↔0≤n:=Rat.divInt_nonneg_iff_of_pos_right h
theorem lt_div {a b c d:Int} (hb:0<b) (hd:0<d):Rat.divInt a b<Rat.divInt c d↔a*d<c*b:=by
 rw [← Rat.not_le,Rat.le_iff_sub_nonneg,Rat.divInt_sub_divInt _ _ (by omega) (by omega),divInt_nn _ (Int.mul_pos hb hd)]
 omega
end G
namespace G
open PySem
theorem str_ext {x y:Str} (h:x.cps.toList=y.cps.toList):x=y:=by
 cases x;cases y
 exact congrArg Str.mk (Array.toList_inj.mp h)
theorem cps_app (x y:Str):(x++y).cps.toList=x.cps.toList++y.cps.toList:=by
 show (x.cps++y.cps).toList=_
 exact Array.toList_append
theorem app_left {x y z:Str} (h:x++y=x++z):y=z:=by
 have:=congrArg (fun u:Str=>u.cps.toList) h
 simp only [cps_app] at this
 exact str_ext (List.append_cancel_left this)
theorem app_right {x y z:Str} (h:x++y=z++y):x=z:=by
 have:=congrArg (fun u:Str=>u.cps.toList) h
 simp only [cps_app] at this
 exact str_ext (List.append_cancel_right this)
theorem text_next {n:Nat} (h:Str.ofString (toString (n:Int))=Str.ofString (toString ((n:Int)+1))):False:=by
 rw [Str.ofString_eq_toList,Str.ofString_eq_toList] at h
 have h1:=congrArg (fun u:Str=>u.cps.toList) h
 have h2:(toString (n:Int)).toList=(toString ((n:Int)+1)).toList:=List.map_inj_right (fun a b e=>Char.toNat_inj.mp e) |>.mp h1
 have h3:∀ m:Nat,(toString (m:Int)).toList=Nat.toDigits 10 m:=fun m=>Nat.toList_repr
 rw [h3 n,show ((n:Int)+1)=((n+1:Nat):Int) from rfl,h3 (n+1)] at h2
 have h4:=congrArg (fun l=>Nat.ofDigitChars 10 l 0) h2
 simp only [Nat.ofDigitChars_ten_toDigits] at h4
 omega
theorem rep_cps (c n:Nat):((List.replicate n #[c]).foldl (· ++ ·) (#[]:Array Nat)).toList=List.replicate n c:=by
 have:∀ (n:Nat) (a:Array Nat),((List.replicate n #[c]).foldl (· ++ ·) a).toList=a.toList++List.replicate n c:=by
  intro n
  induction n with
  | zero=>intro a;simp
  | succ n ih=>
   intro a
   rw [List.replicate_succ,List.foldl_cons,ih]
   simp [List.replicate_succ]
 simpa using this n #[]
theorem mul_cps (c:Nat) (n:Int):(Txt.mul ⟨#[c]⟩ n).cps.toList=List.replicate n.toNat c:=by
 unfold Txt.mul
 by_cases h1:n<1
 ·rw [if_pos h1,show n.toNat=0 by omega]
  rfl
 ·rw [if_neg h1]
  by_cases h2:n=1
  ·subst h2
   rfl
  ·rw [if_neg (by simp [h2,Str.length])]
   exact rep_cps c n.toNat
theorem len_cps (x:Str):x.length=x.cps.toList.length:=by show x.cps.size=_;rw [Array.length_toList]
def sgs:Str:="abcdefghijklmnopqrstuvwxyz0123456789."
def sgAt (i:Int):Nat:=sgs.cps.toList.getD i.toNat 0
def turnK (k c:Int):Int:=(k*(1+c / 5 % 36)+c / 180) % 37
def nameOf (k c:Int):Str:=if c % 3=0 then Txt.mul ⟨#[sgAt (c / 3 % 37)]⟩ (turnK k c+1) else Txt.mul "x" (c / 3 % 25)++⟨#[sgAt (turnK k c)]⟩++Txt.mul "x" (c / 75 % 25)
theorem sgs_list:sgs.cps.toList=[97,98,99,100,101,102,103,104,105,106,107,108,109,110,111,112,113,114,115,116,117,118,119,120,121,122,48,49,50,51,52,53,54,55,56,57,46]:=by decide +kernel
theorem sgAt_some {i:Int} (h0:0≤i) (h1:i<37):L2.atI sgs.cps.toList i=some (sgAt i):=by
 obtain ⟨n,rfl⟩:=Int.eq_ofNat_of_zero_le h0
 have hn:n<37:=by omega
 refine L2.atI_nat ?_
 unfold sgAt
 rw [sgs_list,List.getD_eq_getElem?_getD,Int.toNat_natCast]
 rw [List.getElem?_eq_getElem (by simpa using hn)]
 rfl
theorem sgAt_inj:∀ i<37,∀ j<37,sgs.cps.toList.getD i 0=sgs.cps.toList.getD j 0→i=j:=by
 rw [sgs_list]
 decide +kernel
end G
namespace G
def Cop (a b:Int):Prop:=∀ d:Int,d∣a→d∣b→d∣1
theorem Cop.one {a b:Int} (h:gcd a b=1):Cop a b:=fun d h1 h2=>by
 have:=Int.dvd_coe_gcd h1 h2
 rw [show ((Int.gcd a b:Nat):Int)=1 from h] at this
 exact this
theorem Cop.gcd {a b:Int} (h:Cop a b):Int.gcd a b=1:=by
 have h1:=Int.eq_one_of_dvd_one (Int.natCast_nonneg _) (h _ (Int.gcd_dvd_left a b) (Int.gcd_dvd_right a b))
 omega
theorem Cop.gauss {d m n:Int} (h:Cop d m) (hd:d∣m*n):d∣n:=by
 have e:=h.gcd
 rw [← Int.natAbs_dvd_natAbs] at hd ⊢
 rw [Int.natAbs_mul] at hd
 exact Nat.Coprime.dvd_of_dvd_mul_left e hd
theorem Cop.quot {B b c u v:Int} (hc:c=G.gcd B b) (c0:c≠0) (hB:B=c*u) (hb:b=c*v):Cop u v:=fun d h1 h2=>by
 have k:c*d∣c:=by
  have:=Int.dvd_coe_gcd (a:=B) (b:=b) (c:=c*d) (by rw [hB];exact Int.mul_dvd_mul_left c h1) (by rw [hb];exact Int.mul_dvd_mul_left c h2)
  rw [show ((Int.gcd B b:Nat):Int)=c from hc.symm] at this
  exact this
 obtain ⟨z,hz⟩:=k
 refine ⟨z,?_⟩
 have:c*(d*z)=c*1:=by rw [← Int.mul_assoc,← hz,Int.mul_one]
 exact (Int.eq_of_mul_eq_mul_left c0 this).symm
theorem den_ne' (x:Rat):(x.den:Int)≠0:=by have:=x.den_nz;omega
structure TInv (x:Rat) (T B s:Int):Prop where
 pB:0<B
 ps:0<s
 r:∃ r,B=s*r∧Cop T r
 v:Rat.divInt T B=x
theorem TInv.zero:TInv 0 0 1 1:=⟨by decide,by decide,⟨1,by decide,fun d _ h=>h⟩,by rw [Rat.zero_divInt]⟩
theorem fdiv_mul {c k:Int} (h:c≠0):(c*k).fdiv c=k:=by rw [Int.mul_comm,Int.mul_fdiv_cancel _ h]
theorem TInv.step {x y:Rat} {T B s:Int} (I:TInv x T B s) :
  TInv (x+y) (T*(y.den:Int).fdiv (gcd B y.den)+y.num*B.fdiv (gcd B y.den)) (B*(y.den:Int).fdiv (gcd B y.den)) (s*(gcd B y.den).fdiv (gcd s (gcd B y.den))):=by
 obtain ⟨pB,ps,⟨r,hr,cr⟩,hv⟩:=I
 have yp:=den_pos y
 have cp:0<gcd B y.den:=by
  have:=Int.gcd_pos_of_ne_zero_left (y.den:Int) (show B≠0 by omega)
  unfold gcd;omega
 generalize hc':gcd B y.den=c at cp ⊢
 have hc:=hc'.symm
 have dB:c∣B:=by rw [hc];exact Int.gcd_dvd_left _ _
 have db:c∣(y.den:Int):=by rw [hc];exact Int.gcd_dvd_right _ _
 obtain ⟨u,hu⟩:=dB
 obtain ⟨v,hv'⟩:=db
 have c0:c≠0:=by omega
 have cuv:Cop u v:=Cop.quot hc c0 hu hv'
 have ey:(y.den:Int).fdiv c=v:=by rw [hv',fdiv_mul c0]
 have eB:B.fdiv c=u:=by rw [hu,fdiv_mul c0]
 have up:0<u:=Int.pos_of_mul_pos_left (by rw [Int.mul_comm,← hu];exact pB) cp
 have vp:0<v:=Int.pos_of_mul_pos_left (by rw [Int.mul_comm,← hv'];exact yp) cp
 rw [ey,eB]
 have gp:0<gcd s c:=by
  have:=Int.gcd_pos_of_ne_zero_left c (show s≠0 by omega)
  unfold gcd;omega
 generalize hg':gcd s c=g at gp ⊢
 have hg:=hg'.symm
 have d1:g∣s:=by rw [hg];exact Int.gcd_dvd_left _ _
 have d2:g∣c:=by rw [hg];exact Int.gcd_dvd_right _ _
 obtain ⟨s1,hs1⟩:=d1
 obtain ⟨c1,hc1⟩:=d2
 have g0:g≠0:=by omega
 have cs:Cop s1 c1:=Cop.quot hg g0 hs1 hc1
 have ec:c.fdiv g=c1:=by rw [hc1,fdiv_mul g0]
 rw [ec]
 have c1p:0<c1:=Int.pos_of_mul_pos_left (by rw [Int.mul_comm,← hc1];exact cp) gp
 have s1p:0<s1:=Int.pos_of_mul_pos_left (by rw [Int.mul_comm,← hs1];exact ps) gp
 have e1:c1*u=s1*r:=by
  apply Int.eq_of_mul_eq_mul_left g0
  rw [← Int.mul_assoc,← Int.mul_assoc,← hc1,← hs1,← hu,hr]
 have k1:c1∣r:=Cop.gauss (d:=c1) (m:=s1) (fun d a b=>cs d b a) ⟨u,e1.symm⟩
 obtain ⟨r1,hr1⟩:=k1
 have e2:u=s1*r1:=by
  apply Int.eq_of_mul_eq_mul_left (show c1≠0 by omega)
  rw [e1,hr1,← Int.mul_assoc,← Int.mul_assoc,Int.mul_comm s1 c1]
 refine ⟨Int.mul_pos pB vp,Int.mul_pos ps c1p,⟨r1*v,?_,?_⟩,?_⟩
 ·rw [hr,hr1]
  simp only [Int.mul_assoc]
 ·intro d h1 h2
  have cdv:Cop d v:=fun e he hev=>by
   have z1:e∣y.num*u:=by
    have:=Int.dvd_sub (Int.dvd_trans he h1) (Int.dvd_trans hev (Int.dvd_mul_left T v))
    rw [Int.add_comm,Int.add_sub_cancel] at this
    exact this
   rw [Int.mul_comm] at z1
   have z2:e∣y.num:=Cop.gauss (fun f h3 h4=>cuv f h4 (Int.dvd_trans h3 hev)) z1
   exact Cop.one (gcd_den y) e z2 (by rw [hv'];exact Int.dvd_trans hev (Int.dvd_mul_left c v))
  have z3:d∣r1:=Cop.gauss cdv (by rw [Int.mul_comm];exact h2)
  have z4:d∣u:=by rw [e2];exact Int.dvd_trans z3 (Int.dvd_mul_left s1 r1)
  have z5:d∣v*T:=by
   have:=Int.dvd_sub h1 (Int.dvd_trans z4 (Int.dvd_mul_left y.num u))
   rw [Int.add_sub_cancel,Int.mul_comm] at this
   exact this
  exact cr d (Cop.gauss cdv z5) (by rw [hr1];exact Int.dvd_trans z3 (Int.dvd_mul_left c1 r1))
 ·rw [← hv]
  conv=>rhs;rw [← Rat.num_divInt_den y]
  rw [Rat.divInt_add_divInt _ _ (show B≠0 by omega) (den_ne' y),Rat.divInt_eq_divInt_iff (show B*v≠0 by have:=Int.mul_pos pB vp;omega) (Int.mul_ne_zero (by omega) (den_ne' y)),hv',hu]
  grind
theorem TInv.fin {x:Rat} {T B s:Int} (I:TInv x T B s):T.fdiv (gcd T s)=x.num∧B.fdiv (gcd T s)=(x.den:Int):=by
 obtain ⟨pB,ps,⟨r,hr,cr⟩,hv⟩:=I
 have e:gcd T s=gcd T B:=by
  refine Int.dvd_antisymm (gcd_nonneg _ _) (gcd_nonneg _ _) (Int.dvd_coe_gcd (Int.gcd_dvd_left _ _) (Int.dvd_trans (Int.gcd_dvd_right _ _) ⟨r,hr⟩)) (Int.dvd_coe_gcd (Int.gcd_dvd_left _ _) ?_)
  refine Cop.gauss (m:=r) (fun d h1 h2=>cr d (Int.dvd_trans h1 (Int.gcd_dvd_left _ _)) h2) ?_
  rw [Int.mul_comm,← hr]
  exact Int.gcd_dvd_right _ _
 obtain ⟨i1,i2⟩:=init_spec T B (by omega)
 rw [if_neg (by omega),hv] at i1 i2
 rw [e]
 exact ⟨i1,i2⟩
end G
namespace G
open PySem L2
theorem sum_snoc (xs:List Rat) (a:Rat):(xs++[a]).sum=xs.sum+a:=by
 induction xs with
 | nil=>simp;grind
 | cons x xs ih=>rw [List.cons_append,List.sum_cons,List.sum_cons,ih];grind
def addK (ks:List Str) (n:Str):List Str:=if n∈ks then ks else ks++[n]
def keysOf (ns:List Str):List Str:=ns.foldl addK []
theorem mem_addK {ks:List Str} {n m:Str}:m∈addK ks n↔m∈ks∨m=n:=by
 unfold addK
 split
 ·exact ⟨.inl,fun h=>h.elim id fun e=>by rw [e];assumption⟩
 ·simp
theorem nodup_addK {ks:List Str} {n:Str} (h:ks.Nodup):(addK ks n).Nodup:=by
 unfold addK
 split
 ·exact h
 ·rename_i hn
  exact List.nodup_append.mpr ⟨h,by simp,fun x hx y hy e=>hn (by rw [List.mem_singleton.mp hy] at e;rw [← e];exact hx)⟩
def upf {α:Type} (f:Str→α) (n:Str) (y:α):Str→α:=fun m=>if m=n then y else f m
theorem upf_same {α:Type} {f:Str→α} {n:Str} {y:α}:upf f n y n=y:=if_pos rfl
theorem upf_ne {α:Type} {f:Str→α} {n m:Str} {y:α} (h:m≠n):upf f n y m=f m:=if_neg h
structure Tab {α:Type} (R:Hp→V→α→Prop) (H:Hp) (kvs:List (Key × V)) (ks:List Str) (f:Str→α):Prop where
 keys:kvs.map (·.1)=ks.map (fun n=>(Sum.inr n:Key))
 vals:∀ n∈ks,∃ v,valV kvs (Sum.inr n:Key)=some v∧R H v (f n)
section
variable {α:Type} {R:Hp→V→α→Prop} {H H':Hp} {kvs:List (Key × V)} {ks:List Str} {f:Str→α} {n:Str} {v:V} {y:α}
theorem Tab.mono (t:Tab R H kvs ks f) (h:∀ v x,R H v x→R H' v x):Tab R H' kvs ks f:=⟨t.keys,fun n hn=>let ⟨v,e,r⟩:=t.vals n hn;⟨v,e,h _ _ r⟩⟩
theorem Tab.congr {g:Str→α} (t:Tab R H kvs ks f) (h:∀ n∈ks,f n=g n):Tab R H kvs ks g:=⟨t.keys,fun n hn=>let ⟨v,e,r⟩:=t.vals n hn;⟨v,e,by rw [← h n hn];exact r⟩⟩
theorem Tab.nil:Tab R H [] [] f:=⟨rfl,fun n h=>absurd h List.not_mem_nil⟩
theorem inr_in {n:Str} {ks:List Str}:(Sum.inr n:Key)∈ks.map (fun n=>(Sum.inr n:Key))↔n∈ks:=by
 constructor
 ·intro h
  obtain ⟨y,hy,e⟩:=List.mem_map.mp h
  rw [← Sum.inr.inj e]
  exact hy
 ·exact fun h=>List.mem_map.mpr ⟨n,h,rfl⟩
theorem Tab.none (t:Tab R H kvs ks f) (h:¬ n∈ks):valV kvs (Sum.inr n:Key)=none:=by
 cases e:valV kvs (Sum.inr n:Key) with
 | none=>rfl
 | some v=>
  have:=valV_in e
  rw [t.keys] at this
  exact absurd (inr_in.mp this) h
theorem Tab.len (t:Tab R H kvs ks f):kvs.length=ks.length:=by have:=congrArg List.length t.keys;rwa [List.length_map,List.length_map] at this
theorem Tab.put (t:Tab R H kvs ks f) (r:R H v y):Tab R H (putK kvs (Sum.inr n:Key) v) (addK ks n) (upf f n y):=by
 refine ⟨?_,fun m hm=>?_⟩
 ·by_cases hn:n∈ks
  ·obtain ⟨u,e,_⟩:=t.vals n hn
   unfold putK addK
   rw [valV_any,e,if_pos (show (some u).isSome=true from rfl),if_pos hn,← t.keys,List.map_map]
   refine List.map_congr_left fun kv _=>?_
   show (if kv.1=_ then _ else _:Key × V).1=kv.1
   split <;> rfl
  ·rw [putK_new _ (t.none hn)]
   unfold addK
   rw [if_neg hn,List.map_append,List.map_append,t.keys]
   rfl
 ·rw [valV_put]
  by_cases e:m=n
  ·subst e
   rw [if_pos rfl,upf_same]
   exact ⟨v,rfl,r⟩
  ·rw [if_neg fun z=>e (Sum.inr.inj z),upf_ne e]
   exact t.vals m ((mem_addK.mp hm).resolve_right e)
theorem val_idx {κ:Type} [DecidableEq κ]:∀ {kvs:List (κ × V)} {i:Nat} {kv:κ × V},(kvs.map (·.1)).Nodup→kvs[i]?=some kv→valV kvs kv.1=some kv.2
 | [],_,_,_,e=>by simp at e
 | p::r,0,kv,_,e=>by
  simp at e
  subst e
  exact valV_pos rfl
 | p::r,i+1,kv,nd,e=>by
  have e:r[i]?=some kv:=by simpa using e
  obtain ⟨h1,h2⟩:=List.nodup_cons.mp (show (p.1::r.map (·.1)).Nodup from nd)
  rw [valV_neg fun z=>h1 (by rw [z];exact List.mem_map.mpr ⟨kv,List.mem_of_getElem? e,rfl⟩)]
  exact val_idx h2 e
theorem Tab.at_ {i:Nat} {kv:Key × V} (t:Tab R H kvs ks f) (nd:ks.Nodup) (e:kvs[i]?=some kv):∃ n,ks[i]?=some n∧kv.1=Sum.inr n∧valV kvs (Sum.inr n:Key)=some kv.2∧R H kv.2 (f n):=by
 have hi:i<ks.length:=by rw [← t.len];exact (List.getElem?_eq_some_iff.mp e).1
 have e1:kv.1=Sum.inr ks[i]:=by
  have g:=congrArg (fun l=>l[i]?) t.keys
  simp only [List.getElem?_map,e,List.getElem?_eq_getElem hi,Option.map_some] at g
  exact Option.some.inj g
 have nd2:(kvs.map (·.1)).Nodup:=by
  rw [t.keys]
  exact nd.map _ (fun u v h e=>h (Sum.inr.inj e))
 have ev:=val_idx nd2 e
 rw [e1] at ev
 obtain ⟨v,e2,r⟩:=t.vals _ (List.getElem_mem hi)
 rw [ev] at e2
 cases e2
 exact ⟨ks[i],List.getElem?_eq_getElem hi,e1,ev,r⟩
end
theorem take_next {ks:List Str} {i:Nat} {n:Str} (nd:ks.Nodup) (e:ks[i]?=some n):ks.take (i+1)=ks.take i++[n]∧¬ n∈ks.take i:=by
 have hi:=(List.getElem?_eq_some_iff.mp e).1
 refine ⟨by rw [List.take_add_one,e];rfl,fun m=>?_⟩
 obtain ⟨j,hj⟩:=List.mem_iff_getElem?.mp m
 have hj2:j<i:=by
  have:=(List.getElem?_eq_some_iff.mp hj).1
  rw [List.length_take] at this
  omega
 rw [List.getElem?_take,if_pos hj2] at hj
 have:=(List.getElem?_inj (by omega) nd).mp (hj.trans e.symm)
 omega
theorem addK_new {ks:List Str} {n:Str} (h:¬ n∈ks):addK ks n=ks++[n]:=if_neg h
def KeepD (H H':Hp):Prop:=∀ b ob,H b=some ob→(∀ kvs,ob≠.dK kvs)→(∀ o u,ob≠.frz o u)→H' b=some ob
theorem KeepD.of {H H':Hp} (s:Same H H'):KeepD H H':=fun b ob e _ _=>s b ob e
theorem KeepD.trans {H H' H'':Hp} (s:KeepD H H') (t:KeepD H' H''):KeepD H H'':=fun b ob e h1 h2=>t b ob (s b ob e h1 h2) h1 h2
theorem KeepD.put {H:Hp} {d:Addr} {kvs:List (Key × V)} {o:HO} (hd:H d=some (.dK kvs)):KeepD H (upd H d o):=fun b ob e h1 _=>by
 have:b≠d:=fun z=>by rw [z,hd] at e;exact h1 kvs (Option.some.inj e).symm
 rw [upd_ne this]
 exact e
theorem KeepD.frz {H:Hp} {d:Addr} {ob:Obj} {u o:HO} (hd:H d=some (.frz ob u)):KeepD H (upd H d o):=fun b ob' e _ h2=>by
 have:b≠d:=fun z=>by rw [z,hd] at e;exact h2 _ _ (Option.some.inj e).symm
 rw [upd_ne this]
 exact e
def occ (zs:List (Str × Rat)) (n:Str):List Rat:=(zs.filter (fun z=>decide (z.1=n))).map (·.2)
inductive BdS:List Rat→Nat→Prop
 | nil:BdS [] 0
 | snoc {xs:List Rat} {N m:Nat} {x:Rat}:BdS xs N→Bd m x→BdS (xs++[x]) (N+(m+1))
theorem BdS.fn {xs:List Rat} {N:Nat} (h:BdS xs N):∃ S:Nat→Nat,S 0=0∧(∀ i,i≤xs.length→S i≤N)∧∀ i y,xs[i]?=some y→∃ m,Bd m y∧S i+(m+1)≤S (i+1):=by
 induction h with
 | nil=>exact ⟨fun _=>0,rfl,fun _ _=>Nat.zero_le _,fun i y e=>by simp at e⟩
 | @snoc xs N m x _ b ih=>
  obtain ⟨S,h0,h1,h2⟩:=ih
  refine ⟨fun j=>if j≤xs.length then S j else N+(m+1),by simp [h0],fun i hi=>?_,fun i y e=>?_⟩
  ·show (if i≤xs.length then S i else N+(m+1))≤_
   split
   ·rename_i h
    have:=h1 i h
    omega
   ·exact Nat.le_refl _
  ·show ∃ m',Bd m' y∧(if i≤xs.length then S i else N+(m+1))+(m'+1)≤(if i+1≤xs.length then S (i+1) else N+(m+1))
   have hi:=(List.getElem?_eq_some_iff.mp e).1
   rw [List.length_append,List.length_cons,List.length_nil] at hi
   by_cases hl:i<xs.length
   ·rw [List.getElem?_append_left hl] at e
    obtain ⟨m',b',q⟩:=h2 i y e
    exact ⟨m',b',by rw [if_pos (by omega),if_pos (by omega)];exact q⟩
   ·have ei:i=xs.length:=by omega
    subst ei
    rw [List.getElem?_append_right (Nat.le_refl _),Nat.sub_self] at e
    have:x=y:=by simpa using e
    subst this
    refine ⟨m,b,?_⟩
    rw [if_pos (Nat.le_refl _),if_neg (by omega)]
    have:=h1 _ (Nat.le_refl _)
    omega
end G
namespace G
open PySem L2
def Sm (i:Int):Prop:=i.natAbs<2 ^ 9000
def SmR (x:Rat):Prop:=Sm x.num∧Sm (x.den:Int)
theorem Sm.le {a b:Int} (h:Sm b) (l:a.natAbs≤b.natAbs):Sm a:=Nat.lt_of_le_of_lt l h
theorem fdiv_le (a:Int) {b:Int} (hb:0<b) (ha:0≤a):(a.fdiv b).natAbs≤a.natAbs:=by
 rw [Int.fdiv_eq_ediv_of_nonneg a (Int.le_of_lt hb)]
 have h1:=Int.ediv_nonneg ha (Int.le_of_lt hb)
 have h2:=Int.ediv_le_self b ha
 omega
theorem fdiv_le' (a:Int) {b:Int} (hb:0<b) (hd:b∣a):(a.fdiv b).natAbs≤a.natAbs:=by
 obtain ⟨k,rfl⟩:=hd
 have e:(b*k).fdiv b=k:=by rw [Int.mul_comm,Int.mul_fdiv_cancel _ (by omega)]
 rw [e,Int.natAbs_mul]
 exact Nat.le_mul_of_pos_left _ (by omega)
theorem gcd_pos_r (a:Int) {b:Int} (h:b≠0):0<gcd a b:=by
 have:=Int.gcd_pos_of_ne_zero_right a h
 unfold gcd;omega
theorem gcd_le_r (a:Int) {b:Int} (h:b≠0):(gcd a b).natAbs≤b.natAbs:=by
 have:=Int.gcd_le_natAbs_right a h
 unfold gcd;omega
theorem gcd_dvd_l (a b:Int):gcd a b∣a:=Int.gcd_dvd_left a b
theorem Sm.gcd_r (a:Int) {b:Int} (h:b≠0) (s:Sm b):Sm (gcd a b):=s.le (gcd_le_r a h)
theorem den_ne (x:Rat):(x.den:Int)≠0:=by have:=x.den_nz;omega
theorem tb:¬ (("top":Str) = "bottom"):=by decide +kernel
def ff (t b:Int):List (Str × V):=[("top",.int t),("bottom",.int b)]
theorem ff_T (t b:Int):(ff t b).lookup ("top":Str)=some (.int t):=rfl
theorem ff_B (t b:Int):(ff t b).lookup ("bottom":Str)=some (.int b):=by
 have h:(("bottom":Str) == "top")=false:=by decide +kernel
 show List.lookup ("bottom":Str) [(("top":Str),V.int t),("bottom",V.int b)]=_
 rw [List.lookup_cons,h]
 rfl
theorem ff_no (t b:Int) {m:Str} (h1:(m == "top")=false) (h2:(m == "bottom")=false):(ff t b).lookup m=none:=by
 show List.lookup m [(("top":Str),V.int t),("bottom",V.int b)]=_
 rw [List.lookup_cons,h1,List.lookup_cons,h2]
 rfl
theorem ff_new (t b:Int):putF "bottom" (.int b) (putF "top" (.int t) [])=ff t b:=by
 show (if ("top":Str) = "bottom" then _ else (("top":Str),V.int t)::[(("bottom":Str),V.int b)])=ff t b
 rw [if_neg tb]
 rfl
theorem ff_put (a c t b:Int):putF "bottom" (.int b) (putF "top" (.int t) (ff a c))=ff t b:=by
 show putF "bottom" (.int b) (if ("top":Str) = "top" then (("top":Str),V.int t)::[(("bottom":Str),V.int c)] else _)=ff t b
 rw [if_pos rfl]
 show (if ("top":Str) = "bottom" then _ else (("top":Str),V.int t)::(if ("bottom":Str) = "bottom" then (("bottom":Str),V.int b)::[] else _))=ff t b
 rw [if_neg tb,if_pos rfl]
 rfl
def FrAt (C:Addr) (H:Hp) (p:Addr) (x:Rat):Prop:=∃ dx,H p=some (.ins C dx (ff x.num x.den))
theorem FrAt.mono {C:Addr} {H H':Hp} {p:Addr} {x:Rat} (h:FrAt C H p x) (s:Same H H'):FrAt C H' p x:=let ⟨dx,e⟩:=h;⟨dx,s _ _ e⟩
theorem FrAt.up {C:Addr} {H H':Hp} {p:Addr} {x:Rat} (s:Same H H') (h:FrAt C H p x):FrAt C H' p x:=h.mono s
structure FrC (K:PySem.W.Frag) (C:Addr):Prop where
 cl:Cls K C
 nT:NoAttr K C "top"
 nB:NoAttr K C "bottom"
 c1:PySem.W.findIn K (.ref C) "__class__"=some (some (.builtin "object.__class__"))
 c2:PySem.W.specialIn K (.builtin "object.__class__") "__get__"=some (some (.builtin "getset_descriptor.__get__"))
 c3:PySem.W.takesIn K (.builtin "object.__class__")=some true
 c4:PySem.W.mroIn K C (.type "object")=some true
def tTop (C:Addr) (ta:TE):TE:=fun σ H Q=>ta σ H fun v H1=>∃ p x,v=.ref p∧FrAt C H1 p x∧Q (.int x.num) H1
def tBot (C:Addr) (ta:TE):TE:=fun σ H Q=>ta σ H fun v H1=>∃ p x,v=.ref p∧FrAt C H1 p x∧Q (.int x.den) H1
section
variable {X:Cx} {C:Addr} {e o:Expr} {ta:TE} {pos:Pos}
def Mono (t:TE):Prop:=∀ σ H Q Q',(∀ v H1,Q v H1→Q' v H1)→t σ H Q→t σ H Q'
theorem pe_top (F:FrC X.K C) (he:PE X e ta) (hb:attributeBase e "top" X.env (eval e X.env)=eval e X.env:=by rfl):PE X (.Attribute e "top" pos) (tTop C ta):=by
 intro pins s σ H Q I h
 refine attr_of hb (thn (he pins s σ H _ I h) fun u s1 ⟨v,H1,I1,r,p,x,e,⟨dx,hp⟩,q⟩=>?_)
 subst e
 obtain rfl:u=Value.ref p:=r
 exact getattr_ok I1 hp F.cl F.nT (ff_T _ _) fun u' s' I' r'=>⟨_,H1,I',r',q⟩
theorem pe_bot (F:FrC X.K C) (he:PE X e ta) (hb:attributeBase e "bottom" X.env (eval e X.env)=eval e X.env:=by rfl):PE X (.Attribute e "bottom" pos) (tBot C ta):=by
 intro pins s σ H Q I h
 refine attr_of hb (thn (he pins s σ H _ I h) fun u s1 ⟨v,H1,I1,r,p,x,e,⟨dx,hp⟩,q⟩=>?_)
 subst e
 obtain rfl:u=Value.ref p:=r
 exact getattr_ok I1 hp F.cl F.nB (ff_B _ _) fun u' s' I' r'=>⟨_,H1,I',r',q⟩
def tFrM (C:Addr) (sp:Sp) (E:XK) (ta:TE) (t:TA):TE:=fun σ H Q=>ta σ H fun v H1=>∃ p x,v=.ref p∧FrAt C H1 p x∧t σ H1 fun vs H2=>sp (v::vs) H2 Q E
variable {CX:CXT} {k j:Nat} {ps:List Str} {sp:Sp} {E:XK} {m:Str} {p apos:Pos} {es:List Expr} {t:TA}
theorem pe_frm {pl:Sem Bool} (F:FrC X.K C) (he:PE X o ta) (M:MtB X.prog X.w X.K X.mg X.base CX C m k ps sp) (hr:Room j X.A) (hx:Passes CX X E) (ha:PA X (e::es) t) (hj:k≤j:=by decide) (h1:(m == "top")=false:=by decide +kernel) (h2:(m == "bottom")=false:=by decide +kernel)
  (hst:starEach (e::es) X.env=(false,eval e X.env)::starEach es X.env:=by rfl) (hpl:(backTo pos (starEach es X.env)).any (·.1)=false:=by rfl)
  (ht:eval (.Call (.Attribute o m apos) (e::es) [] pos) X.env=(do
   let ov ← eval o X.env
   standAt apos.atName
   let (f,first) ← holding [ov] (getMethod ov m pl)
   callWith pos f first (backTo pos (starEach (e::es) X.env)) (backToKw pos (keywordEach [] X.env))):=by rfl):PE X (.Call (.Attribute o m apos) (e::es) [] pos) (tFrM C sp E ta t):=by
 obtain ⟨f,fd,hm,b,d⟩:=M
 intro pins s σ H Q I h
 refine PySem.W.methodCall_KW (pl:=pl) (thn (he pins s σ H _ I h) fun u s1 ⟨v,H1,I1,rx,a,x,ex,⟨dx,ea⟩,q⟩=>?_) ht
 subst ex
 obtain rfl:u=Value.ref a:=rx
 refine getmeth_ok I1 ea F.cl hm (ff_no _ _ h1 h2) ?_
 refine PySem.W.callWith_K (first:=[.ref a]) (h₀:=X.base) I.ok.mod.kin hm.kp (thn (ha pos pins s1 σ H1 _ I1 q) fun us s2 ⟨vs,H2,I2,r,q2⟩=>⟨I2.kIn,?_⟩) hst hpl
 exact run_fn (us:=.ref a::us) (vs:=.ref a::vs) (dvs:=[]) d (hr.mono hj) b .nil hx I2 (.cons rfl r) (by simpa using q2)
theorem pe_frm0 {pl:Sem Bool} (F:FrC X.K C) (he:PE X o ta) (M:MtB X.prog X.w X.K X.mg X.base CX C m k ps sp) (hr:Room j X.A) (hx:Passes CX X E) (hj:k≤j:=by decide) (h1:(m == "top")=false:=by decide +kernel) (h2:(m == "bottom")=false:=by decide +kernel)
  (ht:eval (.Call (.Attribute o m apos) [] [] pos) X.env=(do
   let ov ← eval o X.env
   standAt apos.atName
   let (f,first) ← holding [ov] (getMethod ov m pl)
   callWith pos f first (backTo pos (starEach [] X.env)) (backToKw pos (keywordEach [] X.env))):=by rfl):PE X (.Call (.Attribute o m apos) [] [] pos) (tFrM C sp E ta tNil):=by
 obtain ⟨f,fd,hm,b,d⟩:=M
 intro pins s σ H Q I h
 refine PySem.W.methodCall_KW (pl:=pl) (thn (he pins s σ H _ I h) fun u s1 ⟨v,H1,I1,rx,a,x,ex,⟨dx,ea⟩,q⟩=>?_) ht
 subst ex
 obtain rfl:u=Value.ref a:=rx
 refine getmeth_ok I1 ea F.cl hm (ff_no _ _ h1 h2) ?_
 exact PySem.W.callWith_K0 (first:=[.ref a]) I1.kIn hm.kp (run_fn (us:=[.ref a]) (vs:=[.ref a]) (dvs:=[]) d (hr.mono hj) b .nil hx I1 (.cons rfl .nil) q)
def spDiv:Sp:=fun vs H Q _=>∃ a b:Int,vs=[.int a,.int b]∧Q (.int (gcd a b)) H
def spInit (C:Addr):Sp:=fun vs H Q _=>∃ (p dx:Addr) (a b:Int),vs=[.ref p,.int a,.int b]∧H p=some (.ins C dx [])∧b≠0∧Sm b∧∀ H',H'=upd H p (.ins C dx (ff (Rat.divInt a b).num (Rat.divInt a b).den))→Q .non H'
def NewFr (C:Addr) (H:Hp) (Q:VK) (x:Rat):Prop:=∀ (r:Addr) (H':Hp),H r=none→Same H H'→FrAt C H' r x→Q (.ref r) H'
def spLow (C:Addr):Sp:=fun vs H Q _=>∃ t b:Int,vs=[.int t,.int b]∧∀ (r dx:Addr) (H':Hp),H r=none→Same H H'→H' r=some (.ins C dx (ff t b))→Q (.ref r) H'
def spR2 (C:Addr) (f:Rat→Rat→Rat) (pre:Rat→Rat→Prop):Sp:=fun vs H Q _=>∃ (p q:Addr) (x y:Rat),vs=[.ref p,.ref q]∧FrAt C H p x∧FrAt C H q y∧SmR x∧SmR y∧pre x y∧NewFr C H Q (f x y)
theorem mk_fr {H:Hp} {a b:Int} {Q:VK} {E:XK} {x dx:Addr} (nx:H x=none) (nd:H dx=none) (hb:b≠0) (hs:Sm b) (k:∀ H':Hp,Same H H'→FrAt C H' x (Rat.divInt a b)→Q .non H') :
  spInit C [.ref x,.int a,.int b] (upd (upd H dx (.own x)) x (.ins C dx [])) Q E:=by
 refine ⟨x,dx,a,b,rfl,upd_same,hb,hs,fun H' e=>?_⟩
 subst e
 refine k _ (fun c o e=>?_) ⟨dx,upd_same⟩
 rw [upd_ne (ne_of_none e nx),upd_ne (ne_of_none e nx),upd_ne (ne_of_none e nd)]
 exact e
def tMkFr (C:Addr) (dvs:List V) (t:TA):TE:=fun σ H Q=>t σ H fun vs H1=>∃ a b:Int,vs++dvs=[.int a,.int b]∧b≠0∧Sm b∧NewFr C H1 Q (Rat.divInt a b)
theorem pe_mkfr {dvs:List V} {x:Str} (F:MkB X.prog X.w X.K X.mg X.base CX C k ["self","top","bottom"] dvs (spInit C)) (hr:Room j X.A) (hm:X.mg x=some (.ref C)) (hx:Passes CX X E) (ha:PA X (e::es) t) (hj:k+1≤j:=by decide) (hg:Gl X x:=by rfl) (hdb:(x == ("__debug__":Str))=false:=by decide)
  (he:starEach (e::es) X.env=(false,eval e X.env)::starEach es X.env:=by rfl) (hpl:(backTo pos (starEach es X.env)).any (·.1)=false:=by rfl):PE X (.Call (.Name x p) (e::es) [] pos) (tMkFr C dvs t):=by
 obtain ⟨f,fd,ds,M,b,c,d⟩:=F
 intro pins s σ H Q I h
 refine wpAny_Call_Name_kw (ld_glob I hg hm ?_ hdb)
 refine PySem.W.callWith_K (h₀:=X.base) I.ok.mod.kin M.kp (thn (ha pos pins s σ H _ I h) fun us s1 ⟨vs,H1,I1,r,a',b',ev,hb,hs,q⟩=>⟨I1.kIn,?_⟩) he hpl
 refine run_make M d (hr.mono hj) b c hx I1 r fun y dx n1 n2 _=>?_
 rw [ev]
 exact mk_fr n1 n2 hb hs fun H' s' f'=>⟨rfl,q y H' n1 s' f'⟩
def tIsFr (C:Addr) (ta:TE):TE:=fun σ H Q=>ta σ H fun v H1=>∃ p x,v=.ref p∧FrAt C H1 p x∧Q (.bl true) H1
end
end G
namespace G
open PySem L2
def topS (i:Nat):Stmt:=PySem.Challenge.pw_gainstream_k64_turns_refused.main.body.getD i (.Pass ⟨0,0,0,0⟩)
abbrev s_divisor:Stmt:=topS 9
abbrev s_in_lowest_terms:Stmt:=topS 11
abbrev s_total:Stmt:=topS 12
abbrev s_name_at:Stmt:=topS 14
abbrev s_wants_by_name:Stmt:=topS 22
abbrev s_check_way:Stmt:=topS 23
abbrev s_ways_by_name:Stmt:=topS 24
abbrev s_amount:Stmt:=topS 27
abbrev s_without_noughts:Stmt:=topS 28
abbrev s_refuse_other_names:Stmt:=topS 29
abbrev s_refuse_stores:Stmt:=topS 31
abbrev s_refuse_wants:Stmt:=topS 32
abbrev s_places_at:Stmt:=topS 33
abbrev s_turned:Stmt:=topS 34
abbrev s_own_plan:Stmt:=topS 35
abbrev s_taken_in:Stmt:=topS 36
abbrev s_put_in:Stmt:=topS 37
abbrev s_by_turns:Stmt:=topS 38
abbrev s_law_cell_at:Stmt:=topS 40
abbrev s_law_name:Stmt:=topS 41
abbrev s_law_number:Stmt:=topS 42
abbrev s_law_not_under:Stmt:=topS 43
abbrev s_law_high:Stmt:=topS 44
abbrev s_law_gain_by:Stmt:=topS 45
abbrev s_law_ends:Stmt:=topS 46
abbrev s_law_net:Stmt:=topS 47
abbrev s_law_way:Stmt:=topS 48
abbrev s_law_built:Stmt:=topS 49
abbrev s_law_stores:Stmt:=topS 50
abbrev s_law_wants:Stmt:=topS 51
abbrev s_law_store:Stmt:=topS 52
abbrev s_law_fractions:Stmt:=topS 53
abbrev s_law_faulty:Stmt:=topS 54
abbrev s_law_due:Stmt:=topS 55
abbrev s_law_refused:Stmt:=topS 56
abbrev s_law_class:Stmt:=topS 57
abbrev s_law_asked:Stmt:=topS 58
abbrev s_law:Stmt:=topS 59
abbrev s_Fraction_init:Stmt:=inClass (topS 10) 0
abbrev s_Fraction_plus:Stmt:=inClass (topS 10) 1
abbrev s_Fraction_minus:Stmt:=inClass (topS 10) 2
abbrev s_Fraction_times:Stmt:=inClass (topS 10) 3
abbrev s_Fraction_under:Stmt:=inClass (topS 10) 5
abbrev s_Fraction_sign:Stmt:=inClass (topS 10) 7
abbrev s_Way_init:Stmt:=inClass (topS 15) 0
abbrev s_Way_may_stay:Stmt:=inClass (topS 15) 1
abbrev s_Way_gain:Stmt:=inClass (topS 15) 2
abbrev s_Way_out:Stmt:=inClass (topS 15) 3
abbrev s_Way_at_turn:Stmt:=inClass (topS 15) 4
abbrev s_Growing_init:Stmt:=inClass (topS 16) 0
abbrev s_Growing_gain:Stmt:=inClass (topS 16) 1
abbrev s_Growing_at_turn:Stmt:=inClass (topS 16) 2
abbrev s_Leaking_init:Stmt:=inClass (topS 17) 0
abbrev s_Leaking_gain:Stmt:=inClass (topS 17) 1
abbrev s_Leaking_at_turn:Stmt:=inClass (topS 17) 2
abbrev s_Store_init:Stmt:=inClass (topS 18) 0
abbrev s_Store_may_stay:Stmt:=inClass (topS 18) 1
abbrev s_Store_at_turn:Stmt:=inClass (topS 18) 2
abbrev s_Net_init:Stmt:=inClass (topS 25) 0
abbrev s_Net_names:Stmt:=inClass (topS 25) 1
abbrev s_Net_want:Stmt:=inClass (topS 25) 2
abbrev s_Net_way:Stmt:=inClass (topS 25) 3
abbrev s_Net_all_ways:Stmt:=inClass (topS 25) 4
abbrev s_NoWay_init:Stmt:=inClass (topS 5) 0
abbrev s_Twice_init:Stmt:=inClass (topS 6) 0
abbrev s_NoPlace_init:Stmt:=inClass (topS 7) 0
structure Ad where
 Fraction:Addr
 Way:Addr
 Growing:Addr
 Leaking:Addr
 Store:Addr
 Net:Addr
 GainError:Addr
 NoNumber:Addr
 TooMany:Addr
 NoWay:Addr
 Twice:Addr
 NoPlace:Addr
structure TX (K:PySem.W.Frag) (mg:Str→Option Value) (a:Ad):Prop where
 d_divisor:FDe K mg "divisor" s_divisor ["one","other"]
 d_in_lowest_terms:FDe K mg "in_lowest_terms" s_in_lowest_terms ["top","bottom"]
 d_total:FDe K mg "total" s_total ["some"]
 d_name_at:FDe K mg "name_at" s_name_at ["name","turn"]
 d_wants_by_name:FDe K mg "wants_by_name" s_wants_by_name ["places"]
 d_check_way:FDe K mg "check_way" s_check_way ["way","ahead","wants"]
 d_ways_by_name:FDe K mg "ways_by_name" s_ways_by_name ["ways","wants"]
 d_amount:FDe K mg "amount" s_amount ["plan","name"]
 d_without_noughts:FDe K mg "without_noughts" s_without_noughts ["plan"]
 d_refuse_other_names:FDe K mg "refuse_other_names" s_refuse_other_names ["net","plan"]
 d_refuse_stores:FDe K mg "refuse_stores" s_refuse_stores ["net","stores"]
 d_refuse_wants:FDe K mg "refuse_wants" s_refuse_wants ["net","wants"]
 d_places_at:FDe K mg "places_at" s_places_at ["net","own_wants","turn"]
 d_turned:FDe K mg "turned" s_turned ["net","stores","wants"]
 d_own_plan:FDe K mg "own_plan" s_own_plan ["net","plan","turn"]
 d_taken_in:FDe K mg "taken_in" s_taken_in ["net","stores","plan","turn"]
 d_put_in:FDe K mg "put_in" s_put_in ["net","stores","plan","turn"]
 d_by_turns:FDe K mg "by_turns" s_by_turns ["net","stores","wants","plan"]
 d_law_cell_at:FDe K mg "_law_cell_at" s_law_cell_at ["_law_script","_law_k"]
 d_law_name:FDe K mg "_law_name" s_law_name ["_law_at","_law_cell"]
 d_law_number:FDe K mg "_law_number" s_law_number ["_law_cell"]
 d_law_not_under:FDe K mg "_law_not_under" s_law_not_under ["_law_cell"]
 d_law_high:FDe K mg "_law_high" s_law_high ["_law_cell"]
 d_law_gain_by:FDe K mg "_law_gain_by" s_law_gain_by ["_law_cell"]
 d_law_ends:FDe K mg "_law_ends" s_law_ends ["_law_cell","_law_places"]
 d_law_net:FDe K mg "_law_net" s_law_net ["_law_script","_law_size","_law_many"]
 d_law_way:FDe K mg "_law_way" s_law_way ["_law_way_here"]
 d_law_built:FDe K mg "_law_built" s_law_built ["_law_told"]
 d_law_stores:FDe K mg "_law_stores" s_law_stores ["_law_script","_law_at","_law_places","_law_count"]
 d_law_wants:FDe K mg "_law_wants" s_law_wants ["_law_script","_law_at","_law_places","_law_turns"]
 d_law_store:FDe K mg "_law_store" s_law_store ["_law_store_here"]
 d_law_fractions:FDe K mg "_law_fractions" s_law_fractions ["_law_pairs"]
 d_law_faulty:FDe K mg "_law_faulty" s_law_faulty ["_law_script","_law_told","_law_stores_here","_law_wants_here","_law_at"]
 d_law_due:FDe K mg "_law_due" s_law_due ["_law_told","_law_stores_here","_law_wants_here"]
 d_law_refused:FDe K mg "_law_refused" s_law_refused ["_law_net_here","_law_stores_here","_law_wants_here","_law_plain","_law_plan"]
 d_law_class:FDe K mg "_law_class" s_law_class ["_law_net_here","_law_stores_here","_law_wants_here","_law_plain"]
 d_law_asked:FDe K mg "_law_asked" s_law_asked ["_law_net_here","_law_told","_law_stores_here","_law_wants_here","_law_plain"]
 d_law:FDe K mg "law" s_law ["_law_script"]
 cl_Fraction:Cls K a.Fraction
 mg_Fraction:mg "Fraction"=some (.ref a.Fraction)
 na_Fraction_top:NoAttr K a.Fraction "top"
 na_Fraction_bottom:NoAttr K a.Fraction "bottom"
 i_Fraction:IDe K a.Fraction "Fraction.__init__" s_Fraction_init ["self","top","bottom"] [[],[V.int 1]]
 m_Fraction_plus:MDe K a.Fraction "plus" "Fraction.plus" s_Fraction_plus ["self","other"]
 m_Fraction_minus:MDe K a.Fraction "minus" "Fraction.minus" s_Fraction_minus ["self","other"]
 m_Fraction_times:MDe K a.Fraction "times" "Fraction.times" s_Fraction_times ["self","other"]
 m_Fraction_under:MDe K a.Fraction "under" "Fraction.under" s_Fraction_under ["self","other"]
 m_Fraction_sign:MDe K a.Fraction "sign" "Fraction.sign" s_Fraction_sign ["self"]
 c1_Fraction:PySem.W.findIn K (.ref a.Fraction) "__class__"=some (some (.builtin "object.__class__"))
 c4_Fraction:PySem.W.mroIn K a.Fraction (.type "object")=some true
 cl_Way:Cls K a.Way
 mg_Way:mg "Way"=some (.ref a.Way)
 na_Way_name:NoAttr K a.Way "name"
 na_Way_start:NoAttr K a.Way "start"
 na_Way_goal:NoAttr K a.Way "goal"
 na_Way_high:NoAttr K a.Way "high"
 na_Way_cost:NoAttr K a.Way "cost"
 i_Way:IDe K a.Way "Way.__init__" s_Way_init ["self","name","start","goal","high","cost"] [[],[V.non,V.non]]
 c_Way:CDe K a.Way "Way.__init__" s_Way_init ["self","name","start","goal","high","cost"]
 m_Way_may_stay:MDe K a.Way "may_stay" "Way.may_stay" s_Way_may_stay ["self"]
 m_Way_gain:MDe K a.Way "gain" "Way.gain" s_Way_gain ["self"]
 m_Way_out:MDe K a.Way "out" "Way.out" s_Way_out ["self","amount"]
 m_Way_at_turn:MDe K a.Way "at_turn" "Way.at_turn" s_Way_at_turn ["self","turn"]
 c1_Way:PySem.W.findIn K (.ref a.Way) "__class__"=some (some (.builtin "object.__class__"))
 c4_Way:PySem.W.mroIn K a.Way (.type "object")=some true
 cl_Growing:Cls K a.Growing
 mg_Growing:mg "Growing"=some (.ref a.Growing)
 na_Growing_rate:NoAttr K a.Growing "rate"
 na_Growing_name:NoAttr K a.Growing "name"
 na_Growing_start:NoAttr K a.Growing "start"
 na_Growing_goal:NoAttr K a.Growing "goal"
 na_Growing_high:NoAttr K a.Growing "high"
 na_Growing_cost:NoAttr K a.Growing "cost"
 i_Growing:IDe K a.Growing "Growing.__init__" s_Growing_init ["self","name","start","goal","rate","high","cost"] [[],[V.non,V.non]]
 m_Growing_gain:MDe K a.Growing "gain" "Growing.gain" s_Growing_gain ["self"]
 m_Growing_at_turn:MDe K a.Growing "at_turn" "Growing.at_turn" s_Growing_at_turn ["self","turn"]
 m_Growing_may_stay:MDe K a.Growing "may_stay" "Way.may_stay" s_Way_may_stay ["self"]
 m_Growing_out:MDe K a.Growing "out" "Way.out" s_Way_out ["self","amount"]
 c1_Growing:PySem.W.findIn K (.ref a.Growing) "__class__"=some (some (.builtin "object.__class__"))
 c4_Growing:PySem.W.mroIn K a.Growing (.type "object")=some true
 cl_Leaking:Cls K a.Leaking
 mg_Leaking:mg "Leaking"=some (.ref a.Leaking)
 na_Leaking_loss:NoAttr K a.Leaking "loss"
 na_Leaking_name:NoAttr K a.Leaking "name"
 na_Leaking_start:NoAttr K a.Leaking "start"
 na_Leaking_goal:NoAttr K a.Leaking "goal"
 na_Leaking_high:NoAttr K a.Leaking "high"
 na_Leaking_cost:NoAttr K a.Leaking "cost"
 i_Leaking:IDe K a.Leaking "Leaking.__init__" s_Leaking_init ["self","name","start","goal","loss","high","cost"] [[],[V.non,V.non]]
 c_Leaking:CDe K a.Leaking "Leaking.__init__" s_Leaking_init ["self","name","start","goal","loss","high","cost"]
 m_Leaking_gain:MDe K a.Leaking "gain" "Leaking.gain" s_Leaking_gain ["self"]
 m_Leaking_at_turn:MDe K a.Leaking "at_turn" "Leaking.at_turn" s_Leaking_at_turn ["self","turn"]
 m_Leaking_may_stay:MDe K a.Leaking "may_stay" "Way.may_stay" s_Way_may_stay ["self"]
 m_Leaking_out:MDe K a.Leaking "out" "Way.out" s_Way_out ["self","amount"]
 c1_Leaking:PySem.W.findIn K (.ref a.Leaking) "__class__"=some (some (.builtin "object.__class__"))
 c4_Leaking:PySem.W.mroIn K a.Leaking (.type "object")=some true
 cl_Store:Cls K a.Store
 mg_Store:mg "Store"=some (.ref a.Store)
 na_Store_loss:NoAttr K a.Store "loss"
 na_Store_name:NoAttr K a.Store "name"
 na_Store_start:NoAttr K a.Store "start"
 na_Store_goal:NoAttr K a.Store "goal"
 na_Store_high:NoAttr K a.Store "high"
 na_Store_cost:NoAttr K a.Store "cost"
 i_Store:IDe K a.Store "Store.__init__" s_Store_init ["self","name","place","loss","high","cost"] [[],[V.non,V.non]]
 m_Store_may_stay:MDe K a.Store "may_stay" "Store.may_stay" s_Store_may_stay ["self"]
 m_Store_at_turn:MDe K a.Store "at_turn" "Store.at_turn" s_Store_at_turn ["self","turn"]
 m_Store_gain:MDe K a.Store "gain" "Leaking.gain" s_Leaking_gain ["self"]
 m_Store_out:MDe K a.Store "out" "Way.out" s_Way_out ["self","amount"]
 c1_Store:PySem.W.findIn K (.ref a.Store) "__class__"=some (some (.builtin "object.__class__"))
 c4_Store:PySem.W.mroIn K a.Store (.type "object")=some true
 cl_Net:Cls K a.Net
 mg_Net:mg "Net"=some (.ref a.Net)
 na_Net_wants:NoAttr K a.Net "wants"
 na_Net_ways:NoAttr K a.Net "ways"
 i_Net:IDe K a.Net "Net.__init__" s_Net_init ["self","places","ways"] [[]]
 m_Net_names:MDe K a.Net "names" "Net.names" s_Net_names ["self"]
 m_Net_want:MDe K a.Net "want" "Net.want" s_Net_want ["self","place"]
 m_Net_way:MDe K a.Net "way" "Net.way" s_Net_way ["self","name"]
 m_Net_all_ways:MDe K a.Net "all_ways" "Net.all_ways" s_Net_all_ways ["self"]
 no_Net_sign:PySem.W.findIn K (.ref a.Net) "sign"=some none
 no_Net_may_stay:PySem.W.findIn K (.ref a.Net) "may_stay"=some none
 c2:PySem.W.specialIn K (.builtin "object.__class__") "__get__"=some (some (.builtin "getset_descriptor.__get__"))
 c3:PySem.W.takesIn K (.builtin "object.__class__")=some true
 mg_GainError:mg "GainError"=some (.ref a.GainError)
 mg_TooMany:mg "TooMany"=some (.ref a.TooMany)
 ex_TooMany:PySem.W.excIn K a.TooMany bmV "ValueError.__new__"=true
 mg_Twice:mg "Twice"=some (.ref a.Twice)
 xi_Twice:XiDe K a.Twice "Twice.__init__" s_Twice_init ["self","name"]
 xs_Twice:ExI K a.Twice
 na_Twice_name:NoAttr K a.Twice "name"
 hd_Twice:PySem.W.hasDictIn K a.Twice=true
 br_Twice:ClsRd K a.GainError
 bf_Twice:PySem.W.findCls K (.ref a.GainError) (.type "type") "__init__"=some (.val (.builtin "ValueError.__init__"))
 mg_NoPlace:mg "NoPlace"=some (.ref a.NoPlace)
 xi_NoPlace:XiDe K a.NoPlace "NoPlace.__init__" s_NoPlace_init ["self","place"]
 xs_NoPlace:ExI K a.NoPlace
 na_NoPlace_place:NoAttr K a.NoPlace "place"
 hd_NoPlace:PySem.W.hasDictIn K a.NoPlace=true
 br_NoPlace:ClsRd K a.GainError
 bf_NoPlace:PySem.W.findCls K (.ref a.GainError) (.type "type") "__init__"=some (.val (.builtin "ValueError.__init__"))
 ca1_GainError:PySem.W.instIn K (.ref a.GainError) (.type "tuple")=some false
 ca2_GainError:∃ cd,PySem.W.clsIn K a.GainError=some cd
 ca3_GainError:PySem.W.subIn K (.ref a.GainError) (.type "BaseException")=some true
 ca1_NoPlace:PySem.W.instIn K (.ref a.NoPlace) (.type "tuple")=some false
 ca2_NoPlace:∃ cd,PySem.W.clsIn K a.NoPlace=some cd
 ca3_NoPlace:PySem.W.subIn K (.ref a.NoPlace) (.type "BaseException")=some true
 ca1_TooMany:PySem.W.instIn K (.ref a.TooMany) (.type "tuple")=some false
 ca2_TooMany:∃ cd,PySem.W.clsIn K a.TooMany=some cd
 ca3_TooMany:PySem.W.subIn K (.ref a.TooMany) (.type "BaseException")=some true
 ca1_Twice:PySem.W.instIn K (.ref a.Twice) (.type "tuple")=some false
 ca2_Twice:∃ cd,PySem.W.clsIn K a.Twice=some cd
 ca3_Twice:PySem.W.subIn K (.ref a.Twice) (.type "BaseException")=some true
 su_NoPlace_GainError:PySem.W.subIn K (.ref a.NoPlace) (.ref a.GainError)=some true
 su_NoPlace_NoPlace:PySem.W.subIn K (.ref a.NoPlace) (.ref a.NoPlace)=some true
 su_NoPlace_Twice:PySem.W.subIn K (.ref a.NoPlace) (.ref a.Twice)=some false
 su_TooMany_GainError:PySem.W.subIn K (.ref a.TooMany) (.ref a.GainError)=some true
 su_TooMany_NoPlace:PySem.W.subIn K (.ref a.TooMany) (.ref a.NoPlace)=some false
 su_TooMany_TooMany:PySem.W.subIn K (.ref a.TooMany) (.ref a.TooMany)=some true
 su_TooMany_Twice:PySem.W.subIn K (.ref a.TooMany) (.ref a.Twice)=some false
 su_Twice_GainError:PySem.W.subIn K (.ref a.Twice) (.ref a.GainError)=some true
 su_Twice_Twice:PySem.W.subIn K (.ref a.Twice) (.ref a.Twice)=some true
 k_Way_Store:PySem.W.kitOne K (.ref a.Way) (.ref a.Store)=some false
 k_Growing_Store:PySem.W.kitOne K (.ref a.Growing) (.ref a.Store)=some false
 k_Leaking_Store:PySem.W.kitOne K (.ref a.Leaking) (.ref a.Store)=some false
 xga_NoPlace:PySem.W.findIn K (.ref a.NoPlace) "__getattribute__"=some (some (.builtin "BaseException.__getattribute__"))
 xgh_NoPlace:PySem.W.findIn K (.ref a.NoPlace) "__getattr__"=some none
 xbe_NoPlace:PySem.W.mroIn K a.NoPlace (.type "BaseException")=some true
 xca_NoPlace:PySem.W.findIn K (.ref a.NoPlace) "__class__"=some (some (.builtin "object.__class__"))
 xob_NoPlace:PySem.W.mroIn K a.NoPlace (.type "object")=some true
 xcl_NoPlace:∃ cd,PySem.W.clsIn K a.NoPlace=some cd
 k_NoPlace_NoPlace:PySem.W.kitOne K (.ref a.NoPlace) (.ref a.NoPlace)=some true
 k_NoPlace_TooMany:PySem.W.kitOne K (.ref a.NoPlace) (.ref a.TooMany)=some false
 k_NoPlace_Twice:PySem.W.kitOne K (.ref a.NoPlace) (.ref a.Twice)=some false
 k_NoPlace_ValueError:PySem.W.kitOne K (.ref a.NoPlace) (.type "ValueError")=some true
 xga_TooMany:PySem.W.findIn K (.ref a.TooMany) "__getattribute__"=some (some (.builtin "BaseException.__getattribute__"))
 xgh_TooMany:PySem.W.findIn K (.ref a.TooMany) "__getattr__"=some none
 xbe_TooMany:PySem.W.mroIn K a.TooMany (.type "BaseException")=some true
 xca_TooMany:PySem.W.findIn K (.ref a.TooMany) "__class__"=some (some (.builtin "object.__class__"))
 xob_TooMany:PySem.W.mroIn K a.TooMany (.type "object")=some true
 xcl_TooMany:∃ cd,PySem.W.clsIn K a.TooMany=some cd
 k_TooMany_NoPlace:PySem.W.kitOne K (.ref a.TooMany) (.ref a.NoPlace)=some false
 k_TooMany_TooMany:PySem.W.kitOne K (.ref a.TooMany) (.ref a.TooMany)=some true
 k_TooMany_Twice:PySem.W.kitOne K (.ref a.TooMany) (.ref a.Twice)=some false
 k_TooMany_ValueError:PySem.W.kitOne K (.ref a.TooMany) (.type "ValueError")=some true
 xga_Twice:PySem.W.findIn K (.ref a.Twice) "__getattribute__"=some (some (.builtin "BaseException.__getattribute__"))
 xgh_Twice:PySem.W.findIn K (.ref a.Twice) "__getattr__"=some none
 xbe_Twice:PySem.W.mroIn K a.Twice (.type "BaseException")=some true
 xca_Twice:PySem.W.findIn K (.ref a.Twice) "__class__"=some (some (.builtin "object.__class__"))
 xob_Twice:PySem.W.mroIn K a.Twice (.type "object")=some true
 xcl_Twice:∃ cd,PySem.W.clsIn K a.Twice=some cd
 k_Twice_NoPlace:PySem.W.kitOne K (.ref a.Twice) (.ref a.NoPlace)=some false
 k_Twice_TooMany:PySem.W.kitOne K (.ref a.Twice) (.ref a.TooMany)=some false
 k_Twice_Twice:PySem.W.kitOne K (.ref a.Twice) (.ref a.Twice)=some true
 k_Twice_ValueError:PySem.W.kitOne K (.ref a.Twice) (.type "ValueError")=some true
 gi_MOST_PLACES:∃ tk,mg "MOST_PLACES"=some (.int 12 tk)
 gi_MOST_WAYS:∃ tk,mg "MOST_WAYS"=some (.int 24 tk)
 z_ValueError:mg "ValueError"=none
 z_abs:mg "abs"=none
 z_dict:mg "dict"=none
 z_enumerate:mg "enumerate"=none
 z_isinstance:mg "isinstance"=none
 z_len:mg "len"=none
 z_list:mg "list"=none
 z_max:mg "max"=none
 z_range:mg "range"=none
 z_str:mg "str"=none
open PySem L2 in
local macro_rules | `(tactic| walk_at "sc") => `(tactic| exact ⟨rfl, rfl, rfl, by decide +kernel, rfl, by decide +kernel, by decide +kernel⟩)
section
variable {P:Program} {w:World} {K:PySem.W.Frag} {mg:Str→Option Value} {base:Heap} {a:Ad}
theorem TX.exa_NoPlace (T:TX K mg a):ExA K a.NoPlace:=⟨T.xga_NoPlace,T.xgh_NoPlace,T.xbe_NoPlace,T.xca_NoPlace,T.c2,T.c3,T.xob_NoPlace,T.xcl_NoPlace⟩
theorem TX.exa_TooMany (T:TX K mg a):ExA K a.TooMany:=⟨T.xga_TooMany,T.xgh_TooMany,T.xbe_TooMany,T.xca_TooMany,T.c2,T.c3,T.xob_TooMany,T.xcl_TooMany⟩
theorem TX.exa_Twice (T:TX K mg a):ExA K a.Twice:=⟨T.xga_Twice,T.xgh_Twice,T.xbe_Twice,T.xca_Twice,T.c2,T.c3,T.xob_Twice,T.xcl_Twice⟩
theorem sc_divisor:FnScope ["one","other","rest"] ["one","other"] (defScope s_divisor):=by walk_at "sc"
theorem sc_in_lowest_terms:FnScope ["top","bottom","made"] ["top","bottom"] (defScope s_in_lowest_terms):=by walk_at "sc"
theorem sc_total:FnScope ["some","top","bottom","shared","number","common","own","left"] ["some"] (defScope s_total):=by walk_at "sc"
theorem sc_name_at:FnScope ["name","turn"] ["name","turn"] (defScope s_name_at):=by walk_at "sc"
theorem sc_wants_by_name:FnScope ["places","wants","name","want"] ["places"] (defScope s_wants_by_name):=by walk_at "sc"
theorem sc_check_way:FnScope ["way","ahead","wants","place"] ["way","ahead","wants"] (defScope s_check_way):=by walk_at "sc"
theorem sc_ways_by_name:FnScope ["ways","wants","ahead","way"] ["ways","wants"] (defScope s_ways_by_name):=by walk_at "sc"
theorem sc_amount:FnScope ["plan","name"] ["plan","name"] (defScope s_amount):=by walk_at "sc"
theorem sc_without_noughts:FnScope ["plan","kept","name","part"] ["plan"] (defScope s_without_noughts):=by walk_at "sc"
theorem sc_refuse_other_names:FnScope ["net","plan","name"] ["net","plan"] (defScope s_refuse_other_names):=by walk_at "sc"
theorem sc_refuse_stores:FnScope ["net","stores","ahead","way","store"] ["net","stores"] (defScope s_refuse_stores):=by walk_at "sc"
theorem sc_refuse_wants:FnScope ["net","wants","own_wants","place"] ["net","wants"] (defScope s_refuse_wants):=by walk_at "sc"
theorem sc_places_at:FnScope ["net","own_wants","turn"] ["net","own_wants","turn"] (defScope s_places_at):=by walk_at "sc"
theorem sc_turned:FnScope ["net","stores","wants","places","ways","turn","own_wants"] ["net","stores","wants"] (defScope s_turned):=by walk_at "sc"
theorem sc_own_plan:FnScope ["net","plan","turn","own","way"] ["net","plan","turn"] (defScope s_own_plan):=by walk_at "sc"
theorem sc_taken_in:FnScope ["net","stores","plan","turn","taken","place","here"] ["net","stores","plan","turn"] (defScope s_taken_in):=by walk_at "sc"
theorem sc_put_in:FnScope ["net","stores","plan","turn","put","place","here"] ["net","stores","plan","turn"] (defScope s_put_in):=by walk_at "sc"
theorem sc_by_turns:FnScope ["net","stores","wants","plan","told","turn","own"] ["net","stores","wants","plan"] (defScope s_by_turns):=by walk_at "sc"
theorem sc_law_cell_at:FnScope ["_law_script","_law_k"] ["_law_script","_law_k"] (defScope s_law_cell_at):=by walk_at "sc"
theorem sc_law_name:FnScope ["_law_at","_law_cell","_law_signs","_law_ahead","_law_sign"] ["_law_at","_law_cell"] (defScope s_law_name):=by walk_at "sc"
theorem sc_law_number:FnScope ["_law_cell"] ["_law_cell"] (defScope s_law_number):=by walk_at "sc"
theorem sc_law_not_under:FnScope ["_law_cell"] ["_law_cell"] (defScope s_law_not_under):=by walk_at "sc"
theorem sc_law_high:FnScope ["_law_cell"] ["_law_cell"] (defScope s_law_high):=by walk_at "sc"
theorem sc_law_gain_by:FnScope ["_law_cell"] ["_law_cell"] (defScope s_law_gain_by):=by walk_at "sc"
theorem sc_law_ends:FnScope ["_law_cell","_law_places","_law_size","_law_start","_law_goal"] ["_law_cell","_law_places"] (defScope s_law_ends):=by walk_at "sc"
theorem sc_law_net:FnScope ["_law_script","_law_size","_law_many","_law_places","_law_k","_law_ways","_law_at","_law_start","_law_goal","_law_kind","_law_gain","_law_high_here","_law_cost"] ["_law_script","_law_size","_law_many"] (defScope s_law_net):=by walk_at "sc"
theorem sc_law_way:FnScope ["_law_way_here","_law_name_here","_law_start","_law_goal","_law_kind","_law_gain","_law_high_here","_law_cost","_law_bound","_law_spent"] ["_law_way_here"] (defScope s_law_way):=by walk_at "sc"
theorem sc_law_built:FnScope ["_law_told","_law_places"] ["_law_told"] (defScope s_law_built):=by walk_at "sc"
theorem sc_law_stores:FnScope ["_law_script","_law_at","_law_places","_law_count","_law_stores_here","_law_k","_law_place","_law_loss","_law_gain","_law_high_here","_law_cost"] ["_law_script","_law_at","_law_places","_law_count"] (defScope s_law_stores):=by walk_at "sc"
theorem sc_law_wants:FnScope ["_law_script","_law_at","_law_places","_law_turns","_law_wants_here","_law_turn","_law_row","_law_k","_law_place","_law_cell"] ["_law_script","_law_at","_law_places","_law_turns"] (defScope s_law_wants):=by walk_at "sc"
theorem sc_law_store:FnScope ["_law_store_here","_law_name_here","_law_place","_law_gain","_law_high_here","_law_cost","_law_bound"] ["_law_store_here"] (defScope s_law_store):=by walk_at "sc"
theorem sc_law_fractions:FnScope ["_law_pairs","_law_handed","_law_name_here"] ["_law_pairs"] (defScope s_law_fractions):=by walk_at "sc"
theorem sc_law_faulty:FnScope ["_law_script","_law_told","_law_stores_here","_law_wants_here","_law_at","_law_deed","_law_stranger","_law_k","_law_name_here","_law_place","_law_gain","_law_high_here","_law_cost"] ["_law_script","_law_told","_law_stores_here","_law_wants_here","_law_at"] (defScope s_law_faulty):=by walk_at "sc"
theorem sc_law_due:FnScope ["_law_told","_law_stores_here","_law_wants_here","_law_places","_law_known","_law_store_here","_law_row","_law_name_here","_law_ways"] ["_law_told","_law_stores_here","_law_wants_here"] (defScope s_law_due):=by walk_at "sc"
theorem sc_law_refused:FnScope ["_law_net_here","_law_stores_here","_law_wants_here","_law_plain","_law_plan","_law_found","error"] ["_law_net_here","_law_stores_here","_law_wants_here","_law_plain","_law_plan"] (defScope s_law_refused):=by walk_at "sc"
theorem sc_law_class:FnScope ["_law_net_here","_law_stores_here","_law_wants_here","_law_plain","_law_found","error","_law_first","_law_second"] ["_law_net_here","_law_stores_here","_law_wants_here","_law_plain"] (defScope s_law_class):=by walk_at "sc"
theorem sc_law_asked:FnScope ["_law_net_here","_law_told","_law_stores_here","_law_wants_here","_law_plain","_law_due_here","_law_kept","_law_rows","_law_word","_law_plan"] ["_law_net_here","_law_told","_law_stores_here","_law_wants_here","_law_plain"] (defScope s_law_asked):=by walk_at "sc"
theorem sc_law:FnScope ["_law_script","_law_size","_law_many","_law_told","_law_stores_here","_law_wants_here","_law_net_here","_law_others","_law_rows","_law_plain"] ["_law_script"] (defScope s_law):=by walk_at "sc"
theorem sc_Fraction_init:FnScope ["self","top","bottom","common"] ["self","top","bottom"] (defScope s_Fraction_init):=by walk_at "sc"
theorem sc_Fraction_plus:FnScope ["self","other","common","own","top","left"] ["self","other"] (defScope s_Fraction_plus):=by walk_at "sc"
theorem sc_Fraction_minus:FnScope ["self","other"] ["self","other"] (defScope s_Fraction_minus):=by walk_at "sc"
theorem sc_Fraction_times:FnScope ["self","other","first","second","top"] ["self","other"] (defScope s_Fraction_times):=by walk_at "sc"
theorem sc_Fraction_under:FnScope ["self","other"] ["self","other"] (defScope s_Fraction_under):=by walk_at "sc"
theorem sc_Fraction_sign:FnScope ["self"] ["self"] (defScope s_Fraction_sign):=by walk_at "sc"
theorem sc_Way_init:FnScope ["self","name","start","goal","high","cost"] ["self","name","start","goal","high","cost"] (defScope s_Way_init):=by walk_at "sc"
theorem sc_Way_gain:FnScope ["self"] ["self"] (defScope s_Way_gain):=by walk_at "sc"
theorem sc_Way_out:FnScope ["self","amount"] ["self","amount"] (defScope s_Way_out):=by walk_at "sc"
theorem sc_Way_at_turn:FnScope ["self","turn","start","goal"] ["self","turn"] (defScope s_Way_at_turn):=by walk_at "sc"
theorem sc_Growing_init:FnScope ["self","name","start","goal","rate","high","cost"] ["self","name","start","goal","rate","high","cost"] (defScope s_Growing_init):=by walk_at "sc"
theorem sc_Growing_gain:FnScope ["self"] ["self"] (defScope s_Growing_gain):=by walk_at "sc"
theorem sc_Growing_at_turn:FnScope ["self","turn","start","goal"] ["self","turn"] (defScope s_Growing_at_turn):=by walk_at "sc"
theorem sc_Leaking_init:FnScope ["self","name","start","goal","loss","high","cost"] ["self","name","start","goal","loss","high","cost"] (defScope s_Leaking_init):=by walk_at "sc"
theorem sc_Leaking_gain:FnScope ["self"] ["self"] (defScope s_Leaking_gain):=by walk_at "sc"
theorem sc_Leaking_at_turn:FnScope ["self","turn","start","goal"] ["self","turn"] (defScope s_Leaking_at_turn):=by walk_at "sc"
theorem sc_Store_init:FnScope ["self","name","place","loss","high","cost"] ["self","name","place","loss","high","cost"] (defScope s_Store_init):=by walk_at "sc"
theorem sc_Store_may_stay:FnScope ["self"] ["self"] (defScope s_Store_may_stay):=by walk_at "sc"
theorem sc_Store_at_turn:FnScope ["self","turn","start","goal"] ["self","turn"] (defScope s_Store_at_turn):=by walk_at "sc"
theorem sc_Net_init:FnScope ["self","places","ways"] ["self","places","ways"] (defScope s_Net_init):=by walk_at "sc"
theorem sc_Net_names:FnScope ["self"] ["self"] (defScope s_Net_names):=by walk_at "sc"
theorem sc_Net_want:FnScope ["self","place"] ["self","place"] (defScope s_Net_want):=by walk_at "sc"
theorem sc_Net_way:FnScope ["self","name"] ["self","name"] (defScope s_Net_way):=by walk_at "sc"
theorem sc_Net_all_ways:FnScope ["self"] ["self"] (defScope s_Net_all_ways):=by walk_at "sc"
theorem sc_Twice_init:FnScope ["self","name"] ["self","name"] (defScope s_Twice_init):=by walk_at "sc"
theorem sc_NoPlace_init:FnScope ["self","place"] ["self","place"] (defScope s_NoPlace_init):=by walk_at "sc"
end
end G
open PySem L2 in
local macro_rules | `(tactic| walk_at "kit") => `(tactic| first | exact G.TX.k_Way_Store (by assumption) | exact G.TX.k_Growing_Store (by assumption) | exact G.TX.k_Leaking_Store (by assumption) | exact G.TX.k_NoPlace_NoPlace (by assumption) | exact G.TX.k_NoPlace_TooMany (by assumption) | exact G.TX.k_NoPlace_Twice (by assumption) | exact G.TX.k_NoPlace_ValueError (by assumption) | exact G.TX.k_TooMany_NoPlace (by assumption) | exact G.TX.k_TooMany_TooMany (by assumption) | exact G.TX.k_TooMany_Twice (by assumption) | exact G.TX.k_TooMany_ValueError (by assumption) | exact G.TX.k_Twice_NoPlace (by assumption) | exact G.TX.k_Twice_TooMany (by assumption) | exact G.TX.k_Twice_Twice (by assumption) | exact G.TX.k_Twice_ValueError (by assumption))
open PySem L2 in
local macro_rules | `(tactic| walk_at "sm") => `(tactic| first | assumption | (refine And.left (?_ : G.SmR _); assumption) | (refine And.right (?_ : G.SmR _); assumption))
open PySem L2 in
local macro_rules | `(tactic| walk_at "fa") => `(tactic| first | rfl | assumption | exact True.intro | exact (fun _ h => h) | ((with_reducible show L2.TyOf _ _ _ _); first | exact TyOf.int _ | exact TyOf.str _ | exact TyOf.bl _ | exact TyOf.non | exact G.FrAt.ty (G.TX.fr (by assumption)) (by walk_at "fa")) | ((with_reducible show PySem.W.kitOne _ _ _ = _); walk_at "kit") | ((with_reducible show G.FrAt _ _ _ _); apply G.FrAt.up; assumption; walk_at "fa") | ((with_reducible show L2.SqL _ _ _ _); apply Same.seq; assumption; walk_at "fa") | (show (0 : Int) < _; decide) | (refine (And.intro ?_ ?_ : CDiv _ _) <;> decide) | (refine (And.intro ?_ (And.intro ?_ ?_) : CPow _ _) <;> decide) | exact (PySem.IntMulOk.of_right (by decide)) | exact (PySem.IntMulOk.of_left (by decide)) | (refine (And.intro ?_ ?_ : CMulB _ _) <;> walk_at "sm"))
open PySem L2 in
local macro_rules | `(tactic| walk_at "rd") => `(tactic| repeat (first | refine L2.ItVar.mk _ (by walk_at "fa") ?_ | refine L2.ItB.mk _ (by walk_at "fa") ?_ | refine L2.ItTest.mk _ (by walk_at "fa") ?_ | refine L2.IrU.mk _ (by walk_at "fa") ?_ | refine L2.IrI0.mk _ _ (by walk_at "fa") (by walk_at "fa") ?_ | refine L2.ItFld.mk _ _ _ _ _ (by walk_at "fa") (by walk_at "fa") (by walk_at "fa") (by walk_at "fa") (by walk_at "fa") ?_ | apply @Exists.intro V | apply @Exists.intro Int | apply @Exists.intro Addr | apply @Exists.intro Rat | apply @Exists.intro Bool | apply @Exists.intro Value | apply @Exists.intro (List V) | apply @Exists.intro (List (Str × V)) | apply @Exists.intro Str | apply @Exists.intro (List Int) | refine And.intro (by walk_at "fa") ?_ | refine L2.iteT ?_ | refine L2.iteF ?_))
namespace G
open PySem L2
section
variable {P:Program} {w:World} {K:PySem.W.Frag} {mg:Str→Option Value} {base:Heap} {a:Ad}
theorem TX.fr (T:TX K mg a):FrC K a.Fraction:=⟨T.cl_Fraction,T.na_Fraction_top,T.na_Fraction_bottom,T.c1_Fraction,T.c2,T.c3,T.c4_Fraction⟩
theorem gcd_turn {a b n m:Int} (h:gcd n m=gcd a b) (hm:0≤m) (p:m≠0):0≤n % m∧n % m<m∧gcd m (n % m)=gcd a b:=
 ⟨Int.emod_nonneg n p,Int.emod_lt_of_pos n (by omega),by rw [gcd_step n m (by omega),h]⟩
theorem ok_divisor (T:TX K mg a):FnB P w K mg base CX0 "divisor" 1 ["one","other"] spDiv:=by
 refine T.d_divisor.ok sc_divisor (fun vs H Q E h=>?_) (fun f cdv A outer s H vs Q E hr h=>?_)
 ·obtain ⟨a,b,rfl,_⟩:=h
  rfl
 ·obtain ⟨a,b,rfl,k⟩:=h
  refine ⟨_,(pss_cons (ps_set (i:=0) sc_divisor.nd rfl (Or.inl rfl) (pe_callB call_abs (by rfl) T.z_abs PyProof.Rows.boot_abs (pa_cons (pv 0) pa_nil)))
   (pss_cons (ps_set (i:=1) sc_divisor.nd rfl (Or.inl rfl) (pe_callB call_abs (by rfl) T.z_abs PyProof.Rows.boot_abs (pa_cons (pv 1) pa_nil)))
   (pss_cons (ps_while PassesOwn.never (pt_cmpR op_ne (pv 1) pe_int (nomark _)) (pss_cons (ps_set (i:=2) sc_divisor.nd rfl (Or.inl rfl) (pe_op op_mod (pv 0) (pv 1)))
   (pss_cons (ps_set (i:=0) sc_divisor.nd rfl (Or.inl rfl) (pv 1))
   (pss_one (ps_set (i:=1) sc_divisor.nd rfl (Or.inl rfl) (pv 2))))))
   (pss_one (ps_ret (pv 0)))))),?_⟩
  try dsimp only [cxOf,Cx.nox,Cx.wish]
  refine ⟨_,rfl,_,rfl,_,rfl,_,rfl,?_⟩
  refine while_by (fun σ H'=>∃ (n m:Int) (r:Option V),σ=[some (.int n),some (.int m),r]∧H'=H∧0≤n∧0≤m∧gcd n m=gcd a b) (fun σ _=>match σ with | [_,some (.int m),_]=>m.toNat | _=>0) ?_ ?_ ?_
  ·refine ⟨_,_,_,rfl,rfl,?_,?_,gcd_abs a b⟩ <;> split <;> omega
  ·rintro σ H' ⟨n,m,r,rfl,rfl,hn,hm,hg⟩
   refine ⟨_,rfl,rfl,_,rfl,?_⟩
   by_cases z:m=0
   ·subst z
    refine iteNS rfl ?_
    refine ⟨_,rfl,?_⟩
    rw [gcd_zero n hn] at hg
    rw [hg]
    exact k
   ·refine iteC (by rw [neV z];rfl) ?_
    obtain ⟨g1,g2,g3⟩:=gcd_turn hg hm z
    refine ⟨_,rfl,_,rfl,_,_,rfl,rfl,(by show (0:Int)<m;omega),_,rfl,_,rfl,⟨_,_,_,rfl,rfl,hm,g1,g3⟩,?_⟩
    show (n % m).toNat<m.toNat
    omega
  ·rintro σ H' Q1 Q2 hq ⟨v,e,s1,c,ec,q⟩
   exact ⟨v,e,s1,c,ec,hq _ _ q⟩
theorem ok_init (T:TX K mg a):∀ dvs∈[[],[V.int 1]],MkB P w K mg base CX0 a.Fraction 2 ["self","top","bottom"] dvs (spInit a.Fraction):=by
 refine T.i_Fraction.ok sc_Fraction_init (fun vs H Q E h=>?_) (fun f cdv A outer s H vs Q E hr h=>?_)
 ·obtain ⟨p,dx,n,b,rfl,_⟩:=h
  rfl
 ·obtain ⟨p,dx,n,b,rfl,hp,hb,sb,k⟩:=h
  refine ⟨_,(pss_cons (ps_if (pt_cmpR op_eq (pv 2) pe_int (nomark _)) (pss_one ps_never) pss_nil)
   (pss_cons (ps_set (i:=3) sc_Fraction_init.nd rfl (Or.inl rfl) (pe_fn (ok_divisor T) hr pass0 (pa_cons (pv 1) (pa_cons (pv 2) pa_nil))))
   (pss_cons (ps_if (pt_cmpR op_lt (pv 2) pe_int (nomark _)) (pss_one (ps_set (i:=3) sc_Fraction_init.nd rfl (Or.inl rfl) (pe_un un_neg (pv 3)))) pss_nil)
   (pss_cons (ps_fld (pv 0) (pe_op op_fdivB (pv 1) (pv 3)) rfl)
   (pss_one (ps_fld (pv 0) (pe_op op_fdivB (pv 2) (pv 3)) rfl)))))),?_⟩
  try dsimp only [cxOf,Cx.nox,Cx.wish]
  refine ⟨_,rfl,rfl,_,rfl,?_⟩
  refine iteD (neV hb) ?_
  refine ⟨_,rfl,_,rfl,n,b,rfl,?_⟩
  refine ⟨_,rfl,_,_,rfl,rfl,_,rfl,?_⟩
  obtain ⟨i1,i2⟩:=init_spec n b hb
  have gp:=gcd_pos_r n hb
  have gs:=Sm.gcd_r n hb sb
  have fin:∀ c:Int,c≠0→Sm c→n.fdiv c=(Rat.divInt n b).num→b.fdiv c=((Rat.divInt n b).den:Int)→
    tSeq (sFld K (tVar 0) (tOp (rI CDivB fun i j=>.int (i.fdiv j)) (tVar 1) (tVar 3)) "top") (sFld K (tVar 0) (tOp (rI CDivB fun i j=>.int (i.fdiv j)) (tVar 2) (tVar 3)) "bottom") { nx:=fun _ H'=>Q .non H',rt:=Q } [some (.ref p),some (.int n),some (.int b),some (.int c)] H:=by
   intro c hc hs e1 e2
   refine ⟨_,rfl,_,rfl,_,_,rfl,rfl,⟨hc,hs⟩,_,rfl,p,a.Fraction,dx,_,rfl,hp,T.cl_Fraction,T.na_Fraction_top,(by show 0<1000;decide),?_⟩
   refine ⟨_,rfl,_,rfl,_,_,rfl,rfl,⟨hc,hs⟩,_,rfl,p,a.Fraction,dx,_,rfl,upd_same,T.cl_Fraction,T.na_Fraction_bottom,(by show 1<1000;decide),?_⟩
   refine k _ ?_
   rw [upd_upd]
   dsimp only
   rw [e1,e2,ff_new]
  refine ifB (fun hn=>?_) (fun hn=>?_)
  ·rw [if_pos hn] at i1 i2
   refine ⟨_,rfl,_,rfl,?_⟩
   exact fin _ (by omega) (gs.le (by omega)) i1 i2
  ·rw [if_neg hn] at i1 i2
   exact fin _ (by omega) gs i1 i2
theorem sm1:Sm 1:=Nat.one_lt_two_pow (by decide)
theorem mk2 (T:TX K mg a):MkB P w K mg base CX0 a.Fraction 2 ["self","top","bottom"] [] (spInit a.Fraction):=ok_init T _ (by simp)
theorem mk1 (T:TX K mg a):MkB P w K mg base CX0 a.Fraction 2 ["self","top","bottom"] [.int 1] (spInit a.Fraction):=ok_init T _ (by simp)
theorem ok_in_lowest_terms (T:TX K mg a):FnB P w K mg base CX0 "in_lowest_terms" 4 ["top","bottom"] (spLow a.Fraction):=by
 refine T.d_in_lowest_terms.ok sc_in_lowest_terms (fun vs H Q E h=>?_) (fun f cdv A outer s H vs Q E hr h=>?_)
 ·obtain ⟨t,b,rfl,_⟩:=h
  rfl
 ·obtain ⟨t,b,rfl,k⟩:=h
  refine ⟨_,(pss_cons (ps_set (i:=2) sc_in_lowest_terms.nd rfl (Or.inl rfl) (pe_mkfr (mk1 T) hr T.mg_Fraction pass0 (pa_cons pe_int pa_nil)))
   (pss_cons (ps_fld (pv 2) (pv 0) rfl)
   (pss_cons (ps_fld (pv 2) (pv 1) rfl)
   (pss_one (ps_ret (pv 2)))))),?_⟩
  try dsimp only [cxOf,Cx.nox,Cx.wish]
  refine ⟨0,1,rfl,by decide,sm1,fun x H1 nx s1 ⟨dx,hx⟩=>?_⟩
  refine ⟨_,rfl,_,rfl,x,a.Fraction,dx,_,rfl,hx,T.cl_Fraction,T.na_Fraction_top,(by show 2<1000;decide),?_⟩
  refine ⟨_,rfl,_,rfl,x,a.Fraction,dx,_,rfl,upd_same,T.cl_Fraction,T.na_Fraction_bottom,(by show 2<1000;decide),?_⟩
  refine ⟨_,rfl,?_⟩
  refine k x dx _ nx (fun c o e=>?_) ?_
  ·rw [upd_ne (ne_of_none e nx),upd_ne (ne_of_none e nx)]
   exact s1 _ _ e
  ·rw [upd_same,ff_put]
abbrev always:Rat→Rat→Prop:=fun _ _=>True
theorem ok_plus (T:TX K mg a):MtB P w K mg base CX0 a.Fraction "plus" 5 ["self","other"] (spR2 a.Fraction (fun x y=>x+y) always):=by
 refine T.m_Fraction_plus.ok sc_Fraction_plus (fun vs H Q E h=>?_) (fun f cdv A outer s H vs Q E hr h=>?_)
 ·obtain ⟨p,q,x,y,rfl,_⟩:=h
  rfl
 ·obtain ⟨p,q,x,y,rfl,hp,hq,sx,sy,_,k⟩:=h
  refine ⟨_,(pss_cons (ps_set (i:=2) sc_Fraction_plus.nd rfl (Or.inl rfl) (pe_fn (ok_divisor T) hr pass0 (pa_cons (pe_bot T.fr (pv 0)) (pa_cons (pe_bot T.fr (pv 1)) pa_nil))))
   (pss_cons (ps_set (i:=3) sc_Fraction_plus.nd rfl (Or.inl rfl) (pe_op op_fdivB (pe_bot T.fr (pv 0)) (pv 2)))
   (pss_cons (ps_set (i:=4) sc_Fraction_plus.nd rfl (Or.inl rfl) (pe_op op_add (pe_op op_mulB (pe_top T.fr (pv 0)) (pe_op op_fdivB (pe_bot T.fr (pv 1)) (pv 2))) (pe_op op_mulB (pe_top T.fr (pv 1)) (pv 3))))
   (pss_cons (ps_set (i:=5) sc_Fraction_plus.nd rfl (Or.inl rfl) (pe_fn (ok_divisor T) hr pass0 (pa_cons (pv 4) (pa_cons (pv 2) pa_nil))))
   (pss_one (ps_ret (pe_fn (ok_in_lowest_terms T) hr pass0 (pa_cons (pe_op op_fdivB (pv 4) (pv 5)) (pa_cons (pe_op op_mulB (pv 3) (pe_op op_fdivB (pe_bot T.fr (pv 1)) (pv 5))) pa_nil))))))))),?_⟩
  try dsimp only [cxOf,Cx.nox,Cx.wish]
  have hx:=den_ne x
  have hy:=den_ne y
  have xp:=den_pos x
  have yp:=den_pos y
  have gp:=gcd_pos_r (x.den:Int) hy
  have gs:=Sm.gcd_r (x.den:Int) hy sy.2
  have gn:gcd x.den y.den≠0:=by omega
  have so:Sm ((x.den:Int).fdiv (gcd x.den y.den)):=sx.2.le (fdiv_le _ gp (by omega))
  have so2:Sm ((y.den:Int).fdiv (gcd x.den y.den)):=sy.2.le (fdiv_le _ gp (by omega))
  refine ⟨_,rfl,p,x,rfl,hp,_,rfl,q,y,rfl,hq,_,_,rfl,?_⟩
  refine ⟨_,rfl,p,x,rfl,hp,_,rfl,_,_,rfl,rfl,⟨by omega,gs⟩,?_⟩
  refine ⟨_,rfl,p,x,rfl,hp,_,rfl,q,y,rfl,hq,_,rfl,_,_,rfl,rfl,⟨by omega,gs⟩,_,_,rfl,rfl,⟨sx.1,so2⟩,_,rfl,q,y,rfl,hq,_,rfl,_,_,rfl,rfl,⟨sy.1,so⟩,_,_,rfl,rfl,?_⟩
  refine ⟨_,rfl,_,rfl,_,_,rfl,?_⟩
  generalize htop:x.num*(y.den:Int).fdiv (gcd x.den y.den)+y.num*(x.den:Int).fdiv (gcd x.den y.den)=top
  have lp:=gcd_pos_r top gn
  have ls:=Sm.gcd_r top gn gs
  refine ⟨_,rfl,_,rfl,_,_,rfl,rfl,⟨by omega,ls⟩,_,rfl,_,rfl,q,y,rfl,hq,_,rfl,_,_,rfl,rfl,⟨by omega,ls⟩,_,_,rfl,rfl,⟨so,sy.2.le (fdiv_le _ lp (by omega))⟩,_,_,rfl,?_⟩
  intro r dx H' nr s1 h1
  obtain ⟨e1,e2⟩:=add_spec x y
  try dsimp only at e1 e2
  rw [htop] at e1 e2
  refine k r H' nr s1 ⟨dx,?_⟩
  show H' r=some (.ins a.Fraction dx (ff (x+y).num (x+y).den))
  try rw [htop] at h1
  rw [h1,← e1,← e2]
theorem ok_minus (T:TX K mg a):MtB P w K mg base CX0 a.Fraction "minus" 6 ["self","other"] (spR2 a.Fraction (fun x y=>x-y) always):=by
 refine T.m_Fraction_minus.ok sc_Fraction_minus (fun vs H Q E h=>?_) (fun f cdv A outer s H vs Q E hr h=>?_)
 ·obtain ⟨p,q,x,y,rfl,_⟩:=h
  rfl
 ·obtain ⟨p,q,x,y,rfl,hp,hq,sx,sy,_,k⟩:=h
  refine ⟨_,(pss_one (ps_ret (pe_frm T.fr (pv 0) (ok_plus T) hr pass0 (pa_cons (pe_fn (ok_in_lowest_terms T) hr pass0 (pa_cons (pe_un un_neg (pe_top T.fr (pv 1))) (pa_cons (pe_bot T.fr (pv 1)) pa_nil))) pa_nil)))),?_⟩
  try dsimp only [cxOf,Cx.nox,Cx.wish]
  refine ⟨_,rfl,p,x,rfl,hp,_,rfl,q,y,rfl,hq,_,rfl,_,rfl,q,y,rfl,hq,_,_,rfl,fun r dx H1 nr s1 h1=>?_⟩
  have f1:FrAt a.Fraction H1 r (-y):=⟨dx,h1⟩
  refine ⟨p,r,x,-y,rfl,hp.mono s1,f1,sx,⟨by show Sm (-y.num);exact sy.1.le (by omega),sy.2⟩,trivial,fun r' H2 nr' s2 f2=>?_⟩
  refine k r' H2 (s1.free nr') (s1.trans s2) ?_
  show FrAt a.Fraction H2 r' (x-y)
  rw [Rat.sub_eq_add_neg]
  exact f2
theorem ok_times (T:TX K mg a):MtB P w K mg base CX0 a.Fraction "times" 5 ["self","other"] (spR2 a.Fraction (fun x y=>x*y) always):=by
 refine T.m_Fraction_times.ok sc_Fraction_times (fun vs H Q E h=>?_) (fun f cdv A outer s H vs Q E hr h=>?_)
 ·obtain ⟨p,q,x,y,rfl,_⟩:=h
  rfl
 ·obtain ⟨p,q,x,y,rfl,hp,hq,sx,sy,_,k⟩:=h
  refine ⟨_,(pss_cons (ps_set (i:=2) sc_Fraction_times.nd rfl (Or.inl rfl) (pe_fn (ok_divisor T) hr pass0 (pa_cons (pe_top T.fr (pv 0)) (pa_cons (pe_bot T.fr (pv 1)) pa_nil))))
   (pss_cons (ps_set (i:=3) sc_Fraction_times.nd rfl (Or.inl rfl) (pe_fn (ok_divisor T) hr pass0 (pa_cons (pe_top T.fr (pv 1)) (pa_cons (pe_bot T.fr (pv 0)) pa_nil))))
   (pss_cons (ps_set (i:=4) sc_Fraction_times.nd rfl (Or.inl rfl) (pe_op op_mulB (pe_op op_fdivB (pe_top T.fr (pv 0)) (pv 2)) (pe_op op_fdivB (pe_top T.fr (pv 1)) (pv 3))))
   (pss_one (ps_ret (pe_fn (ok_in_lowest_terms T) hr pass0 (pa_cons (pv 4) (pa_cons (pe_op op_mulB (pe_op op_fdivB (pe_bot T.fr (pv 0)) (pv 3)) (pe_op op_fdivB (pe_bot T.fr (pv 1)) (pv 2))) pa_nil)))))))),?_⟩
  try dsimp only [cxOf,Cx.nox,Cx.wish]
  have hx:=den_ne x
  have hy:=den_ne y
  have xp:=den_pos x
  have yp:=den_pos y
  have p1:=gcd_pos_r x.num hy
  have p2:=gcd_pos_r y.num hx
  have s1:=Sm.gcd_r x.num hy sy.2
  have s2:=Sm.gcd_r y.num hx sx.2
  have t1:Sm (x.num.fdiv (gcd x.num y.den)):=sx.1.le (fdiv_le' _ p1 (gcd_dvd_l _ _))
  have t2:Sm (y.num.fdiv (gcd y.num x.den)):=sy.1.le (fdiv_le' _ p2 (gcd_dvd_l _ _))
  have t3:Sm ((x.den:Int).fdiv (gcd y.num x.den)):=sx.2.le (fdiv_le _ p2 (by omega))
  have t4:Sm ((y.den:Int).fdiv (gcd x.num y.den)):=sy.2.le (fdiv_le _ p1 (by omega))
  refine ⟨_,rfl,p,x,rfl,hp,_,rfl,q,y,rfl,hq,_,_,rfl,?_⟩
  refine ⟨_,rfl,q,y,rfl,hq,_,rfl,p,x,rfl,hp,_,_,rfl,?_⟩
  refine ⟨_,rfl,p,x,rfl,hp,_,rfl,_,_,rfl,rfl,⟨by omega,s1⟩,_,rfl,q,y,rfl,hq,_,rfl,_,_,rfl,rfl,⟨by omega,s2⟩,_,_,rfl,rfl,⟨t1,t2⟩,?_⟩
  refine ⟨_,rfl,_,rfl,p,x,rfl,hp,_,rfl,_,_,rfl,rfl,⟨by omega,s2⟩,_,rfl,q,y,rfl,hq,_,rfl,_,_,rfl,rfl,⟨by omega,s1⟩,_,_,rfl,rfl,⟨t3,t4⟩,_,_,rfl,?_⟩
  intro r dx H' nr s1 h1
  obtain ⟨e1,e2⟩:=mul_spec x y
  refine k r H' nr s1 ⟨dx,?_⟩
  show H' r=some (.ins a.Fraction dx (ff (x*y).num (x*y).den))
  rw [h1,← e1,← e2]
def spB2 (C:Addr) (f:Rat→Rat→Bool):Sp:=fun vs H Q _=>∃ (p q:Addr) (x y:Rat),vs=[.ref p,.ref q]∧FrAt C H p x∧FrAt C H q y∧SmR x∧SmR y∧Q (.bl (f x y)) H
theorem ok_under (T:TX K mg a):MtB P w K mg base CX0 a.Fraction "under" 1 ["self","other"] (spB2 a.Fraction fun x y=>decide (x<y)):=by
 refine T.m_Fraction_under.ok sc_Fraction_under (fun vs H Q E h=>?_) (fun f cdv A outer s H vs Q E hr h=>?_)
 ·obtain ⟨p,q,x,y,rfl,_⟩:=h
  rfl
 ·obtain ⟨p,q,x,y,rfl,hp,hq,sx,sy,k⟩:=h
  refine ⟨_,(pss_one (ps_ret (pe_cmpR op_lt (pe_op op_mulB (pe_top T.fr (pv 0)) (pe_bot T.fr (pv 1))) (pe_op op_mulB (pe_top T.fr (pv 1)) (pe_bot T.fr (pv 0))) (nomark _)))),?_⟩
  try dsimp only [cxOf,Cx.nox,Cx.wish]
  walk_at "rd"
  show Q (.bl (decide (x.num * ↑y.den<y.num * ↑x.den))) H
  rw [decide_eq_decide.mpr (Rat.lt_iff x y).symm]
  exact k
def sgn (x:Rat):Int:=if 0<x.num then 1 else if x.num<0 then -1 else 0
theorem ok_sign (T:TX K mg a):MtB P w K mg base CX0 a.Fraction "sign" 1 ["self"] (fun vs H Q _=>∃ (p:Addr) (x:Rat),vs=[.ref p]∧FrAt a.Fraction H p x∧Q (.int (sgn x)) H):=by
 refine T.m_Fraction_sign.ok sc_Fraction_sign (fun vs H Q E h=>?_) (fun f cdv A outer s H vs Q E hr h=>?_)
 ·obtain ⟨p,x,rfl,_⟩:=h
  rfl
 ·obtain ⟨p,x,rfl,hp,k⟩:=h
  refine ⟨_,(pss_cons (ps_if (pt_cmpR op_gt (pe_top T.fr (pv 0)) pe_int (nomark _)) (pss_one (ps_ret pe_int)) pss_nil)
   (pss_cons (ps_if (pt_cmpR op_lt (pe_top T.fr (pv 0)) pe_int (nomark _)) (pss_one (ps_ret (pe_un un_neg pe_int))) pss_nil)
   (pss_one (ps_ret pe_int)))),?_⟩
  try dsimp only [cxOf,Cx.nox,Cx.wish]
  walk_at "rd"
  refine ifB (fun h1=>?_) (fun h1=>?_)
  ·rw [show sgn x=1 from if_pos h1] at k
   exact k
  ·walk_at "rd"
   refine ifB (fun h2=>?_) (fun h2=>?_)
   ·rw [show sgn x = -1 from (if_neg h1).trans (if_pos h2)] at k
    walk_at "rd"
    exact k
   ·rw [show sgn x=0 from (if_neg h1).trans (if_neg h2)] at k
    exact k
inductive IspTwice (a:Ad) (vs:List V) (H:Hp) (Q:VK):Prop
 | mk (e:Addr) (n:Str) (h1:vs=[.ref e,.str n]) (h2:H e=some (XI e a.Twice none)) (h3:n.length≤1000) (h4:∀ dx,H dx=none→Q .non (upd (upd H e (XI e a.Twice (some dx))) dx (.xd [("name",.str n)]))):IspTwice a vs H Q
def spTwice (a:Ad):Sp:=fun vs H Q _=>IspTwice a vs H Q
theorem b_Twice (T:TX K mg a):BodyOk P w K mg base "Twice.__init__" s_Twice_init ["self","name"] 0 (spTwice a):=by
 intro f cdv A outer s₀ H vs Q E hr h
 obtain ⟨e,n,rfl,he,hn,k⟩:=h
 refine ⟨_,(pss_cons (ps_expr (pe_binit T.br_Twice T.bf_Twice T.mg_GainError (pa_cons (pv 0) (pa_cons (pe_j2 pe_str (pe_fv (pv 1))) pa_nil))))
   (pss_one (ps_xfld (pv 0) (pv 1) rfl))),?_⟩
 try dsimp only [cxOf,Cx.nox,Cx.wish]
 obtain ⟨fi,hfi⟩:=T.xi_Twice.fi
 refine ⟨_,rfl,_,rfl,by rw [PySem.sizeLine_eq];decide,_,rfl,_,rfl,by rw [PySem.sizeLine_eq];omega,_,rfl,?_,e,a.Twice,none,_,fi,rfl,he,hfi,?_,?_⟩
 ·rw [show ("the name is there already: ":Str).length=27 from by decide +kernel,PySem.sizeLine_eq]
  omega
 ·rw [PySem.sizeLine_eq]
  show 1≤_
  omega
 ·exact ⟨_,rfl,_,rfl,e,a.Twice,rfl,he,T.xs_Twice,T.na_Twice_name,k⟩
theorem xi_Twice (T:TX K mg a):XiB P w K mg base a.Twice 1 ["self","name"] (spTwice a):=
 T.xi_Twice.ok sc_Twice_init (fun vs H Q E h=>by obtain ⟨_,_,rfl,_⟩:=h;rfl) (b_Twice T)
def TwiceE (a:Ad) (H:Hp) (n:Str) (E:XK):Prop:=∀ H' dx,Same H H'→H' dx=some (.xd [("name",.str n)])→E (.ref a.Twice) (some dx) H'
theorem raise_tw {H:Hp} {n:Str} {E:XK} (hn:n.length≤1000) (k:TwiceE a H n E):([V.str n]:List V).length≤sizeLine∧
  ∀ e,H e=none→spTwice a ((.ref e::[.str n])++[]) (upd H e (XI e a.Twice none)) (fun v H2=>v=.non∧∃ d,H2 e=some (XI e a.Twice d)∧E (.ref a.Twice) d (del H2 e)) E0:=by
 refine ⟨by rw [PySem.sizeLine_eq];show 1≤_;omega,fun e he=>⟨e,n,rfl,upd_same,hn,fun dx hd=>⟨rfl,some dx,?_,?_⟩⟩⟩
 ·have ne:dx≠e:=fun z=>by rw [z,upd_same] at hd;cases hd
  rw [upd_ne (Ne.symm ne),upd_same]
 ·have ne:dx≠e:=fun z=>by rw [z,upd_same] at hd;cases hd
  have hd':H dx=none:=by rw [upd_ne ne] at hd;exact hd
  refine k _ dx (fun b o eb=>?_) ?_
  ·have n1:=ne_of_none eb he
   have n2:=ne_of_none eb hd'
   unfold del
   rw [if_neg n1,upd_ne n2,upd_ne n1,upd_ne n1]
   exact eb
  ·unfold del
   rw [if_neg ne,upd_same]
inductive IspNoPlace (a:Ad) (vs:List V) (H:Hp) (Q:VK):Prop
 | mk (e:Addr) (n:Str) (h1:vs=[.ref e,.str n]) (h2:H e=some (XI e a.NoPlace none)) (h3:n.length≤1000) (h4:∀ dx,H dx=none→Q .non (upd (upd H e (XI e a.NoPlace (some dx))) dx (.xd [("place",.str n)]))):IspNoPlace a vs H Q
def spNoPlace (a:Ad):Sp:=fun vs H Q _=>IspNoPlace a vs H Q
theorem b_NoPlace (T:TX K mg a):BodyOk P w K mg base "NoPlace.__init__" s_NoPlace_init ["self","place"] 0 (spNoPlace a):=by
 intro f cdv A outer s₀ H vs Q E hr h
 obtain ⟨e,n,rfl,he,hn,k⟩:=h
 refine ⟨_,(pss_cons (ps_expr (pe_binit T.br_NoPlace T.bf_NoPlace T.mg_GainError (pa_cons (pv 0) (pa_cons (pe_j2 pe_str (pe_fv (pv 1))) pa_nil))))
   (pss_one (ps_xfld (pv 0) (pv 1) rfl))),?_⟩
 try dsimp only [cxOf,Cx.nox,Cx.wish]
 obtain ⟨fi,hfi⟩:=T.xi_NoPlace.fi
 refine ⟨_,rfl,_,rfl,by rw [PySem.sizeLine_eq];decide,_,rfl,_,rfl,by rw [PySem.sizeLine_eq];omega,_,rfl,?_,e,a.NoPlace,none,_,fi,rfl,he,hfi,?_,?_⟩
 ·rw [show ("no such place: ":Str).length=15 from by decide +kernel,PySem.sizeLine_eq]
  omega
 ·rw [PySem.sizeLine_eq]
  show 1≤_
  omega
 ·exact ⟨_,rfl,_,rfl,e,a.NoPlace,rfl,he,T.xs_NoPlace,T.na_NoPlace_place,k⟩
theorem xi_NoPlace (T:TX K mg a):XiB P w K mg base a.NoPlace 1 ["self","place"] (spNoPlace a):=
 T.xi_NoPlace.ok sc_NoPlace_init (fun vs H Q E h=>by obtain ⟨_,_,rfl,_⟩:=h;rfl) (b_NoPlace T)
def NoPlaceE (a:Ad) (H:Hp) (n:Str) (E:XK):Prop:=∀ H' dx,Same H H'→H' dx=some (.xd [("place",.str n)])→E (.ref a.NoPlace) (some dx) H'
theorem raise_np {H:Hp} {n:Str} {E:XK} (hn:n.length≤1000) (k:NoPlaceE a H n E):([V.str n]:List V).length≤sizeLine∧
  ∀ e,H e=none→spNoPlace a ((.ref e::[.str n])++[]) (upd H e (XI e a.NoPlace none)) (fun v H2=>v=.non∧∃ d,H2 e=some (XI e a.NoPlace d)∧E (.ref a.NoPlace) d (del H2 e)) E0:=by
 refine ⟨by rw [PySem.sizeLine_eq];show 1≤_;omega,fun e he=>⟨e,n,rfl,upd_same,hn,fun dx hd=>⟨rfl,some dx,?_,?_⟩⟩⟩
 ·have ne:dx≠e:=fun z=>by rw [z,upd_same] at hd;cases hd
  rw [upd_ne (Ne.symm ne),upd_same]
 ·have ne:dx≠e:=fun z=>by rw [z,upd_same] at hd;cases hd
  have hd':H dx=none:=by rw [upd_ne ne] at hd;exact hd
  refine k _ dx (fun b o eb=>?_) ?_
  ·have n1:=ne_of_none eb he
   have n2:=ne_of_none eb hd'
   unfold del
   rw [if_neg n1,upd_ne n2,upd_ne n1,upd_ne n1]
   exact eb
  ·unfold del
   rw [if_neg ne,upd_same]
structure WayC (K:PySem.W.Frag) (C:Addr):Prop where
 cl:Cls K C
 n1:NoAttr K C "name"
 n2:NoAttr K C "start"
 n3:NoAttr K C "goal"
 n4:NoAttr K C "high"
 n5:NoAttr K C "cost"
theorem TX.wW (T:TX K mg a):WayC K a.Way:=⟨T.cl_Way,T.na_Way_name,T.na_Way_start,T.na_Way_goal,T.na_Way_high,T.na_Way_cost⟩
theorem TX.wG (T:TX K mg a):WayC K a.Growing:=⟨T.cl_Growing,T.na_Growing_name,T.na_Growing_start,T.na_Growing_goal,T.na_Growing_high,T.na_Growing_cost⟩
theorem TX.wL (T:TX K mg a):WayC K a.Leaking:=⟨T.cl_Leaking,T.na_Leaking_name,T.na_Leaking_start,T.na_Leaking_goal,T.na_Leaking_high,T.na_Leaking_cost⟩
theorem TX.wS (T:TX K mg a):WayC K a.Store:=⟨T.cl_Store,T.na_Store_name,T.na_Store_start,T.na_Store_goal,T.na_Store_high,T.na_Store_cost⟩
structure W5 (fs:List (Str × V)) (n s g:Str) (vh vc:V):Prop where
 nm:fs.lookup ("name":Str)=some (.str n)
 st:fs.lookup ("start":Str)=some (.str s)
 go:fs.lookup ("goal":Str)=some (.str g)
 hi:fs.lookup ("high":Str)=some vh
 co:fs.lookup ("cost":Str)=some vc
 ga:fs.lookup ("gain":Str)=none
 ou:fs.lookup ("at_turn":Str)=none
 ox:fs.lookup ("out":Str)=none
 len:fs.length≤10
theorem W5.new {n s g:Str} {vh vc:V}:W5 (putF "cost" vc (putF "high" vh (putF "goal" (.str g) (putF "start" (.str s) (putF "name" (.str n) []))))) n s g vh vc:=by
 refine ⟨?_,?_,?_,?_,?_,?_,?_,?_,?_⟩
 iterate 8
  simp only [lookup_putF]
  (repeat rw [if_neg (by decide +kernel)])
  try rw [if_pos rfl]
  try rfl
 ·have h1:=length_putF "cost" vc (putF "high" vh (putF "goal" (.str g) (putF "start" (.str s) (putF "name" (.str n) []))))
  have h2:=length_putF "high" vh (putF "goal" (.str g) (putF "start" (.str s) (putF "name" (.str n) [])))
  have h3:=length_putF "goal" (.str g) (putF "start" (.str s) (putF "name" (.str n) []))
  have h4:=length_putF "start" (.str s) (putF "name" (.str n) [])
  have h5:=length_putF "name" (.str n) []
  simp only [List.length_nil] at h5
  omega
theorem W5.put {fs:List (Str × V)} {n s g:Str} {vh vc v:V} {f:Str} (h:W5 fs n s g vh vc) (hf:f∈(["rate","loss"]:List Str)) (hl:fs.length≤5):W5 (putF f v fs) n s g vh vc:=by
 have e:∀ x∈(["name","start","goal","high","cost","gain","at_turn","out"]:List Str),x≠f:=by
  intro x hx z
  subst z
  revert hx hf
  simp only [List.mem_cons,List.not_mem_nil,or_false]
  rintro (rfl | rfl | rfl | rfl | rfl | rfl | rfl | rfl) (h | h) <;> exact absurd h (by decide +kernel)
 have l:=length_putF f v fs
 refine ⟨?_,?_,?_,?_,?_,?_,?_,?_,by omega⟩ <;> rw [lookup_putF,if_neg (e _ (by simp))]
 ·exact h.nm
 ·exact h.st
 ·exact h.go
 ·exact h.hi
 ·exact h.co
 ·exact h.ga
 ·exact h.ou
 ·exact h.ox
theorem le_put {f:Str} {v:V} {fs:List (Str × V)} {m:Nat} (h:fs.length≤m):(putF f v fs).length≤m+1:=Nat.le_trans (length_putF f v fs) (Nat.succ_le_succ h)
theorem sgn_nn {x:Rat} (h:0≤x.num):¬ sgn x<0:=by
 unfold sgn
 repeat' split
 all_goals omega
theorem sgn_p {x:Rat} (h:0<x.num):¬ sgn x≤0:=by
 unfold sgn
 rw [if_pos h]
 decide
def HiOk (C:Addr) (H:Hp) (v:V):Prop:=v=.non∨∃ (q:Addr) (x:Rat),v=.ref q∧FrAt C H q x∧0≤x.num
theorem HiOk.mono {C:Addr} {H H':Hp} {v:V} (h:HiOk C H v) (s:Same H H'):HiOk C H' v:=h.imp id fun ⟨q,x,e,f,z⟩=>⟨q,x,e,f.mono s,z⟩
def CoIs (C:Addr) (H:Hp) (p:Addr) (vc vc':V):Prop:=(vc≠.non∧vc'=vc)∨(vc=.non∧∃ q,vc'=.ref q∧q≠p∧FrAt C H q (Rat.divInt 0 1))
theorem CoIs.upd {C p:Addr} {H:Hp} {vc vc':V} {o:HO} (h:CoIs C H p vc vc'):CoIs C (upd H p o) p vc vc':=h.imp id fun ⟨e,q,e2,ne,dq,f⟩=>⟨e,q,e2,ne,dq,by rw [upd_ne ne];exact f⟩
inductive IspYes (vs:List V) (H:Hp) (Q:VK):Prop
 | mk (p:Addr) (h1:vs=[.ref p]) (h2:Q (.bl true) H):IspYes vs H Q
def spYes:Sp:=fun vs H Q _=>IspYes vs H Q
theorem ok_may_stay (T:TX K mg a):MtB P w K mg base CX0 a.Store "may_stay" 1 ["self"] spYes:=by
 refine T.m_Store_may_stay.ok sc_Store_may_stay (fun vs H Q E h=>?_) (fun f cdv A outer s H vs Q E hr h=>?_)
 ·obtain ⟨p,rfl,_⟩:=h
  rfl
 ·obtain ⟨p,rfl,k⟩:=h
  refine ⟨_,(pss_one (ps_ret pe_bl)),?_⟩
  try dsimp only [cxOf,Cx.nox,Cx.wish]
  exact k
inductive IspWayN (K:PySem.W.Frag) (a:Ad) (vs:List V) (H:Hp) (Q:VK):Prop
 | mk (p C dx:Addr) (n s g:Str) (vh vc:V) (h1:vs=[.ref p,.str n,.str s,.str g,vh,vc]) (h2:H p=some (.ins C dx [])) (h3:WayC K C) (h4:(s≠g∨C=a.Store)) (h5:HiOk a.Fraction H vh) (h6:∀ H' fs vc',W5 fs n s g vh vc'→fs.length≤5→CoIs a.Fraction H' p vc vc'→(∀ b o,H b=some o→b≠p→H' b=some o)→H' p=some (.ins C dx fs)→Q .non H'):IspWayN K a vs H Q
def spWayN (K:PySem.W.Frag) (a:Ad):Sp:=fun vs H Q _=>IspWayN K a vs H Q
theorem b_Way (T:TX K mg a):BodyOk P w K mg base "Way.__init__" s_Way_init ["self","name","start","goal","high","cost"] 3 (spWayN K a):=by
 intro f cdv A outer s₀ H vs Q E hr h
 obtain ⟨p,C,dx,n,s,g,vh,vc,rfl,hp,c,sg,hh,k⟩:=h
 refine ⟨_,(pss_cut (ps_if (PW.pt (pw_and (pt_cmpR op_eq (pv 2) (pv 3) (nomark _)) (pw_and1 (pt_not (pt_val (pe_mtD0 (CX:=CX0) (pv 0) hr pass0)))))) (pss_one ps_never) pss_nil)
   (pss_cut (ps_if (PW.pt (pw_and (pt_cmpR op_notN (pv 4) pe_non (nomark _)) (pw_and1 (pt_cmpR op_lt (pe_frm0 T.fr (pv 4) (ok_sign T) hr pass0) pe_int (nomark _))))) (pss_one ps_never) pss_nil)
   (pss_cons (ps_fld (pv 0) (pv 1) rfl)
   (pss_cons (ps_fld (pv 0) (pv 2) rfl)
   (pss_cons (ps_fld (pv 0) (pv 3) rfl)
   (pss_cons (ps_fld (pv 0) (pv 4) rfl)
   (pss_one (ps_fld (pv 0) (pe_ifExp (pt_cmpR op_isN (pv 5) pe_non (nomark _)) (pe_mkfr (mk1 T) hr T.mg_Fraction pass0 (pa_cons pe_int pa_nil)) (pv 5)) rfl)))))))),?_⟩
 try dsimp only [cxOf,Cx.nox,Cx.wish]
 refine ⟨fun σ' H'=>σ'=[some (.ref p),some (.str n),some (.str s),some (.str g),some vh,some vc]∧H'=H,?_,?_⟩
 ·walk_at "rd"
  by_cases e:s=g
  ·obtain rfl:C=a.Store:=sg.resolve_left fun z=>z e
   refine iteC (decide_eq_true (congrArg V.str e)) ?_
   refine ⟨_,rfl,p,a.Store,dx,[],1,["self"],spYes,rfl,hp,rfl,c.cl,by decide,ok_may_stay T,⟨p,rfl,?_⟩⟩
   walk_at "rd"
   first | exact ⟨rfl,rfl⟩ | exact rfl
  ·refine iteD (decide_eq_false fun z=>e (V.str.inj z)) ?_
   walk_at "rd"
   first | exact ⟨rfl,rfl⟩ | exact rfl
 rintro σ' H' ⟨rfl,rfl⟩
 refine ⟨fun σ' H''=>σ'=[some (.ref p),some (.str n),some (.str s),some (.str g),some vh,some vc]∧H''=H',?_,?_⟩
 ·rcases hh with rfl | ⟨q,x,rfl,fq,hx⟩
  ·walk_at "rd"
   first | exact ⟨rfl,rfl⟩ | exact rfl
  ·walk_at "rd"
   refine iteD (decide_eq_false (sgn_nn hx)) ?_
   first | exact ⟨rfl,rfl⟩ | exact rfl
 rintro σ' H'' ⟨rfl,rfl⟩
 refine ⟨_,rfl,_,rfl,p,C,dx,[],rfl,hp,c.cl,c.n1,by decide,?_⟩
 refine ⟨_,rfl,_,rfl,p,C,dx,_,rfl,upd_same,c.cl,c.n2,Nat.lt_of_le_of_lt (le_put (Nat.le_refl 0)) (by decide),?_⟩
 refine ⟨_,rfl,_,rfl,p,C,dx,_,rfl,upd_same,c.cl,c.n3,Nat.lt_of_le_of_lt (le_put (le_put (Nat.le_refl 0))) (by decide),?_⟩
 refine ⟨_,rfl,_,rfl,p,C,dx,_,rfl,upd_same,c.cl,c.n4,Nat.lt_of_le_of_lt (le_put (le_put (le_put (Nat.le_refl 0)))) (by decide),?_⟩
 simp only [upd_upd]
 walk_at "rd"
 by_cases hc:vc=.non
 ·refine iteC (decide_eq_true hc) ?_
  walk_at "rd"
  refine ⟨by decide,sm1,fun q H1 nq s1 f1=>?_⟩
  refine ⟨_,rfl,p,C,dx,_,rfl,s1 _ _ upd_same,c.cl,c.n5,Nat.lt_of_le_of_lt (le_put (le_put (le_put (le_put (Nat.le_refl 0))))) (by decide),?_⟩
  have nqp:q≠p:=fun z=>by rw [z,upd_same] at nq;cases nq
  obtain ⟨dq,f1⟩:=f1
  refine k _ _ (.ref q) W5.new (le_put (le_put (le_put (le_put (le_put (Nat.le_refl 0)))))) (.inr ⟨hc,q,rfl,nqp,dq,by rw [upd_ne nqp];exact f1⟩) (fun b o e nb=>?_) upd_same
  rw [upd_ne nb]
  refine s1 _ _ ?_
  rw [upd_ne nb]
  exact e
 ·refine iteD (decide_eq_false hc) ?_
  refine ⟨_,rfl,_,rfl,p,C,dx,_,rfl,upd_same,c.cl,c.n5,Nat.lt_of_le_of_lt (le_put (le_put (le_put (le_put (Nat.le_refl 0))))) (by decide),?_⟩
  rw [upd_upd]
  refine k _ _ vc W5.new (le_put (le_put (le_put (le_put (le_put (Nat.le_refl 0)))))) (.inl ⟨hc,rfl⟩) (fun b o e nb=>?_) upd_same
  rw [upd_ne nb]
  exact e
theorem len_WayN:∀ vs H Q E,spWayN K a vs H Q E→vs.length=(["self","name","start","goal","high","cost"]:List Str).length:=fun vs H Q E h=>by
 obtain ⟨_,_,_,_,_,_,_,_,rfl,_⟩:=h
 rfl
theorem mk_WayN (T:TX K mg a):∀ dvs∈[[],[V.non,V.non]],MkB P w K mg base CX0 a.Way 4 ["self","name","start","goal","high","cost"] dvs (spWayN K a):=T.i_Way.ok sc_Way_init len_WayN (b_Way T)
theorem mk_Way (T:TX K mg a):MkB P w K mg base CX0 a.Way 4 ["self","name","start","goal","high","cost"] [] (spWayN K a):=mk_WayN T _ (by simp)
theorem cf_Way (T:TX K mg a):CfB P w K mg base CX0 a.Way "__init__" 4 ["self","name","start","goal","high","cost"] (spWayN K a):=T.c_Way.ok sc_Way_init len_WayN (b_Way T)
inductive IspPartN (K:PySem.W.Frag) (a:Ad) (f:Str) (ok:Rat→Prop) (vs:List V) (H:Hp) (Q:VK):Prop
 | mk (p C dx:Addr) (n s g:Str) (vh vc:V) (q:Addr) (x:Rat) (h1:vs=[.ref p,.str n,.str s,.str g,.ref q,vh,vc]) (h2:H p=some (.ins C dx [])) (h3:WayC K C) (h4:NoAttr K C f) (h5:(s≠g∨C=a.Store)) (h6:FrAt a.Fraction H q x) (h7:ok x) (h8:HiOk a.Fraction H vh) (h9:∀ H' fs vc',W5 fs n s g vh vc'→fs.lookup f=some (.ref q)→CoIs a.Fraction H' p vc vc'→(∀ b o,H b=some o→b≠p→H' b=some o)→H' p=some (.ins C dx fs)→Q .non H'):IspPartN K a f ok vs H Q
def spPartN (K:PySem.W.Frag) (a:Ad) (f:Str) (ok:Rat→Prop):Sp:=fun vs H Q _=>IspPartN K a f ok vs H Q
theorem len_PartN {f:Str} {ok:Rat→Prop} {z:Str}:∀ vs H Q E,spPartN K a f ok vs H Q E→vs.length=(["self","name","start","goal",z,"high","cost"]:List Str).length:=fun vs H Q E h=>by
 obtain ⟨_,_,_,_,_,_,_,_,_,_,rfl,_⟩:=h
 rfl
abbrev growOk:Rat→Prop:=fun x=>0<x.num
abbrev leakOk:Rat→Prop:=fun x=>0≤x.num∧x<1∧SmR x
theorem b_Growing (T:TX K mg a):BodyOk P w K mg base "Growing.__init__" s_Growing_init ["self","name","start","goal","rate","high","cost"] 4 (spPartN K a "rate" growOk):=by
 intro f cdv A outer s₀ H vs Q E hr h
 obtain ⟨p,C,dx,n,s,g,vh,vc,q,x,rfl,hp,c,nf,sg,fq,hx,hh,k⟩:=h
 refine ⟨_,(pss_cons (ps_if (pt_cmpR op_le (pe_frm0 T.fr (pv 4) (ok_sign T) hr pass0) pe_int (nomark _)) (pss_one ps_never) pss_nil)
   (pss_cons (ps_expr (pe_cf (cf_Way T) hr T.mg_Way pass0 (pa_cons (pv 0) (pa_cons (pv 1) (pa_cons (pv 2) (pa_cons (pv 3) (pa_cons (pv 5) (pa_cons (pv 6) pa_nil))))))))
   (pss_one (ps_fld (pv 0) (pv 4) rfl)))),?_⟩
 try dsimp only [cxOf,Cx.nox,Cx.wish]
 walk_at "rd"
 refine iteD (decide_eq_false (sgn_p hx)) ?_
 refine ⟨_,rfl,_,rfl,_,rfl,_,rfl,_,rfl,_,rfl,p,C,dx,n,s,g,vh,vc,rfl,hp,c,sg,hh,fun H2 fs vc' h5 hl co hs ho=>?_⟩
 refine ⟨_,rfl,_,rfl,p,C,dx,fs,rfl,ho,c.cl,nf,Nat.lt_of_le_of_lt hl (by decide),?_⟩
 refine k _ _ vc' (h5.put (by simp) hl) ?_ co.upd (fun b o e ne=>?_) upd_same
 ·rw [lookup_putF,if_pos rfl]
 ·rw [upd_ne ne]
  exact hs b o e ne
theorem mk_GrowingN (T:TX K mg a):∀ dvs∈[[],[V.non,V.non]],MkB P w K mg base CX0 a.Growing 5 ["self","name","start","goal","rate","high","cost"] dvs (spPartN K a "rate" growOk):=T.i_Growing.ok sc_Growing_init len_PartN (b_Growing T)
theorem mk_Growing (T:TX K mg a):MkB P w K mg base CX0 a.Growing 5 ["self","name","start","goal","rate","high","cost"] [] (spPartN K a "rate" growOk):=mk_GrowingN T _ (by simp)
theorem b_Leaking (T:TX K mg a):BodyOk P w K mg base "Leaking.__init__" s_Leaking_init ["self","name","start","goal","loss","high","cost"] 4 (spPartN K a "loss" leakOk):=by
 intro f cdv A outer s₀ H vs Q E hr h
 obtain ⟨p,C,dx,n,s,g,vh,vc,q,x,rfl,hp,c,nf,sg,fq,⟨hx,hx1,sx⟩,hh,k⟩:=h
 refine ⟨_,(pss_cut (ps_if (PW.pt (pw_or (pt_cmpR op_lt (pe_frm0 T.fr (pv 4) (ok_sign T) hr pass0) pe_int (nomark _)) (pw_or1 (pt_not (pt_val (pe_frm T.fr (pv 4) (ok_under T) hr pass0 (pa_cons (pe_mkfr (mk1 T) hr T.mg_Fraction pass0 (pa_cons pe_int pa_nil)) pa_nil))))))) (pss_one ps_never) pss_nil)
   (pss_cons (ps_expr (pe_cf (cf_Way T) hr T.mg_Way pass0 (pa_cons (pv 0) (pa_cons (pv 1) (pa_cons (pv 2) (pa_cons (pv 3) (pa_cons (pv 5) (pa_cons (pv 6) pa_nil))))))))
   (pss_one (ps_fld (pv 0) (pv 4) rfl)))),?_⟩
 try dsimp only [cxOf,Cx.nox,Cx.wish]
 refine ⟨fun σ' H'=>σ'=[some (.ref p),some (.str n),some (.str s),some (.str g),some (.ref q),some vh,some vc]∧Same H H',?_,?_⟩
 ·walk_at "rd"
  refine iteD (decide_eq_false (sgn_nn hx)) ?_
  walk_at "rd"
  refine ⟨by decide,sm1,fun r H1 nr s1 f1=>?_⟩
  have e1:Rat.divInt 1 1=1:=rfl
  rw [e1] at f1
  have s2:SmR (1:Rat):=⟨sm1,sm1⟩
  walk_at "rd"
  refine iteD (by dsimp only;rw [decide_eq_true hx1];rfl) ?_
  exact ⟨rfl,s1⟩
 rintro σ' H' ⟨rfl,ss⟩
 refine ⟨_,rfl,_,rfl,_,rfl,_,rfl,_,rfl,_,rfl,p,C,dx,n,s,g,vh,vc,rfl,ss _ _ hp,c,sg,hh.mono ss,fun H2 fs vc' h5 hl co hs ho=>?_⟩
 refine ⟨_,rfl,_,rfl,p,C,dx,fs,rfl,ho,c.cl,nf,Nat.lt_of_le_of_lt hl (by decide),?_⟩
 refine k _ _ vc' (h5.put (by simp) hl) ?_ co.upd (fun b o e ne=>?_) upd_same
 ·rw [lookup_putF,if_pos rfl]
 ·rw [upd_ne ne]
  exact hs b o (ss _ _ e) ne
theorem mk_LeakingN (T:TX K mg a):∀ dvs∈[[],[V.non,V.non]],MkB P w K mg base CX0 a.Leaking 5 ["self","name","start","goal","loss","high","cost"] dvs (spPartN K a "loss" leakOk):=T.i_Leaking.ok sc_Leaking_init len_PartN (b_Leaking T)
theorem mk_Leaking (T:TX K mg a):MkB P w K mg base CX0 a.Leaking 5 ["self","name","start","goal","loss","high","cost"] [] (spPartN K a "loss" leakOk):=mk_LeakingN T _ (by simp)
inductive Kd where
 | way
 | gro
 | lea
 | sto
def Kd.n:Kd→Int
 | .way=>0
 | .gro=>1
 | .lea=>2
 | .sto=>3
def Kd.C (a:Ad):Kd→Addr
 | .way=>a.Way
 | .gro=>a.Growing
 | .lea=>a.Leaking
 | .sto=>a.Store
def Kd.f:Kd→Str
 | .gro=>"rate"
 | _=>"loss"
def Kd.ok:Kd→Rat→Prop
 | .way=>fun _=>True
 | .gro=>growOk
 | _=>leakOk
def gainOf:Kd→Rat→Rat
 | .way=>fun _=>1
 | .gro=>fun x=>x
 | _=>fun x=>1-x
structure WayAt (a:Ad) (H:Hp) (p:Addr) (kd:Kd) (n s g:Str) (vh vc:V) (q:Addr) (x:Rat):Prop where
 ob:∃ dx fs,H p=some (.ins (kd.C a) dx fs)∧W5 fs n s g vh vc∧(kd≠.way→fs.lookup kd.f=some (.ref q))
 fq:kd≠.way→FrAt a.Fraction H q x
def Stays (a:Ad) (H H':Hp):Prop:=∀ b C dx fs,(C=a.Fraction∨∃ kd:Kd,C=kd.C a)→H b=some (.ins C dx fs)→H' b=some (.ins C dx fs)
theorem Stays.of {a:Ad} {H H':Hp} (s:Same H H'):Stays a H H':=fun b C dx fs _ e=>s _ _ e
theorem Stays.fr {a:Ad} {H H':Hp} {q:Addr} {x:Rat} (k:Stays a H H') (h:FrAt a.Fraction H q x):FrAt a.Fraction H' q x:=let ⟨dq,f⟩:=h;⟨dq,k _ _ _ _ (.inl rfl) f⟩
theorem WayAt.keep {a:Ad} {H H':Hp} {p:Addr} {kd:Kd} {n s g:Str} {vh vc:V} {q:Addr} {x:Rat} (h:WayAt a H p kd n s g vh vc q x) (k:Stays a H H'):WayAt a H' p kd n s g vh vc q x:=
 ⟨let ⟨dx,fs,e,r⟩:=h.ob;⟨dx,fs,k _ _ _ _ (.inr ⟨kd,rfl⟩) e,r⟩,fun z=>k.fr (h.fq z)⟩
theorem WayAt.mono {a:Ad} {H H':Hp} {p:Addr} {kd:Kd} {n s g:Str} {vh vc:V} {q:Addr} {x:Rat} (h:WayAt a H p kd n s g vh vc q x) (ss:Same H H'):WayAt a H' p kd n s g vh vc q x:=h.keep (.of ss)
theorem Stays.put {a:Ad} {H:Hp} {d:Addr} {o o':HO} (hd:H d=some o) (ho:∀ C dx fs,o≠.ins C dx fs):Stays a H (upd H d o'):=fun b C dx fs _ e=>by rw [upd_ne (ne_of e hd (ho C dx fs).symm)];exact e
theorem cls_any (T:TX K mg a) (kd:Kd):WayC K (kd.C a):=by
 cases kd
 ·exact T.wW
 ·exact T.wG
 ·exact T.wL
 ·exact T.wS
def NewWay (a:Ad) (H:Hp) (Q:VK) (kd:Kd) (n s g:Str) (vh vc:V) (x:Rat):Prop:=∀ p H' vc' q,H p=none→Same H H'→WayAt a H' p kd n s g vh vc' q x→CoIs a.Fraction H' p vc vc'→Q (.ref p) H'
theorem same_new {H H':Hp} {x dx C:Addr} (h1:H x=none) (h2:H dx=none) (h:∀ b o,(upd (upd H dx (.own x)) x (.ins C dx [])) b=some o→b≠x→H' b=some o):Same H H':=by
 intro b o e
 have n1:=ne_of_none e h1
 refine h b o ?_ n1
 rw [upd_ne n1,upd_ne (ne_of_none e h2)]
 exact e
theorem same_two {H:Hp} {x dx C:Addr} (h1:H x=none) (h2:H dx=none):Same H (upd (upd H dx (.own x)) x (.ins C dx [])):=by
 intro b o e
 rw [upd_ne (ne_of_none e h1),upd_ne (ne_of_none e h2)]
 exact e
theorem mkW {H:Hp} {Q:VK} {n s g:Str} {vh vc:V} {x:Rat} (T:TX K mg a) (sg:s≠g) (hh:HiOk a.Fraction H vh) (k:NewWay a H Q .way n s g vh vc x) (p dx:Addr) (h1:H p=none) (h2:H dx=none) (_:dx≠p) :
  spWayN K a [.ref p,.str n,.str s,.str g,vh,vc] (upd (upd H dx (.own p)) p (.ins a.Way dx [])) (fun v H2=>v=.non∧Q (.ref p) H2) E0:=by
 have ss:=same_two (C:=a.Way) h1 h2
 refine ⟨p,_,dx,n,s,g,vh,vc,rfl,upd_same,T.wW,.inl sg,hh.mono ss,fun H' fs vc' h5 hl co hs ho=>⟨rfl,?_⟩⟩
 have s2:=same_new h1 h2 hs
 exact k p _ vc' p h1 s2 ⟨⟨dx,fs,ho,h5,fun z=>absurd rfl z⟩,fun z=>absurd rfl z⟩ co
theorem mkG {H:Hp} {Q:VK} {n s g:Str} {vh vc:V} {q:Addr} {x:Rat} (T:TX K mg a) (sg:s≠g) (fq:FrAt a.Fraction H q x) (hx:growOk x) (hh:HiOk a.Fraction H vh) (k:NewWay a H Q .gro n s g vh vc x) (p dx:Addr) (h1:H p=none) (h2:H dx=none) (_:dx≠p) :
  spPartN K a "rate" growOk [.ref p,.str n,.str s,.str g,.ref q,vh,vc] (upd (upd H dx (.own p)) p (.ins a.Growing dx [])) (fun v H2=>v=.non∧Q (.ref p) H2) E0:=by
 have ss:=same_two (C:=a.Growing) h1 h2
 refine ⟨p,_,dx,n,s,g,vh,vc,q,x,rfl,upd_same,T.wG,T.na_Growing_rate,.inl sg,fq.mono ss,hx,hh.mono ss,fun H' fs vc' h5 hl co hs ho=>⟨rfl,?_⟩⟩
 have s2:=same_new h1 h2 hs
 exact k p _ vc' q h1 s2 ⟨⟨dx,fs,ho,h5,fun _=>hl⟩,fun _=>fq.mono s2⟩ co
theorem mkL {H:Hp} {Q:VK} {n s g:Str} {vh vc:V} {q:Addr} {x:Rat} (T:TX K mg a) (sg:s≠g) (fq:FrAt a.Fraction H q x) (hx:leakOk x) (hh:HiOk a.Fraction H vh) (k:NewWay a H Q .lea n s g vh vc x) (p dx:Addr) (h1:H p=none) (h2:H dx=none) (_:dx≠p) :
  spPartN K a "loss" leakOk [.ref p,.str n,.str s,.str g,.ref q,vh,vc] (upd (upd H dx (.own p)) p (.ins a.Leaking dx [])) (fun v H2=>v=.non∧Q (.ref p) H2) E0:=by
 have ss:=same_two (C:=a.Leaking) h1 h2
 refine ⟨p,_,dx,n,s,g,vh,vc,q,x,rfl,upd_same,T.wL,T.na_Leaking_loss,.inl sg,fq.mono ss,hx,hh.mono ss,fun H' fs vc' h5 hl co hs ho=>⟨rfl,?_⟩⟩
 have s2:=same_new h1 h2 hs
 exact k p _ vc' q h1 s2 ⟨⟨dx,fs,ho,h5,fun _=>hl⟩,fun _=>fq.mono s2⟩ co
inductive IspGain (a:Ad) (kd:Kd) (vs:List V) (H:Hp) (Q:VK):Prop
 | mk (p:Addr) (n s g:Str) (vh vc:V) (q:Addr) (x:Rat) (h1:vs=[.ref p]) (h2:WayAt a H p kd n s g vh vc q x) (h3:SmR x) (h4:∀ r H',Same H H'→FrAt a.Fraction H' r (gainOf kd x)→Q (.ref r) H'):IspGain a kd vs H Q
def spGain (a:Ad) (kd:Kd):Sp:=fun vs H Q _=>IspGain a kd vs H Q
theorem len_Gain {kd:Kd}:∀ vs H Q E,spGain a kd vs H Q E→vs.length=(["self"]:List Str).length:=fun vs H Q E h=>by
 obtain ⟨_,_,_,_,_,_,_,_,rfl,_⟩:=h
 rfl
theorem gain_Way (T:TX K mg a):MtB P w K mg base CX0 a.Way "gain" 7 ["self"] (spGain a .way):=by
 refine T.m_Way_gain.ok sc_Way_gain len_Gain (fun f cdv A outer s₀ H vs Q E hr h=>?_)
 obtain ⟨p,n,s,g,vh,vc,q,x,rfl,W,sx,k⟩:=h
 refine ⟨_,(pss_one (ps_ret (pe_mkfr (mk1 T) hr T.mg_Fraction pass0 (pa_cons pe_int pa_nil)))),?_⟩
 try dsimp only [cxOf,Cx.nox,Cx.wish]
 walk_at "rd"
 exact ⟨by decide,sm1,fun r H1 _ s1 f1=>k r H1 s1 f1⟩
theorem gain_Growing (T:TX K mg a):MtB P w K mg base CX0 a.Growing "gain" 7 ["self"] (spGain a .gro):=by
 refine T.m_Growing_gain.ok sc_Growing_gain len_Gain (fun f cdv A outer s₀ H vs Q E hr h=>?_)
 obtain ⟨p,n,s,g,vh,vc,q,x,rfl,W,sx,k⟩:=h
 refine ⟨_,(pss_one (ps_ret (pe_fld (pv 0) rfl))),?_⟩
 try dsimp only [cxOf,Cx.nox,Cx.wish]
 obtain ⟨dx,fs,ho,h5,hl⟩:=W.ob
 exact ⟨_,rfl,p,_,dx,fs,_,rfl,ho,T.wG.cl,T.na_Growing_rate,hl (by nofun),k q H (Same.refl _) (W.fq (by nofun))⟩
theorem b_gainL (T:TX K mg a) (kd:Kd) (C:Addr) (hC:kd.C a=C) (hk:kd≠.way) (hf:kd.f = "loss") (hg:∀ x,gainOf kd x=1-x) (cl:Cls K C) (nl:NoAttr K C "loss"):BodyOk P w K mg base "Leaking.gain" s_Leaking_gain ["self"] 6 (spGain a kd):=by
 intro f cdv A outer s₀ H vs Q E hr h
 obtain ⟨p,n,s,g,vh,vc,q,x,rfl,W,sx,k⟩:=h
 refine ⟨_,(pss_one (ps_ret (pe_frm T.fr (pe_mkfr (mk1 T) hr T.mg_Fraction pass0 (pa_cons pe_int pa_nil)) (ok_minus T) hr pass0 (pa_cons (pe_fld (pv 0) rfl) pa_nil)))),?_⟩
 try dsimp only [cxOf,Cx.nox,Cx.wish]
 obtain ⟨dx,fs,ho,h5,hl⟩:=W.ob
 have hl:=hl hk
 rw [hf] at hl
 rw [hC] at ho
 walk_at "rd"
 refine ⟨by decide,sm1,fun r H1 nr s1 f1=>?_⟩
 have e1:Rat.divInt 1 1=1:=rfl
 rw [e1] at f1
 have s2:SmR (1:Rat):=⟨sm1,sm1⟩
 have ho1:=s1 _ _ ho
 have fq1:=(W.fq hk).mono s1
 walk_at "rd"
 intro r2 H2 nr2 s22 f2
 refine k r2 H2 (s1.trans s22) ?_
 rw [hg]
 exact f2
theorem gain_Leaking (T:TX K mg a):MtB P w K mg base CX0 a.Leaking "gain" 7 ["self"] (spGain a .lea):=T.m_Leaking_gain.ok sc_Leaking_gain len_Gain (b_gainL T .lea _ rfl (by nofun) rfl (fun _=>rfl) T.wL.cl T.na_Leaking_loss)
theorem gain_Store (T:TX K mg a):MtB P w K mg base CX0 a.Store "gain" 7 ["self"] (spGain a .sto):=T.m_Store_gain.ok sc_Leaking_gain len_Gain (b_gainL T .sto _ rfl (by nofun) rfl (fun _=>rfl) T.wS.cl T.na_Store_loss)
theorem gain_any (T:TX K mg a) (kd:Kd):MtB P w K mg base CX0 (kd.C a) "gain" 7 ["self"] (spGain a kd):=by
 cases kd
 ·exact gain_Way T
 ·exact gain_Growing T
 ·exact gain_Leaking T
 ·exact gain_Store T
inductive IspOut (a:Ad) (kd:Kd) (vs:List V) (H:Hp) (Q:VK):Prop
 | mk (p r:Addr) (n s g:Str) (vh vc:V) (q:Addr) (x y:Rat) (h1:vs=[.ref p,.ref r]) (h2:WayAt a H p kd n s g vh vc q x) (h3:FrAt a.Fraction H r y) (h4:SmR x) (h5:SmR y) (h6:SmR (gainOf kd x)) (h7:∀ r' H',Same H H'→FrAt a.Fraction H' r' (y*gainOf kd x)→Q (.ref r') H'):IspOut a kd vs H Q
def spOut (a:Ad) (kd:Kd):Sp:=fun vs H Q _=>IspOut a kd vs H Q
theorem len_Out {kd:Kd}:∀ vs H Q E,spOut a kd vs H Q E→vs.length=(["self","amount"]:List Str).length:=fun vs H Q E h=>by
 obtain ⟨_,_,_,_,_,_,_,_,_,_,rfl,_⟩:=h
 rfl
theorem b_out (T:TX K mg a) (kd:Kd):BodyOk P w K mg base "Way.out" s_Way_out ["self","amount"] 7 (spOut a kd):=by
 intro f cdv A outer s₀ H vs Q E hr h
 obtain ⟨p,r,n,s,g,vh,vc,q,x,y,rfl,W,fr,sx,sy,sg,k⟩:=h
 refine ⟨_,(pss_one (ps_ret (pe_frm T.fr (pv 1) (ok_times T) hr pass0 (pa_cons (pe_mtD0 (CX:=CX0) (pv 0) hr pass0) pa_nil)))),?_⟩
 try dsimp only [cxOf,Cx.nox,Cx.wish]
 obtain ⟨dx,fs,ho,h5,hl⟩:=W.ob
 refine ⟨_,rfl,r,y,rfl,fr,_,rfl,p,kd.C a,dx,fs,7,["self"],spGain a kd,rfl,ho,h5.ga,(cls_any T kd).cl,by decide,gain_any T kd,p,n,s,g,vh,vc,q,x,rfl,W,sx,fun r1 H1 s1 f1=>?_⟩
 exact ⟨r,r1,y,_,rfl,fr.mono s1,f1,sy,sg,trivial,fun r2 H2 _ s2 f2=>k r2 H2 (s1.trans s2) f2⟩
theorem out_any (T:TX K mg a) (kd:Kd):MtB P w K mg base CX0 (kd.C a) "out" 8 ["self","amount"] (spOut a kd):=by
 cases kd
 ·exact T.m_Way_out.ok sc_Way_out len_Out (b_out T _)
 ·exact T.m_Growing_out.ok sc_Way_out len_Out (b_out T _)
 ·exact T.m_Leaking_out.ok sc_Way_out len_Out (b_out T _)
 ·exact T.m_Store_out.ok sc_Way_out len_Out (b_out T _)
theorem cf_Leaking (T:TX K mg a):CfB P w K mg base CX0 a.Leaking "__init__" 5 ["self","name","start","goal","loss","high","cost"] (spPartN K a "loss" leakOk):=T.c_Leaking.ok sc_Leaking_init len_PartN (b_Leaking T)
inductive IspStoreN (a:Ad) (vs:List V) (H:Hp) (Q:VK):Prop
 | mk (p dx:Addr) (n s:Str) (vh vc:V) (q:Addr) (x:Rat) (h1:vs=[.ref p,.str n,.str s,.ref q,vh,vc]) (h2:H p=some (.ins a.Store dx [])) (h3:FrAt a.Fraction H q x) (h4:leakOk x) (h5:HiOk a.Fraction H vh) (h6:∀ H' fs vc',W5 fs n s s vh vc'→fs.lookup ("loss":Str)=some (.ref q)→CoIs a.Fraction H' p vc vc'→(∀ b o,H b=some o→b≠p→H' b=some o)→H' p=some (.ins a.Store dx fs)→Q .non H'):IspStoreN a vs H Q
def spStoreN (a:Ad):Sp:=fun vs H Q _=>IspStoreN a vs H Q
theorem mk_StoreN (T:TX K mg a):∀ dvs∈[[],[V.non,V.non]],MkB P w K mg base CX0 a.Store 6 ["self","name","place","loss","high","cost"] dvs (spStoreN a):=by
 refine T.i_Store.ok sc_Store_init (fun vs H Q E h=>?_) (fun f cdv A outer s₀ H vs Q E hr h=>?_)
 ·obtain ⟨_,_,_,_,_,_,_,_,rfl,_⟩:=h
  rfl
 ·obtain ⟨p,dx,n,s,vh,vc,q,x,rfl,hp,fq,hx,hh,k⟩:=h
  refine ⟨_,(pss_one (ps_expr (pe_cf (cf_Leaking T) hr T.mg_Leaking pass0 (pa_cons (pv 0) (pa_cons (pv 1) (pa_cons (pv 2) (pa_cons (pv 2) (pa_cons (pv 3) (pa_cons (pv 4) (pa_cons (pv 5) pa_nil)))))))))),?_⟩
  try dsimp only [cxOf,Cx.nox,Cx.wish]
  refine ⟨_,rfl,_,rfl,_,rfl,_,rfl,_,rfl,_,rfl,_,rfl,p,a.Store,dx,n,s,s,vh,vc,q,x,rfl,hp,T.wS,T.na_Store_loss,.inr rfl,fq,hx,hh,fun H' fs vc' h5 hl co hs ho=>?_⟩
  exact k H' fs vc' h5 hl co hs ho
theorem mkS {H:Hp} {Q:VK} {n s:Str} {vh vc:V} {q:Addr} {x:Rat} (T:TX K mg a) (fq:FrAt a.Fraction H q x) (hx:leakOk x) (hh:HiOk a.Fraction H vh) (k:NewWay a H Q .sto n s s vh vc x) (p dx:Addr) (h1:H p=none) (h2:H dx=none) (_:dx≠p) :
  spStoreN a [.ref p,.str n,.str s,.ref q,vh,vc] (upd (upd H dx (.own p)) p (.ins a.Store dx [])) (fun v H2=>v=.non∧Q (.ref p) H2) E0:=by
 have ss:=same_two (C:=a.Store) h1 h2
 refine ⟨p,dx,n,s,vh,vc,q,x,rfl,upd_same,fq.mono ss,hx,hh.mono ss,fun H' fs vc' h5 hl co hs ho=>⟨rfl,?_⟩⟩
 have s2:=same_new h1 h2 hs
 exact k p _ vc' q h1 s2 ⟨⟨dx,fs,ho,h5,fun _=>hl⟩,fun _=>fq.mono s2⟩ co
structure WD where
 nm:Str
 st:Str
 go:Str
 kd:Kd
 x:Rat
 hi:Option Rat
 co:Rat
def HiT (a:Ad) (H:Hp) (v:V):Option Rat→Prop
 | none=>v=.non
 | some x=>∃ q,v=.ref q∧FrAt a.Fraction H q x
theorem HiT.mono {H H':Hp} {v:V} {o:Option Rat} (h:HiT a H v o) (s:Same H H'):HiT a H' v o:=by
 cases o with
 | none=>exact h
 | some x=>exact let ⟨q,e,f⟩:=h;⟨q,e,f.mono s⟩
theorem HiT.keep {H H':Hp} {v:V} {o:Option Rat} (h:HiT a H v o) (s:Stays a H H'):HiT a H' v o:=by
 cases o with
 | none=>exact h
 | some x=>exact let ⟨q,e,f⟩:=h;⟨q,e,s.fr f⟩
def WayIs (a:Ad) (H:Hp) (v:V) (d:WD):Prop:=∃ p vh vc q,v=.ref p∧WayAt a H p d.kd d.nm d.st d.go vh vc q d.x∧d.kd≠.sto∧(∃ qc,vc=.ref qc∧FrAt a.Fraction H qc d.co)∧HiT a H vh d.hi
theorem WayIs.mono {H H':Hp} {v:V} {d:WD} (h:WayIs a H v d) (s:Same H H'):WayIs a H' v d:=let ⟨p,vh,vc,q,e,W,k,⟨qc,ec,fc⟩,hh⟩:=h;⟨p,vh,vc,q,e,W.mono s,k,⟨qc,ec,fc.mono s⟩,hh.mono s⟩
def RowAt {α:Type} (R:Hp→V→α→Prop) (H:Hp) (ts:List V) (xs:List α):Prop:=ts.length=xs.length∧∀ (i:Nat) (t:V) (x:α),ts[i]?=some t→xs[i]?=some x→R H t x
theorem RowAt.mono {α:Type} {R:Hp→V→α→Prop} {H H':Hp} {ts:List V} {xs:List α} (hR:∀ v x,R H v x→R H' v x) (h:RowAt R H ts xs):RowAt R H' ts xs:=⟨h.1,fun i t x h1 h2=>hR t x (h.2 i t x h1 h2)⟩
theorem RowAt.nil {α:Type} {R:Hp→V→α→Prop} {H:Hp}:RowAt R H [] []:=⟨rfl,fun i t x h=>by simp at h⟩
theorem RowAt.snoc {α:Type} {R:Hp→V→α→Prop} {H:Hp} {ts:List V} {xs:List α} {t:V} {x:α} (d:RowAt R H ts xs) (hf:R H t x):RowAt R H (ts++[t]) (xs++[x]):=by
 refine ⟨by rw [List.length_append,List.length_append,d.1];rfl,fun i u z h1 h2=>?_⟩
 by_cases hi:i<ts.length
 ·rw [List.getElem?_append_left hi] at h1
  rw [List.getElem?_append_left (by rw [← d.1];exact hi)] at h2
  exact d.2 i u z h1 h2
 ·rw [List.getElem?_append_right (by omega)] at h1
  rw [List.getElem?_append_right (by rw [← d.1];omega),← d.1] at h2
  have hz:i-ts.length=0:=by
   have:=(List.getElem?_eq_some_iff.mp h1).1
   simp at this
   omega
  rw [hz] at h1 h2
  simp at h1 h2
  subst h1 h2
  exact hf
theorem RowAt.get {α:Type} {R:Hp→V→α→Prop} {H:Hp} {ts:List V} {xs:List α} {i:Nat} {t:V} (d:RowAt R H ts xs) (h:ts[i]?=some t):∃ x,xs[i]?=some x∧R H t x:=by
 have hi:i<xs.length:=by rw [← d.1];exact (List.getElem?_eq_some_iff.mp h).1
 exact ⟨xs[i],List.getElem?_eq_getElem hi,d.2 i t _ h (List.getElem?_eq_getElem hi)⟩
theorem RowAt.get' {α:Type} {R:Hp→V→α→Prop} {H:Hp} {ts:List V} {xs:List α} {i:Nat} {x:α} (d:RowAt R H ts xs) (h:xs[i]?=some x):∃ t,ts[i]?=some t∧R H t x:=by
 have hi:i<ts.length:=by rw [d.1];exact (List.getElem?_eq_some_iff.mp h).1
 exact ⟨ts[i],List.getElem?_eq_getElem hi,d.2 i _ x (List.getElem?_eq_getElem hi) h⟩
def PlIs (a:Ad) (H:Hp) (v:V) (p:Str × Rat):Prop:=∃ t q,v=.ref t∧H t=some (.tup [.str p.1,.ref q])∧FrAt a.Fraction H q p.2
theorem PlIs.mono {H H':Hp} {v:V} {p:Str × Rat} (h:PlIs a H v p) (s:Same H H'):PlIs a H' v p:=let ⟨t,q,e,h1,h2⟩:=h;⟨t,q,e,s _ _ h1,h2.mono s⟩
theorem same_upd {H:Hp} {d:Addr} {o:HO} (h:H d=none):Same H (upd H d o):=fun b u e=>by rw [upd_ne (ne_of_none e h)];exact e
theorem same_put {H H':Hp} {d:Addr} {o:HO} (h:H d=none) (s:Same H H'):Same H (upd H' d o):=fun b u e=>by rw [upd_ne (ne_of_none e h)];exact s _ _ e
theorem val_none {κ:Type} [DecidableEq κ] {kvs:List (κ × V)} {k:κ} (h:¬ k∈kvs.map (·.1)):valV kvs k=none:=by
 cases e:valV kvs k with
 | none=>rfl
 | some v=>exact absurd (valV_in e) h
theorem val_some {κ:Type} [DecidableEq κ] {kvs:List (κ × V)} {k:κ} (h:k∈kvs.map (·.1)):∃ v,valV kvs k=some v:=by
 cases e:valV kvs k with
 | none=>exact absurd h (valV_not e)
 | some v=>exact ⟨v,rfl⟩
def WantsAt (a:Ad) (H:Hp) (d:Addr) (ps:List (Str × Rat)):Prop:=∃ kvs,H d=some (.dK kvs)∧kvs.map (·.1)=ps.map (fun p=>Sum.inr p.1)∧RowAt (fun H v x=>∃ q,v=.ref q∧FrAt a.Fraction H q x) H (kvs.map (·.2)) (ps.map (·.2))
theorem WantsAt.mono {H H':Hp} {d:Addr} {ps:List (Str × Rat)} (h:WantsAt a H d ps) (s:Same H H'):WantsAt a H' d ps:=
 let ⟨kvs,h1,h2,h3⟩:=h;⟨kvs,s _ _ h1,h2,h3.mono fun v x ⟨q,e,f⟩=>⟨q,e,f.mono s⟩⟩
inductive IspWants (K:PySem.W.Frag) (a:Ad) (vs:List V) (H:Hp) (Q:VK):Prop
 | mk (l:Addr) (ts:List V) (ps:List (Str × Rat)) (h1:vs=[.ref l]) (h2:SqL K H l ts) (h3:RowAt (PlIs a) H ts ps) (h4:(ps.map (·.1)).Nodup) (h5:ps.length≤1000) (h6:∀ d H',H d=none→Same H H'→WantsAt a H' d ps→Q (.ref d) H'):IspWants K a vs H Q
def spWants (K:PySem.W.Frag) (a:Ad):Sp:=fun vs H Q _=>IspWants K a vs H Q
theorem ok_wants_by_name (T:TX K mg a):FnB P w K mg base CX0 "wants_by_name" 1 ["places"] (spWants K a):=by
 refine T.d_wants_by_name.ok sc_wants_by_name (fun vs H Q E h=>?_) (fun f cdv A outer s H vs Q E hr h=>?_)
 ·obtain ⟨_,_,_,rfl,_⟩:=h
  rfl
 ·obtain ⟨l,ts,ps,rfl,hS,hp,nd,hlen,k⟩:=h
  refine ⟨_,(pss_cons (ps_set (i:=1) sc_wants_by_name.nd rfl (Or.inl rfl) pe_dnewK)
   (pss_cons (ps_for PassesOwn.never rfl (pi_list (pv 0)) (pg_tup (n:=2) rfl (pgs_cons (pg_name (i:=2) sc_wants_by_name.nd rfl (Or.inl rfl)) (pgs_cons (pg_name (i:=3) sc_wants_by_name.nd rfl (Or.inl rfl)) pgs_nil))) (pss_cons (ps_if (pt_cmp (pc_din (hu_of hr) (pv 2) (pv 1))) (pss_one ps_never) pss_nil)
   (pss_one (ps_dput (hu_of hr) (pv 1) (pv 2) (pv 3) rfl))))
   (pss_one (ps_ret (pv 1))))),?_⟩
  try dsimp only [cxOf,Cx.nox,Cx.wish]
  intro d nd0
  have s0:Same H (upd H d (.dK [])):=same_upd nd0
  refine ⟨_,rfl,l,rfl,⟨_,s0.seq hS⟩,for_list (K:=K) (a:=l) (xs:=ts) (fun i σ H2=>i≤ps.length∧∃ z2 z3,σ=[some (.ref l),some (.ref d),z2,z3]∧Same H H2∧WantsAt a H2 d (ps.take i)) ⟨Nat.zero_le _,_,_,rfl,s0,[],upd_same,rfl,RowAt.nil⟩ (fun i σ H2 _ ⟨_,_,_,_,s2,_⟩=>s2.seq hS) ?_ ?_⟩
  ·rintro i t σ H2 ht ⟨hi,z2,z3,rfl,s2,kvs,hd,hk,hv⟩
   obtain ⟨p,ep,t',q,rfl,h1,h2⟩:=hp.get ht
   have hi':i<ps.length:=(List.getElem?_eq_some_iff.mp ep).1
   have nk:¬ (Sum.inr p.1:Key)∈kvs.map (·.1):=by
    rw [hk]
    intro m
    obtain ⟨p',hp',e⟩:=List.mem_map.mp m
    have e:p'.1=p.1:=Sum.inr.inj e
    obtain ⟨j,hj⟩:=List.mem_iff_getElem?.mp hp'
    have hj2:j<i:=by
     have:=(List.getElem?_eq_some_iff.mp hj).1
     rw [List.length_take] at this
     omega
    rw [List.getElem?_take,if_pos hj2] at hj
    have g1:(ps.map (·.1))[j]?=some p.1:=by rw [List.getElem?_map,hj,Option.map_some,e]
    have g2:(ps.map (·.1))[i]?=some p.1:=by rw [List.getElem?_map,ep,Option.map_some]
    have:=(List.getElem?_inj (by rw [List.length_map];omega) nd).mp (g1.trans g2.symm)
    omega
   refine ⟨t',[.str p.1,.ref q],rfl,SqT.of (s2 _ _ h1),rfl,.str p.1,[.ref q],rfl,⟨.ref q,[],rfl,⟨rfl,?_⟩⟩⟩
   refine ⟨_,rfl,_,rfl,d,_,rfl,DGet.k (k:=Sum.inr p.1) hd,_,rfl,?_⟩
   rw [val_none nk]
   refine iteF ?_
   have hl:kvs.length=i:=by
    have:=congrArg List.length hk
    rw [List.length_map,List.length_map,List.length_take] at this
    omega
   refine ⟨_,rfl,_,rfl,_,rfl,d,_,rfl,DPut.k (k:=Sum.inr p.1) hd (small1000 (by omega)),?_⟩
   rw [putK_new _ (val_none nk)]
   have s3:=same_put (o:=.dK (kvs++[(Sum.inr p.1,.ref q)])) nd0 s2
   refine ⟨hi',_,_,rfl,s3,kvs++[(Sum.inr p.1,.ref q)],upd_same,?_,?_⟩
   ·rw [List.map_append,hk,List.take_add_one,ep,Option.toList_some,List.map_append]
    rfl
   ·rw [List.map_append,List.take_add_one,ep,Option.toList_some,List.map_append]
    refine RowAt.snoc (hv.mono fun v x ⟨q',e,dq,f⟩=>⟨q',e,dq,?_⟩) ⟨q,rfl,h2.mono s3⟩
    rw [upd_ne (ne_of f hd (by intro z;cases z))]
    exact f
  ·rintro σ H2 ⟨_,z2,z3,rfl,s2,hw⟩
   rw [hp.1,List.take_length] at hw
   exact ⟨_,rfl,k d H2 nd0 s2 hw⟩
inductive IspCheck (a:Ad) (vs:List V) (H:Hp) (Q:VK):Prop
 | mk (v:V) (d:WD) (da dw:Addr) (ka kw:List (Key × V)) (h1:vs=[v,.ref da,.ref dw]) (h2:WayIs a H v d) (h3:H da=some (.dK ka)) (h4:H dw=some (.dK kw)) (h5:¬ (Sum.inr d.nm:Key)∈ka.map (·.1)) (h6:(Sum.inr d.st:Key)∈kw.map (·.1)) (h7:(Sum.inr d.go:Key)∈kw.map (·.1)) (h8:∀ H',Same H H'→Q .non H'):IspCheck a vs H Q
def spCheck (a:Ad):Sp:=fun vs H Q _=>IspCheck a vs H Q
theorem noStore (T:TX K mg a) {kd:Kd} (h:kd≠.sto):PySem.W.kitOne K (.ref (kd.C a)) (.ref a.Store)=some false:=by
 cases kd
 ·exact T.k_Way_Store
 ·exact T.k_Growing_Store
 ·exact T.k_Leaking_Store
 ·exact absurd rfl h
theorem tyWay (T:TX K mg a) {H:Hp} {p dx:Addr} {fs:List (Str × V)} {kd:Kd} (h:H p=some (.ins (kd.C a) dx fs)):TyOf K H (.ref p) (.ref (kd.C a)):=by
 have c:=(cls_any T kd).cl
 cases kd
 ·exact TyOf.ins h c T.c1_Way T.c2 T.c3 T.c4_Way
 ·exact TyOf.ins h c T.c1_Growing T.c2 T.c3 T.c4_Growing
 ·exact TyOf.ins h c T.c1_Leaking T.c2 T.c3 T.c4_Leaking
 ·exact TyOf.ins h c T.c1_Store T.c2 T.c3 T.c4_Store
theorem ok_check_way (T:TX K mg a):FnB P w K mg base CX0 "check_way" 1 ["way","ahead","wants"] (spCheck a):=by
 refine T.d_check_way.ok sc_check_way (fun vs H Q E h=>?_) (fun f cdv A outer s H vs Q E hr h=>?_)
 ·obtain ⟨_,_,_,_,_,_,rfl,_⟩:=h
  rfl
 ·obtain ⟨v,d,da,dw,ka,kw,rfl,⟨p,vh,vc,q,rfl,W,hk⟩,ha,hw,n1,n2,n3,k⟩:=h
  refine ⟨_,(pss_cons (ps_if (pt_val (pe_callB (call_isI (c:=.ref a.Store)) (by rfl) T.z_isinstance PyProof.Rows.boot_isinstance (pa_cons (pv 0) (pa_cons (pe_glob (v:=.ref a.Store) (by rfl) T.mg_Store rfl) pa_nil)))) (pss_one ps_never) pss_nil)
   (pss_cons (ps_if (pt_cmp (pc_din (hu_of hr) (pe_fld (pv 0) rfl) (pv 1))) (pss_one ps_never) pss_nil)
   (pss_one (ps_for PassesOwn.never rfl (pi_tup (pe_tup (pa_cons (pe_fld (pv 0) rfl) (pa_cons (pe_fld (pv 0) rfl) pa_nil)))) (pg_name (i:=3) sc_check_way.nd rfl (Or.inl rfl)) (pss_one (ps_if (pt_cmp (pc_dnotin (hu_of hr) (pv 3) (pv 2))) (pss_one ps_never) pss_nil)))))),?_⟩
  try dsimp only [cxOf,Cx.nox,Cx.wish]
  obtain ⟨dx,fs,ho,h5,_⟩:=W.ob
  have c:=cls_any T d.kd
  refine ⟨_,rfl,_,_,_,_,rfl,(fun u h=>h),tyWay T ho,noStore T hk.1,_,rfl,iteF ?_⟩
  refine ⟨_,rfl,p,_,dx,fs,_,rfl,ho,c.cl,c.n1,h5.nm,_,rfl,da,_,rfl,DGet.k (k:=Sum.inr d.nm) ha,_,rfl,?_⟩
  rw [val_none n1]
  refine iteF ?_
  refine ⟨_,rfl,p,_,dx,fs,_,rfl,ho,c.cl,c.n2,h5.st,_,rfl,p,_,dx,fs,_,rfl,ho,c.cl,c.n3,h5.go,by show 2≤sizeLine;decide,fun t nt=>?_⟩
  have s1:=same_upd (o:=.tup [.str d.st,.str d.go]) nt
  refine ⟨t,rfl,⟨_,SqT.of upd_same⟩,for_tup (K:=K) (a:=t) (xs:=[.str d.st,.str d.go]) (fun i σ H2=>∃ z,σ=[some (.ref p),some (.ref da),some (.ref dw),z]∧H2=upd H t (.tup [.str d.st,.str d.go])) ⟨_,rfl,rfl⟩ (fun i σ H2 _ ⟨_,_,e⟩=>by rw [e];exact SqT.of upd_same) ?_ ?_⟩
  ·rintro i x σ H2 hx ⟨z,rfl,rfl⟩
   have hx:∃ y,x=.str y∧(Sum.inr y:Key)∈kw.map (·.1):=by
    match i,hx with
    | 0,hx=>exact ⟨d.st,(Option.some.inj hx).symm,n2⟩
    | 1,hx=>exact ⟨d.go,(Option.some.inj hx).symm,n3⟩
    | i+2,hx=>simp at hx
   obtain ⟨y,rfl,hy⟩:=hx
   obtain ⟨u,hu⟩:=val_some hy
   refine ⟨_,rfl,_,rfl,dw,_,rfl,DGet.k (k:=Sum.inr y) (s1 _ _ hw),_,rfl,?_⟩
   rw [hu]
   exact iteF ⟨_,rfl,rfl⟩
  ·rintro σ H2 ⟨z,rfl,rfl⟩
   exact k _ s1
def WaysAt (a:Ad) (H:Hp) (d:Addr) (ds:List WD):Prop:=∃ kvs,H d=some (.dK kvs)∧kvs.map (·.1)=ds.map (fun x=>Sum.inr x.nm)∧RowAt (WayIs a) H (kvs.map (·.2)) ds
theorem WaysAt.mono {H H':Hp} {d:Addr} {ds:List WD} (h:WaysAt a H d ds) (s:Same H H'):WaysAt a H' d ds:=
 let ⟨kvs,h1,h2,h3⟩:=h;⟨kvs,s _ _ h1,h2,h3.mono fun v x z=>z.mono s⟩
inductive IspWaysBy (K:PySem.W.Frag) (a:Ad) (vs:List V) (H:Hp) (Q:VK):Prop
 | mk (l dw:Addr) (ts:List V) (ds:List WD) (ps:List (Str × Rat)) (h1:vs=[.ref l,.ref dw]) (h2:SqL K H l ts) (h3:RowAt (WayIs a) H ts ds) (h4:WantsAt a H dw ps) (h5:(ds.map (·.nm)).Nodup) (h6:ds.length≤1000) (h7:(∀ d∈ds,d.st∈ps.map (·.1)∧d.go∈ps.map (·.1))) (h8:∀ d H',H d=none→Same H H'→WaysAt a H' d ds→Q (.ref d) H'):IspWaysBy K a vs H Q
def spWaysBy (K:PySem.W.Frag) (a:Ad):Sp:=fun vs H Q _=>IspWaysBy K a vs H Q
theorem WayIs.keep {H H':Hp} {v:V} {x:WD} (h:WayIs a H v x) (k:Stays a H H'):WayIs a H' v x:=let ⟨p,vh,vc,q,e,W,hk,⟨qc,ec,fc⟩,hh⟩:=h;⟨p,vh,vc,q,e,W.keep k,hk,⟨qc,ec,k.fr fc⟩,hh.keep k⟩
theorem WayIs.put {H:Hp} {v:V} {x:WD} {d:Addr} {kvs:List (Key × V)} {o:HO} (h:WayIs a H v x) (hd:H d=some (.dK kvs)):WayIs a (upd H d o) v x:=h.keep (.put hd (by intro _ _ _ z;cases z))
theorem nodup_take {α β:Type} {xs:List α} {f:α→β} {i:Nat} {x:α} (nd:(xs.map f).Nodup) (e:xs[i]?=some x):¬ f x∈(xs.take i).map f:=by
 intro m
 obtain ⟨y,hy,ef⟩:=List.mem_map.mp m
 obtain ⟨j,hj⟩:=List.mem_iff_getElem?.mp hy
 have hi:=(List.getElem?_eq_some_iff.mp e).1
 have hj2:j<i:=by
  have:=(List.getElem?_eq_some_iff.mp hj).1
  rw [List.length_take] at this
  omega
 rw [List.getElem?_take,if_pos hj2] at hj
 have g1:(xs.map f)[j]?=some (f x):=by rw [List.getElem?_map,hj,Option.map_some,ef]
 have g2:(xs.map f)[i]?=some (f x):=by rw [List.getElem?_map,e,Option.map_some]
 have:=(List.getElem?_inj (by rw [List.length_map];omega) nd).mp (g1.trans g2.symm)
 omega
theorem inr_mem {n:Str} {ns:List Str}:(Sum.inr n:Key)∈ns.map (fun x=>(Sum.inr x:Key))↔n∈ns:=by
 constructor
 ·intro h
  obtain ⟨y,hy,e⟩:=List.mem_map.mp h
  rw [← Sum.inr.inj e]
  exact hy
 ·exact fun h=>List.mem_map.mpr ⟨n,h,rfl⟩
theorem ok_ways_by_name (T:TX K mg a):FnB P w K mg base CX0 "ways_by_name" 2 ["ways","wants"] (spWaysBy K a):=by
 refine T.d_ways_by_name.ok sc_ways_by_name (fun vs H Q E h=>?_) (fun f cdv A outer s H vs Q E hr h=>?_)
 ·obtain ⟨_,_,_,_,_,rfl,_⟩:=h
  rfl
 ·obtain ⟨l,dw,ts,ds,ps,rfl,hS,hp,hw,nd,hlen,hin,k⟩:=h
  refine ⟨_,(pss_cons (ps_set (i:=2) sc_ways_by_name.nd rfl (Or.inl rfl) pe_dnewK)
   (pss_cons (ps_for PassesOwn.never rfl (pi_list (pv 0)) (pg_name (i:=3) sc_ways_by_name.nd rfl (Or.inl rfl)) (pss_cons (ps_expr (pe_fn (ok_check_way T) hr pass0 (pa_cons (pv 3) (pa_cons (pv 2) (pa_cons (pv 1) pa_nil)))))
   (pss_one (ps_dput (hu_of hr) (pv 2) (pe_fld (pv 3) rfl) (pv 3) rfl))))
   (pss_one (ps_ret (pv 2))))),?_⟩
  try dsimp only [cxOf,Cx.nox,Cx.wish]
  intro d nd0
  have s0:Same H (upd H d (.dK [])):=same_upd nd0
  refine ⟨_,rfl,l,rfl,⟨_,s0.seq hS⟩,for_list (K:=K) (a:=l) (xs:=ts) (fun i σ H2=>i≤ds.length∧∃ z3,σ=[some (.ref l),some (.ref dw),some (.ref d),z3]∧Same H H2∧WaysAt a H2 d (ds.take i)) ⟨Nat.zero_le _,_,rfl,s0,[],upd_same,rfl,RowAt.nil⟩ (fun i σ H2 _ ⟨_,_,_,s2,_⟩=>s2.seq hS) ?_ ?_⟩
  ·rintro i t σ H2 ht ⟨hi,z3,rfl,s2,kvs,hd,hk,hv⟩
   obtain ⟨x,ex,hx⟩:=hp.get ht
   have hi':i<ds.length:=(List.getElem?_eq_some_iff.mp ex).1
   have nk:¬ (Sum.inr x.nm:Key)∈kvs.map (·.1):=by
    rw [hk]
    have:=nodup_take (f:=fun z:WD=>(Sum.inr z.nm:Key)) (by
     rw [show (fun z:WD=>(Sum.inr z.nm:Key))=(fun n=>(Sum.inr n:Key)) ∘ (fun z:WD=>z.nm) from rfl,← List.map_map]
     exact nd.map _ (fun u v h e=>h (Sum.inr.inj e))) ex
    exact this
   obtain ⟨kw,hkw,ekw,_⟩:=hw.mono s2
   obtain ⟨i1,i2⟩:=hin x (List.mem_of_getElem? ex)
   have ekw':kw.map (·.1)=(ps.map (·.1)).map (fun n=>(Sum.inr n:Key)):=by rw [ekw,List.map_map];rfl
   refine ⟨_,rfl,_,rfl,_,rfl,t,x,d,dw,kvs,kw,rfl,hx.mono s2,hd,hkw,nk,by rw [ekw'];exact inr_mem.mpr i1,by rw [ekw'];exact inr_mem.mpr i2,fun H3 s3=>?_⟩
   have hd3:=s3 _ _ hd
   have hx3:=hx.mono (s2.trans s3)
   obtain ⟨p,vh,vc,q,rfl,W,hkd⟩:=id hx3
   obtain ⟨dx,fs,ho,h5,_⟩:=W.ob
   have c:=cls_any T x.kd
   have hl:kvs.length=i:=by
    have:=congrArg List.length hk
    rw [List.length_map,List.length_map,List.length_take] at this
    omega
   refine ⟨_,rfl,_,rfl,_,rfl,p,_,dx,fs,_,rfl,ho,c.cl,c.n1,h5.nm,d,_,rfl,DPut.k (k:=Sum.inr x.nm) hd3 (small1000 (by omega)),?_⟩
   rw [putK_new _ (val_none nk)]
   have s4:=same_put (o:=.dK (kvs++[(Sum.inr x.nm,.ref p)])) nd0 (s2.trans s3)
   refine ⟨hi',_,rfl,s4,kvs++[(Sum.inr x.nm,.ref p)],upd_same,?_,?_⟩
   ·rw [List.map_append,hk,List.take_add_one,ex,Option.toList_some,List.map_append]
    rfl
   ·rw [List.map_append,List.take_add_one,ex,Option.toList_some]
    exact RowAt.snoc (hv.mono fun v y z=>(z.mono s3).put hd3) (hx3.put hd3)
  ·rintro σ H2 ⟨_,z3,rfl,s2,hw2⟩
   rw [hp.1,List.take_length] at hw2
   exact ⟨_,rfl,k d H2 nd0 s2 hw2⟩
def fsN (dw dy:Addr):List (Str × V):=[("wants",.ref dw),("ways",.ref dy)]
theorem fsN_new (dw dy:Addr):putF "ways" (.ref dy) (putF "wants" (.ref dw) [])=fsN dw dy:=by
 show (if ("wants":Str) = "ways" then _ else (("wants":Str),V.ref dw)::[(("ways":Str),V.ref dy)])=fsN dw dy
 rw [if_neg (by decide +kernel)]
 rfl
theorem fsN_w (dw dy:Addr):(fsN dw dy).lookup ("wants":Str)=some (.ref dw):=rfl
theorem fsN_y (dw dy:Addr):(fsN dw dy).lookup ("ways":Str)=some (.ref dy):=by
 show List.lookup ("ways":Str) [(("wants":Str),V.ref dw),("ways",V.ref dy)]=_
 rw [List.lookup_cons,show (("ways":Str) == "wants")=false by decide +kernel]
 rfl
theorem fsN_no (dw dy:Addr) {m:Str} (h1:(m == "wants")=false) (h2:(m == "ways")=false):(fsN dw dy).lookup m=none:=by
 show List.lookup m [(("wants":Str),V.ref dw),("ways",V.ref dy)]=_
 rw [List.lookup_cons,h1,List.lookup_cons,h2]
 rfl
def NetAt (a:Ad) (H:Hp) (p:Addr) (ps:List (Str × Rat)) (ds:List WD):Prop:=∃ dx dw dy,H p=some (.ins a.Net dx (fsN dw dy))∧WantsAt a H dw ps∧WaysAt a H dy ds
theorem NetAt.mono {H H':Hp} {p:Addr} {ps:List (Str × Rat)} {ds:List WD} (h:NetAt a H p ps ds) (s:Same H H'):NetAt a H' p ps ds:=let ⟨dx,dw,dy,e,h1,h2⟩:=h;⟨dx,dw,dy,s _ _ e,h1.mono s,h2.mono s⟩
def NetNew (a:Ad) (H H':Hp) (p:Addr) (ps:List (Str × Rat)) (ds:List WD):Prop:=∃ dx dw dy,H' p=some (.ins a.Net dx (fsN dw dy))∧WantsAt a H' dw ps∧WaysAt a H' dy ds∧H dw=none∧H dy=none
structure NetOk (ps:List (Str × Rat)) (ds:List WD):Prop where
 np:(ps.map (·.1)).Nodup
 lp:ps.length≤12
 nd:(ds.map (·.nm)).Nodup
 ld:ds.length≤24
 io:∀ d∈ds,d.st∈ps.map (·.1)∧d.go∈ps.map (·.1)
inductive IspNetI (K:PySem.W.Frag) (a:Ad) (vs:List V) (H:Hp) (Q:VK):Prop
 | mk (p dx lp lw:Addr) (tp tw:List V) (ps:List (Str × Rat)) (ds:List WD) (h1:vs=[.ref p,.ref lp,.ref lw]) (h2:H p=some (.ins a.Net dx [])) (h3:SqL K H lp tp) (h4:RowAt (PlIs a) H tp ps) (h5:SqL K H lw tw) (h6:RowAt (WayIs a) H tw ds) (h7:NetOk ps ds) (h8:∀ H',(∀ b o,H b=some o→b≠p→H' b=some o)→NetNew a H H' p ps ds→Q .non H'):IspNetI K a vs H Q
def spNetI (K:PySem.W.Frag) (a:Ad):Sp:=fun vs H Q _=>IspNetI K a vs H Q
theorem WantsAt.ins {H:Hp} {d p C dx:Addr} {fs gs:List (Str × V)} {ps:List (Str × Rat)} (h:WantsAt a H d ps) (hp:H p=some (.ins C dx fs)) (hC:C≠a.Fraction):WantsAt a (upd H p (.ins C dx gs)) d ps:=by
 obtain ⟨kvs,h1,h2,h3⟩:=h
 refine ⟨kvs,by rw [upd_ne (ne_of h1 hp (by intro z;cases z))];exact h1,h2,h3.mono fun v x ⟨q,e,dq,f⟩=>⟨q,e,dq,?_⟩⟩
 rw [upd_ne (ne_of f hp (by intro z;cases z;exact hC rfl))]
 exact f
theorem Stays.ins {H:Hp} {p C dx:Addr} {fs gs:List (Str × V)} (hp:H p=some (.ins C dx fs)) (hC:C≠a.Fraction∧∀ kd:Kd,C≠kd.C a):Stays a H (upd H p (.ins C dx gs)):=fun b C' dx' fs' h e=>by
 rw [upd_ne (ne_of e hp fun z=>?_)]
 ·exact e
 ·have ec:=(HO.ins.inj z).1
  rcases h with rfl | ⟨kd,rfl⟩
  ·exact hC.1 ec.symm
  ·exact hC.2 kd ec.symm
theorem WaysAt.ins {H:Hp} {d p C dx:Addr} {fs gs:List (Str × V)} {ds:List WD} (h:WaysAt a H d ds) (hp:H p=some (.ins C dx fs)) (hC:C≠a.Fraction∧∀ kd:Kd,C≠kd.C a):WaysAt a (upd H p (.ins C dx gs)) d ds:=by
 obtain ⟨kvs,h1,h2,h3⟩:=h
 exact ⟨kvs,by rw [upd_ne (ne_of h1 hp (by intro z;cases z))];exact h1,h2,h3.mono fun v x z=>z.keep (.ins hp hC)⟩
theorem netC (T:TX K mg a):a.Net≠a.Fraction∧∀ kd:Kd,a.Net≠kd.C a:=by
 have w1:a.Net≠a.Fraction:=fun e=>by
  have h:=T.na_Fraction_top
  have h2:=T.m_Fraction_sign
  rw [← e] at h2
  obtain ⟨f,fd,_,⟨m,_,_⟩,_⟩:=h2
  cases T.no_Net_sign.symm.trans m
 refine ⟨w1,fun kd e=>?_⟩
 have:=T.no_Net_may_stay
 cases kd
 ·obtain ⟨f,fd,_,⟨m,_,_⟩,_⟩:=T.m_Way_may_stay
  rw [show a.Way=a.Net from e.symm] at m
  cases this.symm.trans m
 ·obtain ⟨f,fd,_,⟨m,_,_⟩,_⟩:=T.m_Growing_may_stay
  rw [show a.Growing=a.Net from e.symm] at m
  cases this.symm.trans m
 ·obtain ⟨f,fd,_,⟨m,_,_⟩,_⟩:=T.m_Leaking_may_stay
  rw [show a.Leaking=a.Net from e.symm] at m
  cases this.symm.trans m
 ·obtain ⟨f,fd,_,⟨m,_,_⟩,_⟩:=T.m_Store_may_stay
  rw [show a.Store=a.Net from e.symm] at m
  cases this.symm.trans m
theorem mk_Net (T:TX K mg a):MkB P w K mg base CX0 a.Net 4 ["self","places","ways"] [] (spNetI K a):=by
 refine T.i_Net.ok sc_Net_init (fun vs H Q E h=>?_) (fun f cdv A outer s H vs Q E hr h=>?_) _ (by simp)
 ·obtain ⟨_,_,_,_,_,_,_,_,rfl,_⟩:=h
  rfl
 ·obtain ⟨p,dx,lp,lw,tp,tw,ps,ds,rfl,hp,hS,hP,hL,hW,ok,k⟩:=h
  refine ⟨_,(pss_cons (ps_if (PW.pt (pw_or (pt_cmpR op_gt (pe_callB call_lenK (by rfl) T.z_len PySem.boot_len (pa_cons (pv 1) pa_nil)) (pe_gi T.gi_MOST_PLACES) (nomark _)) (pw_or1 (pt_cmpR op_gt (pe_callB call_lenK (by rfl) T.z_len PySem.boot_len (pa_cons (pv 2) pa_nil)) (pe_gi T.gi_MOST_WAYS) (nomark _))))) (pss_one ps_never) pss_nil)
   (pss_cons (ps_fld (pv 0) (pe_fn (ok_wants_by_name T) hr pass0 (pa_cons (pv 1) pa_nil)) rfl)
   (pss_one (ps_fld (pv 0) (pe_fn (ok_ways_by_name T) hr pass0 (pa_cons (pv 2) (pa_cons (pe_fld (pv 0) rfl) pa_nil))) rfl)))),?_⟩
  try dsimp only [cxOf,Cx.nox,Cx.wish]
  have e1:(tp.length:Int)≤12:=by have:=ok.lp;rw [← hP.1] at this;omega
  have e2:(tw.length:Int)≤24:=by have:=ok.ld;rw [← hW.1] at this;omega
  refine ⟨_,rfl,lp,tp,rfl,.inl hS,_,_,rfl,rfl,_,rfl,iteD (decide_eq_false (by omega)) ?_⟩
  refine ⟨_,rfl,lw,tw,rfl,.inl hL,_,_,rfl,rfl,_,rfl,iteD (decide_eq_false (by omega)) ?_⟩
  refine ⟨_,rfl,lp,tp,ps,rfl,hS,hP,ok.np,Nat.le_trans ok.lp (by decide),fun dw H1 n1 s1 hw1=>?_⟩
  have hp1:=s1 _ _ hp
  refine ⟨_,rfl,p,a.Net,dx,[],rfl,hp1,T.cl_Net,T.na_Net_wants,by decide,?_⟩
  have hC:=netC T
  generalize hH2:upd H1 p (.ins a.Net dx (putF "wants" (.ref dw) []))=H2
  have hp2:H2 p=some (.ins a.Net dx (putF "wants" (.ref dw) [])):=by rw [← hH2];exact upd_same
  have hw2:WantsAt a H2 dw ps:=by rw [← hH2];exact hw1.ins hp1 hC.1
  have k2:∀ b o,H b=some o→b≠p→H2 b=some o:=fun b o e ne=>by rw [← hH2,upd_ne ne];exact s1 _ _ e
  have hL2:SqL K H2 lw tw:=by
   rcases hL with (h | ⟨o,h⟩) | h
   ·exact .inl (.inl (k2 _ _ h (ne_of h hp (by intro z;cases z))))
   ·exact .inl (.inr ⟨o,k2 _ _ h (ne_of h hp (by intro z;cases z))⟩)
   ·exact .inr h
  have hW2:RowAt (WayIs a) H2 tw ds:=hW.mono fun v x z=>z.keep fun b C' dx' fs' h e=>k2 _ _ e (ne_of e hp fun y=>by
   have ec:=(HO.ins.inj y).1
   rcases h with rfl | ⟨kd,rfl⟩
   ·exact hC.1 ec.symm
   ·exact hC.2 kd ec.symm)
  refine ⟨_,rfl,_,rfl,p,_,dx,_,_,rfl,hp2,T.cl_Net,T.na_Net_wants,rfl,lw,dw,tw,ds,ps,rfl,hL2,hW2,hw2,ok.nd,Nat.le_trans ok.ld (by decide),ok.io,fun dy H3 n3 s3 hy3=>?_⟩
  have hp3:=s3 _ _ hp2
  refine ⟨_,rfl,p,a.Net,dx,_,rfl,hp3,T.cl_Net,T.na_Net_ways,Nat.lt_of_le_of_lt (le_put (Nat.le_refl 0)) (by decide),?_⟩
  rw [fsN_new]
  refine k _ (fun b o e ne=>?_) ⟨dx,dw,dy,upd_same,(hw2.mono s3).ins hp3 hC.1,hy3.ins hp3 hC,n1,?_⟩
  case refine_2=>
   have nyp:dy≠p:=fun z=>by rw [z,hp2] at n3;cases n3
   have:H1 dy=none:=by rw [← hH2,upd_ne nyp] at n3;exact n3
   exact s1.free this
  rw [upd_ne ne]
  exact s3 _ _ (k2 _ _ e ne)
theorem WaysAt.get {H:Hp} {dy:Addr} {ds:List WD} {d:WD} (h:WaysAt a H dy ds) (nd:(ds.map (·.nm)).Nodup) (hd:d∈ds):∃ kvs v,H dy=some (.dK kvs)∧valV kvs (Sum.inr d.nm)=some v∧WayIs a H v d:=by
 obtain ⟨kvs,h1,h2,h3⟩:=h
 obtain ⟨i,hi⟩:=List.mem_iff_getElem?.mp hd
 obtain ⟨t,ht,hw⟩:=h3.get' hi
 have hil:=(List.getElem?_eq_some_iff.mp hi).1
 rw [List.getElem?_map] at ht
 cases e:kvs[i]? with
 | none=>rw [e] at ht;cases ht
 | some kv=>
  rw [e] at ht
  have e2:kv.2=t:=Option.some.inj ht
  have e1:kv.1=Sum.inr d.nm:=by
   have g1:(kvs.map (·.1))[i]?=some kv.1:=by rw [List.getElem?_map,e];rfl
   rw [h2,List.getElem?_map,hi] at g1
   exact (Option.some.inj g1).symm
  refine ⟨kvs,t,h1,?_,hw⟩
  obtain ⟨v,hv⟩:=val_some (kvs:=kvs) (k:=(Sum.inr d.nm:Key)) (List.mem_map.mpr ⟨kv,List.mem_of_getElem? e,e1⟩)
  rw [hv]
  unfold valV at hv
  cases f:kvs.find? (fun kv=>decide (kv.1=(Sum.inr d.nm:Key))) with
  | none=>rw [f] at hv;cases hv
  | some kv'=>
   rw [f] at hv
   have hp:=List.find?_some f
   have m:=List.mem_of_find?_eq_some f
   obtain ⟨j,hj⟩:=List.mem_iff_getElem?.mp m
   have ej:kv'.1=Sum.inr d.nm:=of_decide_eq_true hp
   have nd2:(kvs.map (·.1)).Nodup:=by
    rw [h2,show (fun z:WD=>(Sum.inr z.nm:Key))=(fun n=>(Sum.inr n:Key)) ∘ (fun z:WD=>z.nm) from rfl,← List.map_map]
    exact nd.map _ (fun u v h e=>h (Sum.inr.inj e))
   have g1:(kvs.map (·.1))[j]?=some (Sum.inr d.nm):=by rw [List.getElem?_map,hj,Option.map_some,ej]
   have g2:(kvs.map (·.1))[i]?=some (Sum.inr d.nm):=by rw [List.getElem?_map,e,Option.map_some,e1]
   have ij:=(List.getElem?_inj (by rw [List.length_map];exact (List.getElem?_eq_some_iff.mp hj).1) nd2).mp (g1.trans g2.symm)
   subst ij
   rw [hj] at e
   cases e
   rw [← e2]
   exact hv.symm
inductive IspNetWay (a:Ad) (vs:List V) (H:Hp) (Q:VK):Prop
 | mk (p:Addr) (ps:List (Str × Rat)) (ds:List WD) (d:WD) (h1:vs=[.ref p,.str d.nm]) (h2:NetAt a H p ps ds) (h3:(ds.map (·.nm)).Nodup) (h4:d∈ds) (h5:∀ v,WayIs a H v d→Q v H):IspNetWay a vs H Q
def spNetWay (a:Ad):Sp:=fun vs H Q _=>IspNetWay a vs H Q
theorem ok_Net_way (T:TX K mg a):MtB P w K mg base CX0 a.Net "way" 1 ["self","name"] (spNetWay a):=by
 refine T.m_Net_way.ok sc_Net_way (fun vs H Q E h=>?_) (fun f cdv A outer s H vs Q E hr h=>?_)
 ·obtain ⟨_,_,_,_,rfl,_⟩:=h
  rfl
 ·obtain ⟨p,ps,ds,d,rfl,⟨dx,dw,dy,hp,hw,hy⟩,nd,hd,k⟩:=h
  refine ⟨_,(pss_cons (ps_if (pt_cmp (pc_dnotin (hu_of hr) (pv 1) (pe_fld (pv 0) rfl))) (pss_one ps_never) pss_nil)
   (pss_one (ps_ret (pe_dget (hu_of hr) (pe_fld (pv 0) rfl) (pv 1) (fun _ _=>rfl))))),?_⟩
  try dsimp only [cxOf,Cx.nox,Cx.wish]
  obtain ⟨kvs,v,h1,h2,h3⟩:=hy.get nd hd
  refine ⟨_,rfl,_,rfl,p,_,dx,_,_,rfl,hp,T.cl_Net,T.na_Net_ways,fsN_y _ _,dy,_,rfl,DGet.k (k:=Sum.inr d.nm) h1,_,rfl,?_⟩
  rw [h2]
  refine iteF ?_
  refine ⟨_,rfl,p,_,dx,_,_,rfl,hp,T.cl_Net,T.na_Net_ways,fsN_y _ _,_,rfl,dy,v,rfl,?_,k v h3⟩
  rw [← h2]
  exact DGet.k (k:=Sum.inr d.nm) h1
theorem Sm.of_le {a:Int} {n:Nat} (h:a.natAbs≤2 ^ n) (hn:n<9000):Sm a:=Nat.lt_of_le_of_lt h (Nat.pow_lt_pow_right (by decide) hn)
theorem Bd.smr {n:Nat} {x:Rat} (b:Bd n x) (hn:n<9000):SmR x:=⟨Nat.lt_of_le_of_lt b.1 (Nat.pow_lt_pow_right (by decide) hn),by show Sm _;unfold Sm;rw [Int.natAbs_natCast];exact Nat.lt_of_le_of_lt b.2 (Nat.pow_lt_pow_right (by decide) hn)⟩
theorem tot_bd {s m:Nat} {T B o c u:Int} (hT:T.natAbs≤2 ^ s) (hB:B.natAbs≤2 ^ s) (ho:o.natAbs≤2 ^ m) (hc:c.natAbs≤2 ^ m) (hu:u.natAbs≤B.natAbs) :
  (T*o+c*u).natAbs≤2 ^ (s+(m+1))∧(B*o).natAbs≤2 ^ (s+(m+1)):=by
 have h4:2 ^ (s+(m+1))=2 ^ (s+m)*2:=by rw [← Nat.add_assoc,Nat.pow_succ]
 constructor
 ·have h1:(T*o).natAbs≤2 ^ (s+m):=by rw [Int.natAbs_mul];exact mul_le_pow hT ho
  have h2:(c*u).natAbs≤2 ^ (m+s):=by rw [Int.natAbs_mul];exact mul_le_pow hc (Nat.le_trans hu hB)
  rw [Nat.add_comm m s] at h2
  have h5:=Int.natAbs_add_le (T*o) (c*u)
  omega
 ·have h1:(B*o).natAbs≤2 ^ (s+m):=by rw [Int.natAbs_mul];exact mul_le_pow hB ho
  omega
theorem TInv.le {x:Rat} {T B s:Int} (I:TInv x T B s):s.natAbs≤B.natAbs:=by
 obtain ⟨pB,ps,⟨r,hr,_⟩,_⟩:=I
 have:=Int.le_of_dvd pB ⟨r,hr⟩
 omega
def FrIs (a:Ad) (H:Hp) (v:V) (x:Rat):Prop:=∃ q,v=.ref q∧FrAt a.Fraction H q x
theorem FrIs.mono {H H':Hp} {v:V} {x:Rat} (h:FrIs a H v x) (s:Same H H'):FrIs a H' v x:=let ⟨q,e,f⟩:=h;⟨q,e,f.mono s⟩
theorem FrIs.keep {H H':Hp} {v:V} {x:Rat} (h:FrIs a H v x) (s:KeepD H H'):FrIs a H' v x:=let ⟨q,e,d,f⟩:=h;⟨q,e,d,s _ _ f (by intro _ z;cases z) (by intro _ _ z;cases z)⟩
inductive IspTotal (K:PySem.W.Frag) (a:Ad) (vs:List V) (H:Hp) (Q:VK):Prop
 | mk (l:Addr) (ts:List V) (xs:List Rat) (N:Nat) (h1:vs=[.ref l]) (h2:SqL K H l ts) (h3:RowAt (FrIs a) H ts xs) (h4:BdS xs N) (h5:N<9000) (h6:∀ (r:Addr) (H':Hp),H r=none→Same H H'→FrAt a.Fraction H' r xs.sum→Q (.ref r) H'):IspTotal K a vs H Q
def spTotal (K:PySem.W.Frag) (a:Ad):Sp:=fun vs H Q _=>IspTotal K a vs H Q
theorem ok_total (T:TX K mg a):FnB P w K mg base CX0 "total" 5 ["some"] (spTotal K a):=by
 refine T.d_total.ok sc_total (fun vs H Q E h=>?_) (fun f cdv A outer s H vs Q E hr h=>?_)
 ·obtain ⟨_,_,_,_,rfl,_⟩:=h
  rfl
 ·obtain ⟨l,ts,xs,N,rfl,hS,fs,bd,hN,k⟩:=h
  obtain ⟨S,S0,S1,S2⟩:=bd.fn
  refine ⟨_,(pss_cons (ps_set (i:=1) sc_total.nd rfl (Or.inl rfl) pe_int)
   (pss_cons (ps_set (i:=2) sc_total.nd rfl (Or.inl rfl) pe_int)
   (pss_cons (ps_set (i:=3) sc_total.nd rfl (Or.inl rfl) pe_int)
   (pss_cons (ps_for PassesOwn.never rfl (pi_list (pv 0)) (pg_name (i:=4) sc_total.nd rfl (Or.inl rfl)) (pss_cons (ps_set (i:=5) sc_total.nd rfl (Or.inl rfl) (pe_fn (ok_divisor T) hr pass0 (pa_cons (pv 2) (pa_cons (pe_bot T.fr (pv 4)) pa_nil))))
   (pss_cons (ps_set (i:=6) sc_total.nd rfl (Or.inl rfl) (pe_op op_fdivB (pe_bot T.fr (pv 4)) (pv 5)))
   (pss_cons (ps_set (i:=1) sc_total.nd rfl (Or.inl rfl) (pe_op op_add (pe_op op_mulB (pv 1) (pv 6)) (pe_op op_mulB (pe_top T.fr (pv 4)) (pe_op op_fdivB (pv 2) (pv 5)))))
   (pss_cons (ps_set (i:=2) sc_total.nd rfl (Or.inl rfl) (pe_op op_mulB (pv 2) (pv 6)))
   (pss_one (ps_set (i:=3) sc_total.nd rfl (Or.inl rfl) (pe_op op_mulB (pv 3) (pe_op op_fdivB (pv 5) (pe_fn (ok_divisor T) hr pass0 (pa_cons (pv 3) (pa_cons (pv 5) pa_nil))))))))))))
   (pss_cons (ps_set (i:=7) sc_total.nd rfl (Or.inl rfl) (pe_fn (ok_divisor T) hr pass0 (pa_cons (pv 1) (pa_cons (pv 3) pa_nil))))
   (pss_one (ps_ret (pe_fn (ok_in_lowest_terms T) hr pass0 (pa_cons (pe_op op_fdivB (pv 1) (pv 7)) (pa_cons (pe_op op_fdivB (pv 2) (pv 7)) pa_nil)))))))))),?_⟩
  try dsimp only [cxOf,Cx.nox,Cx.wish]
  refine ⟨_,rfl,l,rfl,⟨_,hS⟩,for_list (K:=K) (a:=l) (xs:=ts) (fun i σ H2=>i≤xs.length∧∃ (t b s:Int) (z4 z5 z6 z7:Option V),σ=[some (.ref l),some (.int t),some (.int b),some (.int s),z4,z5,z6,z7]∧H2=H∧TInv (xs.take i).sum t b s∧t.natAbs≤2 ^ (S i)∧b.natAbs≤2 ^ (S i))
   ⟨Nat.zero_le _,0,1,1,_,_,_,_,rfl,rfl,TInv.zero,Nat.zero_le _,by rw [S0];decide⟩ (fun i σ H2 _ ⟨_,_,_,_,_,_,_,_,_,e,_⟩=>by rw [e];exact hS) ?_ ?_⟩
  ·rintro i u σ H2 hu ⟨_,t,b,s,z4,z5,z6,z7,rfl,rfl,I,ht,hb⟩
   have hi:i<xs.length:=by rw [← fs.1];exact (List.getElem?_eq_some_iff.mp hu).1
   have ex:xs[i]?=some xs[i]:=List.getElem?_eq_getElem hi
   obtain ⟨n,by',bs⟩:=S2 i _ ex
   generalize xs[i]=y at ex by'
   obtain ⟨p,rfl,fp⟩:=fs.2 i u _ hu ex
   have si:=S1 i (by omega)
   have si1:=S1 (i+1) (by omega)
   have hn':n<9000:=by omega
   have yd:((y.den:Int)).natAbs≤2 ^ n:=by rw [Int.natAbs_natCast];exact by'.2
   have sy:Sm (y.den:Int):=Sm.of_le yd hn'
   have cp:=gcd_pos_r b (den_ne y)
   have cs:=Sm.gcd_r b (den_ne y) sy
   have st:Sm t:=Sm.of_le ht (by omega)
   have sb:Sm b:=Sm.of_le hb (by omega)
   have yp:=den_pos y
   have lo:((y.den:Int).fdiv (gcd b y.den)).natAbs≤(y.den:Int).natAbs:=fdiv_le _ cp (by omega)
   have lu:(b.fdiv (gcd b y.den)).natAbs≤b.natAbs:=fdiv_le _ cp (Int.le_of_lt I.pB)
   have ss:Sm s:=sb.le I.le
   have gp:=gcd_pos_r s (b:=gcd b y.den) (by omega)
   have gs:=Sm.gcd_r s (b:=gcd b y.den) (by omega) cs
   have lc:((gcd b y.den).fdiv (gcd s (gcd b y.den))).natAbs≤(gcd b y.den).natAbs:=fdiv_le _ gp (by omega)
   have tb:=tot_bd ht hb (Nat.le_trans lo yd) by'.1 lu
   refine ⟨_,rfl,_,rfl,p,y,rfl,fp,_,_,rfl,?_⟩
   refine ⟨_,rfl,p,y,rfl,fp,_,rfl,_,_,rfl,rfl,⟨by omega,cs⟩,?_⟩
   refine ⟨_,rfl,_,rfl,_,_,rfl,rfl,⟨st,sy.le lo⟩,_,rfl,p,y,rfl,fp,_,rfl,_,rfl,_,_,rfl,rfl,⟨by omega,cs⟩,_,_,rfl,rfl,⟨Sm.of_le by'.1 hn',sb.le lu⟩,_,_,rfl,rfl,?_⟩
   refine ⟨_,rfl,_,rfl,_,_,rfl,rfl,⟨sb,sy.le lo⟩,?_⟩
   refine ⟨_,rfl,_,rfl,_,rfl,_,rfl,_,_,rfl,_,_,rfl,rfl,⟨by omega,gs⟩,_,_,rfl,rfl,⟨ss,cs.le lc⟩,?_⟩
   refine ⟨hi,_,_,_,_,_,_,_,rfl,rfl,?_,Nat.le_trans tb.1 (pow_le bs),Nat.le_trans tb.2 (pow_le bs)⟩
   rw [List.take_add_one,ex,Option.toList_some,sum_snoc]
   exact I.step
  ·rintro σ H2 ⟨_,t,b,s,z4,z5,z6,z7,rfl,rfl,I,ht,hb⟩
   rw [fs.1] at I ht hb
   rw [List.take_length] at I
   have sl:=S1 _ (Nat.le_refl _)
   have sb:Sm b:=Sm.of_le hb (by omega)
   have s0:s≠0:=by have:=I.ps;omega
   have gp:=gcd_pos_r t s0
   have gs:=Sm.gcd_r t s0 (sb.le I.le)
   obtain ⟨e1,e2⟩:=I.fin
   refine ⟨_,rfl,_,rfl,_,_,rfl,?_⟩
   refine ⟨_,rfl,_,rfl,_,_,rfl,rfl,⟨by omega,gs⟩,_,rfl,_,rfl,_,_,rfl,rfl,⟨by omega,gs⟩,_,_,rfl,fun r dx H' nr s1 h1=>k r H' nr s1 ⟨dx,?_⟩⟩
   rw [h1,e1,e2]
def NetOff (a:Ad) (H:Hp) (p d:Addr) (ps:List (Str × Rat)) (ds:List WD):Prop:=∃ H0,NetAt a H0 p ps ds∧Same H0 H∧H0 d=none
theorem NetOff.at_ {H:Hp} {p d:Addr} {ps:List (Str × Rat)} {ds:List WD} (h:NetOff a H p d ps ds):NetAt a H p ps ds:=let ⟨_,n,s0,_⟩:=h;n.mono s0
theorem NetOff.but {H H':Hp} {p d:Addr} {ps:List (Str × Rat)} {ds:List WD} (h:NetOff a H p d ps ds) (k:∀ b ob,H b=some ob→b≠d→H' b=some ob):NetOff a H' p d ps ds:=let ⟨H0,n,s0,e⟩:=h;⟨H0,n,fun b ob x=>k b ob (s0 b ob x) (ne_of_none x e),e⟩
inductive IspNNames (a:Ad) (vs:List V) (H:Hp) (Q:VK):Prop
 | mk (p:Addr) (ps:List (Str × Rat)) (ds:List WD) (h1:vs=[.ref p]) (h2:NetAt a H p ps ds) (h3:∀ l,H l=none→Q (.ref l) (upd H l (.lst (ps.map fun x=>V.str x.1)))):IspNNames a vs H Q
def spNNames (a:Ad):Sp:=fun vs H Q _=>IspNNames a vs H Q
theorem ok_Net_names (T:TX K mg a):MtB P w K mg base CX0 a.Net "names" 1 ["self"] (spNNames a):=by
 refine T.m_Net_names.ok sc_Net_names (fun vs H Q E h=>?_) (fun f cdv A outer s H vs Q E hr h=>?_)
 ·obtain ⟨_,_,_,rfl,_⟩:=h
  rfl
 ·obtain ⟨p,ps,ds,rfl,⟨dx,dw,dy,hp,⟨kvs,h1,h2,h3⟩,hy⟩,k⟩:=h
  refine ⟨_,(pss_one (ps_ret (pe_callTy (call_list_dict hr.hd) (by rfl) T.z_list PyProof.Rows.boot_list (pa_cons (pe_fld (pv 0) rfl) pa_nil)))),?_⟩
  try dsimp only [cxOf,Cx.nox,Cx.wish]
  refine ⟨_,rfl,p,_,dx,_,_,rfl,hp,T.cl_Net,T.na_Net_wants,fsN_w _ _,dw,kvs,rfl,.inl h1,fun l nl=>?_⟩
  have e:(kvs.map fun kv=>kV kv.1)=ps.map fun x=>V.str x.1:=by
   have:=congrArg (List.map kV) h2
   rw [List.map_map,List.map_map] at this
   exact this
  rw [e]
  exact k l nl
inductive IspNAll (a:Ad) (vs:List V) (H:Hp) (Q:VK):Prop
 | mk (p:Addr) (ps:List (Str × Rat)) (ds:List WD) (h1:vs=[.ref p]) (h2:NetAt a H p ps ds) (h3:∀ l H' ts,H l=none→Same H H'→H' l=some (.lst ts)→RowAt (WayIs a) H' ts ds→Q (.ref l) H'):IspNAll a vs H Q
def spNAll (a:Ad):Sp:=fun vs H Q _=>IspNAll a vs H Q
theorem ok_Net_all_ways (T:TX K mg a):MtB P w K mg base CX0 a.Net "all_ways" 1 ["self"] (spNAll a):=by
 refine T.m_Net_all_ways.ok sc_Net_all_ways (fun vs H Q E h=>?_) (fun f cdv A outer s H vs Q E hr h=>?_)
 ·obtain ⟨_,_,_,rfl,_⟩:=h
  rfl
 ·obtain ⟨p,ps,ds,rfl,⟨dx,dw,dy,hp,hw,⟨kvs,h1,h2,h3⟩⟩,k⟩:=h
  refine ⟨_,(pss_one (ps_ret (pe_callTy (call_list_vals hr.hd) (by rfl) T.z_list PyProof.Rows.boot_list (pa_cons (pe_bm0 PySem.F.plainAttrs_dict PySem.F.slot_dict_values PySem.F.type_dict_values mt_values (pe_fld (pv 0) rfl)) pa_nil)))),?_⟩
  try dsimp only [cxOf,Cx.nox,Cx.wish]
  refine ⟨_,rfl,p,_,dx,_,_,rfl,hp,T.cl_Net,T.na_Net_ways,fsN_y _ _,(.inr (.inr (.inl ⟨rfl,.inl ⟨kvs,h1⟩⟩))),dy,kvs,rfl,rfl,.inl h1,fun v nv=>?_⟩
  have s1:=same_upd (o:=ViewO v dy) nv
  refine ⟨v,dy,kvs,rfl,upd_same,.inl (s1 _ _ h1),fun l nl=>?_⟩
  have s2:=s1.trans (same_upd (o:=.lst (kvs.map (·.2))) nl)
  exact k l _ _ (s1.free nl) s2 upd_same (h3.mono fun v x z=>z.mono s2)
def amtOf (ks:List Str) (f:Str→Rat) (n:Str):Rat:=if n∈ks then f n else 0
inductive IspAmount (a:Ad) (vs:List V) (H:Hp) (Q:VK):Prop
 | mk (d:Addr) (kvs:List (Key × V)) (ks:List Str) (f:Str→Rat) (n:Str) (h1:vs=[.ref d,.str n]) (h2:Rd H d (.dK kvs)) (h3:Tab (FrIs a) H kvs ks f) (h4:∀ q H',Same H H'→FrAt a.Fraction H' q (amtOf ks f n)→Q (.ref q) H'):IspAmount a vs H Q
def spAmount (a:Ad):Sp:=fun vs H Q _=>IspAmount a vs H Q
theorem ok_amount (T:TX K mg a):FnB P w K mg base CX0 "amount" 5 ["plan","name"] (spAmount a):=by
 refine T.d_amount.ok sc_amount (fun vs H Q E h=>?_) (fun f cdv A outer s H vs Q E hr h=>?_)
 ·obtain ⟨_,_,_,_,_,rfl,_⟩:=h
  rfl
 ·obtain ⟨d,kvs,ks,f,n,rfl,hd,tb,k⟩:=h
  refine ⟨_,(pss_one (ps_ret (pe_dget2 (hu_of hr) (pv 0) (pv 1) (pe_mkfr (mk1 T) hr T.mg_Fraction pass0 (pa_cons pe_int pa_nil)) ⟨rfl,rfl,rfl,rfl⟩))),?_⟩
  try dsimp only [cxOf,Cx.nox,Cx.wish]
  refine ⟨_,rfl,d,rfl,.inl ⟨kvs,hd⟩,_,rfl,0,1,rfl,by decide,sm1,fun z H1 nz s1 f1=>?_⟩
  have hd1:Rd H1 d (.dK kvs):=hd.imp (fun h=>s1 _ _ h) fun ⟨o,h⟩=>⟨o,s1 _ _ h⟩
  refine ⟨valV kvs (Sum.inr n),.inl ⟨kvs,Sum.inr n,hd1,rfl,rfl⟩,?_⟩
  unfold amtOf at k
  by_cases hn:n∈ks
  ·obtain ⟨v,ev,q,rfl,fq⟩:=tb.vals n hn
   rw [ev]
   rw [if_pos hn] at k
   exact k q H1 s1 (fq.mono s1)
  ·rw [tb.none hn]
   rw [if_neg hn] at k
   rw [Rat.zero_divInt] at f1
   exact k z H1 s1 f1
inductive IspRefO (a:Ad) (vs:List V) (H:Hp) (Q:VK):Prop
 | mk (p d:Addr) (ps:List (Str × Rat)) (ds:List WD) (kvs:List (Key × V)) (ks:List Str) (f:Str→Rat) (h1:vs=[.ref p,.ref d]) (h2:NetOff a H p d ps ds) (h3:(ds.map (·.nm)).Nodup) (h4:H d=some (.dK kvs)) (h5:Tab (FrIs a) H kvs ks f) (h6:ks.Nodup) (h7:(∀ n∈ks,n∈ds.map (·.nm))) (h8:∀ H',Same H H'→Q .non H'):IspRefO a vs H Q
def spRefO (a:Ad):Sp:=fun vs H Q _=>IspRefO a vs H Q
theorem ok_refuse_other_names (T:TX K mg a):FnB P w K mg base CX0 "refuse_other_names" 2 ["net","plan"] (spRefO a):=by
 refine T.d_refuse_other_names.ok sc_refuse_other_names (fun vs H Q E h=>?_) (fun f cdv A outer s H vs Q E hr h=>?_)
 ·obtain ⟨_,_,_,_,_,_,_,rfl,_⟩:=h
  rfl
 ·obtain ⟨p,d,ps,ds,kvs,ks,f,rfl,hn,nd,hd,tb,ndk,sub,k⟩:=h
  refine ⟨_,(pss_one (ps_thaw (ps_for PassesOwn.never rfl (pi_dict (pv 1)) (pg_name (i:=2) sc_refuse_other_names.nd rfl (Or.inl rfl)) (pss_one (ps_expr (pe_mtD (CX:=CX0) (pv 0) hr pass0 (pa_cons (pv 2) pa_nil))))))),?_⟩
  try dsimp only [cxOf,Cx.nox,Cx.wish]
  refine ⟨d,.dK kvs,hd,(by intro o z e;cases e),_,rfl,d,kvs,rfl,hd,fun o=>?_⟩
  refine for_dict (a:=d) (o:=o) (kvs:=kvs) (fun i σ H2=>∃ z,σ=[some (.ref p),some (.ref d),z]∧H2 d=some (.frz o (.dK kvs))∧∀ b ob,H b=some ob→b≠d→H2 b=some ob)
   ⟨_,rfl,upd_same,fun b ob e ne=>by rw [upd_ne ne];exact e⟩ (fun i σ H2 _ ⟨_,_,h,_⟩=>h) ?_ ?_
  ·rintro i kv σ H2 hkv ⟨z,rfl,hf,k2⟩
   obtain ⟨n,en,e1,ev,_⟩:=tb.at_ ndk hkv
   have ekv:kV kv.1=.str n:=by rw [e1];rfl
   rw [ekv]
   obtain ⟨y,my,rfl⟩:=List.mem_map.mp (sub n (List.mem_of_getElem? en))
   obtain ⟨dx,dw,dy,hp,hw,hy⟩:=(hn.but k2).at_
   refine ⟨_,rfl,p,a.Net,dx,_,1,["self","name"],spNetWay a,rfl,hp,fsN_no _ _ (by decide +kernel) (by decide +kernel),T.cl_Net,by decide,ok_Net_way T,_,rfl,p,ps,ds,y,rfl,⟨dx,dw,dy,hp,hw,hy⟩,nd,my,fun v _=>?_⟩
   exact ⟨_,rfl,hf,k2⟩
  ·rintro σ H2 ⟨z,rfl,hf,k2⟩
   refine ⟨o,hf,k _ fun b ob e=>?_⟩
   by_cases hb:b=d
   ·subst hb
    rw [upd_same,← hd,e]
   ·rw [upd_ne hb]
    exact k2 _ _ e hb
theorem kv_at {κ:Type} [DecidableEq κ]:∀ {kvs:List (κ × V)} {i:Nat} {kv:κ × V},(kvs.map (·.1)).Nodup→kvs[i]?=some kv→valV kvs kv.1=some kv.2
 | [],_,_,_,e=>by simp at e
 | p::r,0,kv,_,e=>by
  simp at e
  subst e
  exact valV_pos rfl
 | p::r,i+1,kv,nd,e=>by
  have e:r[i]?=some kv:=by simpa using e
  obtain ⟨h1,h2⟩:=List.nodup_cons.mp (show (p.1::r.map (·.1)).Nodup from nd)
  rw [valV_neg fun z=>h1 (by rw [z];exact List.mem_map.mpr ⟨kv,List.mem_of_getElem? e,rfl⟩)]
  exact kv_at h2 e
theorem WantsAt.at_ {H:Hp} {dw:Addr} {ps:List (Str × Rat)} {i:Nat} {p:Str × Rat} (h:WantsAt a H dw ps) (nd:(ps.map (·.1)).Nodup) (hi:ps[i]?=some p):∃ kvs q,H dw=some (.dK kvs)∧valV kvs (Sum.inr p.1)=some (.ref q)∧FrAt a.Fraction H q p.2:=by
 obtain ⟨kvs,h1,h2,h3⟩:=h
 obtain ⟨t,ht,q,rfl,fq⟩:=h3.get' (i:=i) (x:=p.2) (by rw [List.getElem?_map,hi];rfl)
 rw [List.getElem?_map] at ht
 cases e:kvs[i]? with
 | none=>rw [e] at ht;cases ht
 | some kv=>
  rw [e] at ht
  have e2:kv.2=.ref q:=Option.some.inj ht
  have e1:kv.1=Sum.inr p.1:=by
   have g1:(kvs.map (·.1))[i]?=some kv.1:=by rw [List.getElem?_map,e];rfl
   rw [h2,List.getElem?_map,hi] at g1
   exact (Option.some.inj g1).symm
  have nd2:(kvs.map (·.1)).Nodup:=by
   rw [h2,show (fun z:Str × Rat=>(Sum.inr z.1:Key))=(fun n=>(Sum.inr n:Key)) ∘ (fun z:Str × Rat=>z.1) from rfl,← List.map_map]
   exact nd.map _ (fun u v h e=>h (Sum.inr.inj e))
  refine ⟨kvs,q,h1,?_,fq⟩
  rw [← e1,← e2]
  exact kv_at nd2 e
inductive IspNWant (a:Ad) (vs:List V) (H:Hp) (Q:VK):Prop
 | mk (p:Addr) (ps:List (Str × Rat)) (ds:List WD) (i:Nat) (n:Str) (x:Rat) (h1:vs=[.ref p,.str n]) (h2:NetAt a H p ps ds) (h3:(ps.map (·.1)).Nodup) (h4:ps[i]?=some (n,x)) (h5:∀ q,FrAt a.Fraction H q x→Q (.ref q) H):IspNWant a vs H Q
def spNWant (a:Ad):Sp:=fun vs H Q _=>IspNWant a vs H Q
theorem ok_Net_want (T:TX K mg a):MtB P w K mg base CX0 a.Net "want" 1 ["self","place"] (spNWant a):=by
 refine T.m_Net_want.ok sc_Net_want (fun vs H Q E h=>?_) (fun f cdv A outer s H vs Q E hr h=>?_)
 ·obtain ⟨_,_,_,_,_,_,rfl,_⟩:=h
  rfl
 ·obtain ⟨p,ps,ds,i,n,x,rfl,⟨dx,dw,dy,hp,hw,hy⟩,nd,hi,k⟩:=h
  refine ⟨_,(pss_cons (ps_if (pt_cmp (pc_dnotin (hu_of hr) (pv 1) (pe_fld (pv 0) rfl))) (pss_one ps_never) pss_nil)
   (pss_one (ps_ret (pe_dget (hu_of hr) (pe_fld (pv 0) rfl) (pv 1) (fun _ _=>rfl))))),?_⟩
  try dsimp only [cxOf,Cx.nox,Cx.wish]
  obtain ⟨kvs,q,h1,h2,h3⟩:=hw.at_ nd hi
  refine ⟨_,rfl,_,rfl,p,_,dx,_,_,rfl,hp,T.cl_Net,T.na_Net_wants,fsN_w _ _,dw,_,rfl,DGet.k (k:=Sum.inr n) h1,_,rfl,?_⟩
  rw [h2]
  refine iteF ?_
  refine ⟨_,rfl,p,_,dx,_,_,rfl,hp,T.cl_Net,T.na_Net_wants,fsN_w _ _,_,rfl,dw,.ref q,rfl,?_,k q h3⟩
  rw [← h2]
  exact DGet.k (k:=Sum.inr n) h1
inductive IspNWantX (a:Ad) (vs:List V) (H:Hp) (E:XK):Prop
 | mk (p:Addr) (ps:List (Str × Rat)) (ds:List WD) (n:Str) (h1:vs=[.ref p,.str n]) (h2:NetAt a H p ps ds) (h3:¬ n∈ps.map (·.1)) (h4:n.length≤1000) (h5:NoPlaceE a H n E):IspNWantX a vs H E
def spNWantX (a:Ad):Sp:=fun vs H _ E=>IspNWantX a vs H E
theorem ok_Net_wantX (T:TX K mg a):MtB P w K mg base (CX1 P w) a.Net "want" 3 ["self","place"] (spNWantX a):=by
 refine T.m_Net_want.okX sc_Net_want (fun vs H Q E h=>?_) (fun f cdv A outer s H vs Q E hr h=>?_)
 ·obtain ⟨_,_,_,_,rfl,_⟩:=h
  rfl
 ·obtain ⟨p,ps,ds,n,rfl,⟨dx,dw,dy,hp,⟨kvs,h1,h2,h3⟩,hy⟩,hn,ln,kb⟩:=h
  refine ⟨_,(pss_cons (ps_if (pt_cmp (pc_dnotin (hu_of hr) (pv 1) (pe_fld (pv 0) rfl))) (pss_one (ps_raiseI xout1 rfl hr (by rfl) T.mg_NoPlace (xi_NoPlace T) (pa_cons (pv 1) pa_nil))) pss_nil)
   (pss_one (ps_ret (pe_dget (hu_of hr) (pe_fld (pv 0) rfl) (pv 1) (fun _ _=>rfl))))),?_⟩
  try dsimp only [cxOf,Cx.nox,Cx.wish]
  refine ⟨_,rfl,_,rfl,p,_,dx,_,_,rfl,hp,T.cl_Net,T.na_Net_wants,fsN_w _ _,dw,_,rfl,DGet.k (k:=Sum.inr n) h1,_,rfl,?_⟩
  rw [val_none (by
   rw [h2,show (fun z:Str × Rat=>(Sum.inr z.1:Key))=(fun n=>(Sum.inr n:Key)) ∘ (fun z:Str × Rat=>z.1) from rfl,← List.map_map]
   exact fun z=>hn (inr_in.mp z))]
  refine iteT ?_
  refine ⟨_,rfl,?_⟩
  exact raise_np ln kb
theorem emod_in (x:Int) {m:Int} (h:0<m):0≤x % m∧x % m<m:=⟨Int.emod_nonneg x (by omega),Int.emod_lt_of_pos x h⟩
def DueIs (H:Hp) (v:V) (c:Int × Int):Prop:=∃ t,v=.ref t∧H t=some (.tup [.int c.1,.int c.2])
theorem DueIs.mono {H H':Hp} {v:V} {c:Int × Int} (h:DueIs H v c) (s:Same H H'):DueIs H' v c:=let ⟨t,e,f⟩:=h;⟨t,e,s _ _ f⟩
def OptIs (H:Hp) (v:V):Option (Int × Int)→Prop
 | none=>v=.non
 | some c=>DueIs H v c
theorem OptIs.mono {H H':Hp} {v:V} {o:Option (Int × Int)} (h:OptIs H v o) (s:Same H H'):OptIs H' v o:=by
 cases o with
 | none=>exact h
 | some c=>exact DueIs.mono h s
structure KeepO (H H':Hp):Prop where
 tup:∀ b xs,H b=some (.tup xs)→H' b=some (.tup xs)
 ins:∀ b C dx fs,H b=some (.ins C dx fs)→H' b=some (.ins C dx fs)
theorem KeepO.lst {H:Hp} {l:Addr} {xs:List V} {o:HO} (h:H l=some (.lst xs)):KeepO H (upd H l o):=⟨fun b ys e=>by rw [upd_ne (ne_of e h (by intro z;cases z))];exact e,fun b C dx fs e=>by rw [upd_ne (ne_of e h (by intro z;cases z))];exact e⟩
theorem KeepO.dct {H:Hp} {l:Addr} {xs:List (Key × V)} {o:HO} (h:H l=some (.dK xs)):KeepO H (upd H l o):=⟨fun b ys e=>by rw [upd_ne (ne_of e h (by intro z;cases z))];exact e,fun b C dx fs e=>by rw [upd_ne (ne_of e h (by intro z;cases z))];exact e⟩
theorem DueIs.ko {H H':Hp} {v:V} {c:Int × Int} (h:DueIs H v c) (s:KeepO H H'):DueIs H' v c:=let ⟨t,e,f⟩:=h;⟨t,e,s.tup _ _ f⟩
theorem OptIs.ko {H H':Hp} {v:V} {o:Option (Int × Int)} (h:OptIs H v o) (s:KeepO H H'):OptIs H' v o:=by
 cases o with
 | none=>exact h
 | some c=>exact DueIs.ko h s
theorem FrIs.ko {H H':Hp} {v:V} {x:Rat} (h:FrIs a H v x) (s:KeepO H H'):FrIs a H' v x:=let ⟨q,e,d,f⟩:=h;⟨q,e,d,s.ins _ _ _ _ f⟩
theorem PlIs.ko {H H':Hp} {v:V} {p:Str × Rat} (h:PlIs a H v p) (s:KeepO H H'):PlIs a H' v p:=let ⟨t,q,e,h1,d,f⟩:=h;⟨t,q,e,s.tup _ _ h1,d,s.ins _ _ _ _ f⟩
theorem WayIs.ko {H H':Hp} {v:V} {x:WD} (h:WayIs a H v x) (s:KeepO H H'):WayIs a H' v x:=h.keep fun b C dx fs _ e=>s.ins b C dx fs e
theorem RowAt.app {α:Type} {R:Hp→V→α→Prop} {H:Hp} {ts us:List V} {xs ys:List α} (d:RowAt R H ts xs) (e:RowAt R H us ys):RowAt R H (ts++us) (xs++ys):=by
 refine ⟨by rw [List.length_append,List.length_append,d.1,e.1],fun i t x h1 h2=>?_⟩
 have hl:=d.1
 by_cases hi:i<ts.length
 ·rw [List.getElem?_append_left hi] at h1
  rw [List.getElem?_append_left (by omega)] at h2
  exact d.2 i t x h1 h2
 ·rw [List.getElem?_append_right (by omega)] at h1
  rw [List.getElem?_append_right (by omega),← hl] at h2
  exact e.2 _ t x h1 h2
structure Tn (i:Int):Prop where
 nn:0≤i
 lt:i.natAbs<2 ^ 200
theorem Tn.log {i:Int} (h:Tn i):i.natAbs.log2<1920:=by
 by_cases z:i.natAbs=0
 ·rw [z];decide
 ·exact (Nat.log2_lt z).mpr (Nat.lt_of_lt_of_le h.lt (Nat.pow_le_pow_right (by decide) (by decide)))
theorem Tn.len {i:Int} (h:Tn i):(Str.ofString (toString i)).length≤201:=by
 rw [PySem.ofString_length]
 refine PySem.int_text_length_le (k:=200) (by decide) ?_
 by_cases z:i.natAbs=0
 ·rw [z];decide
 ·exact (Nat.log2_lt z).mpr h.lt
def atT (x:Str) (t:Int):Str:=(x ++ ".")++Str.ofString (toString t)
theorem atT_ne {x y:Str} {t:Int} (h:x≠y):atT x t≠atT y t:=fun e=>h (app_right (app_right e))
theorem atT_next {x:Str} {t:Int} (h:Tn t):atT x t≠atT x (t+1):=by
 intro e
 obtain ⟨n,rfl⟩:=Int.eq_ofNat_of_zero_le h.nn
 exact text_next (app_left e)
def Kd.next:Kd→Kd
 | .sto=>.lea
 | k=>k
def WayE (a:Ad) (H:Hp) (v:V) (d:WD):Prop:=∃ p vh vc q,v=.ref p∧WayAt a H p d.kd d.nm d.st d.go vh vc q d.x∧(∃ qc,vc=.ref qc∧FrAt a.Fraction H qc d.co)∧HiT a H vh d.hi
theorem WayE.of {H:Hp} {v:V} {d:WD} (h:WayIs a H v d):WayE a H v d:=let ⟨p,vh,vc,q,e,W,_,c,hh⟩:=h;⟨p,vh,vc,q,e,W,c,hh⟩
theorem WayE.mono {H H':Hp} {v:V} {d:WD} (h:WayE a H v d) (s:Same H H'):WayE a H' v d:=let ⟨p,vh,vc,q,e,W,⟨qc,ec,fc⟩,hh⟩:=h;⟨p,vh,vc,q,e,W.mono s,⟨qc,ec,fc.mono s⟩,hh.mono s⟩
theorem WayE.keep {H H':Hp} {v:V} {d:WD} (h:WayE a H v d) (s:Stays a H H'):WayE a H' v d:=let ⟨p,vh,vc,q,e,W,⟨qc,ec,fc⟩,hh⟩:=h;⟨p,vh,vc,q,e,W.keep s,⟨qc,ec,s.fr fc⟩,hh.keep s⟩
structure TrnOk (d:WD) (t:Int):Prop where
 ne:d.kd≠.sto→d.st≠d.go
 eq:d.kd=.sto→d.st=d.go
 ok:d.kd.ok d.x
 hi:∀ h,d.hi=some h→0≤h.num
 ln:d.nm.length≤700
 ls:d.st.length≤700
 lg:d.go.length≤700
 t1:Tn t
 t2:Tn (t+1)
def atD (t:Int) (d:WD):WD:=⟨atT d.nm t,atT d.st t,atT d.go (match d.kd with | .sto=>t+1 | _=>t),d.kd.next,d.x,d.hi,d.co⟩
theorem HiT.ok {H:Hp} {v:V} {o:Option Rat} (h:HiT a H v o) (n:∀ x,o=some x→0≤x.num):HiOk a.Fraction H v:=by
 cases o with
 | none=>exact .inl h
 | some x=>exact let ⟨q,e,f⟩:=h;.inr ⟨q,x,e,f,n x rfl⟩
theorem co_same {H H':Hp} {p qc:Addr} {vc':V} {x:Rat} (co:CoIs a.Fraction H' p (.ref qc) vc') (f:FrAt a.Fraction H qc x) (s:Same H H'):∃ z,vc'=.ref z∧FrAt a.Fraction H' z x:=by
 rcases co with ⟨_,e⟩ | ⟨e,_⟩
 ·exact ⟨qc,e,f.mono s⟩
 ·cases e
inductive IspNameAt (vs:List V) (H:Hp) (Q:VK):Prop
 | mk (x:Str) (t:Int) (h1:vs=[.str x,.int t]) (h2:x.length≤1000) (h3:Tn t) (h4:Q (.str (atT x t)) H):IspNameAt vs H Q
def spNameAt:Sp:=fun vs H Q _=>IspNameAt vs H Q
theorem ok_name_at (T:TX K mg a):FnB P w K mg base CX0 "name_at" 1 ["name","turn"] spNameAt:=by
 refine T.d_name_at.ok sc_name_at (fun vs H Q E h=>?_) (fun f cdv A outer s H vs Q E hr h=>?_)
 ·obtain ⟨x,t,rfl,_⟩:=h
  rfl
 ·obtain ⟨x,t,rfl,hx,ht,k⟩:=h
  refine ⟨_,(pss_one (ps_ret (pe_op op_add_str (pe_op op_add_str (pv 0) pe_str) (pe_callTy call_str_int (by rfl) T.z_str PyProof.Rows.boot_str (pa_cons (pv 1) pa_nil))))),?_⟩
  try dsimp only [cxOf,Cx.nox,Cx.wish]
  have hl:=ht.len
  walk_at "rd"
  refine ⟨by rw [show (".":Str).length=1 from rfl,PySem.sizeLine_eq];omega,?_⟩
  walk_at "rd"
  refine ⟨ht.log,?_⟩
  walk_at "rd"
  refine ⟨by rw [PySem.strLen_append,show (".":Str).length=1 from rfl,PySem.sizeLine_eq];omega,?_⟩
  exact k
inductive IspTurn (a:Ad) (kd:Kd) (vs:List V) (H:Hp) (Q:VK):Prop
 | mk (v:V) (t:Int) (d:WD) (h1:vs=[v,.int t]) (h2:WayE a H v d) (h3:d.kd=kd) (h4:TrnOk d t) (h5:∀ p H',H p=none→Same H H'→WayIs a H' (.ref p) (atD t d)→Q (.ref p) H'):IspTurn a kd vs H Q
def spTurn (a:Ad) (kd:Kd):Sp:=fun vs H Q _=>IspTurn a kd vs H Q
theorem len_Turn {kd:Kd}:∀ vs H Q E,spTurn a kd vs H Q E→vs.length=(["self","turn"]:List Str).length:=fun vs H Q E h=>by
 obtain ⟨_,_,_,rfl,_⟩:=h
 rfl
theorem turn_Way (T:TX K mg a):MtB P w K mg base CX0 a.Way "at_turn" 7 ["self","turn"] (spTurn a .way):=by
 refine T.m_Way_at_turn.ok sc_Way_at_turn len_Turn (fun f cdv A outer s₀ H vs Q E hr h=>?_)
 obtain ⟨v,t,⟨n,s,g,kd,x,hi,co⟩,rfl,⟨p,vh,vc,q,rfl,W,⟨qc,rfl,fc⟩,hh⟩,hk,ok,k⟩:=h
 obtain rfl:kd=.way:=hk
 refine ⟨_,(pss_cons (ps_set (i:=2) sc_Way_at_turn.nd rfl (Or.inl rfl) (pe_fn (ok_name_at T) hr pass0 (pa_cons (pe_fld (pv 0) rfl) (pa_cons (pv 1) pa_nil))))
   (pss_cons (ps_set (i:=3) sc_Way_at_turn.nd rfl (Or.inl rfl) (pe_fn (ok_name_at T) hr pass0 (pa_cons (pe_fld (pv 0) rfl) (pa_cons (pv 1) pa_nil))))
   (pss_one (ps_ret (pe_mk (mk_Way T) hr T.mg_Way pass0 (pa_cons (pe_fn (ok_name_at T) hr pass0 (pa_cons (pe_fld (pv 0) rfl) (pa_cons (pv 1) pa_nil))) (pa_cons (pv 2) (pa_cons (pv 3) (pa_cons (pe_fld (pv 0) rfl) (pa_cons (pe_fld (pv 0) rfl) pa_nil)))))))))),?_⟩
 try dsimp only [cxOf,Cx.nox,Cx.wish]
 obtain ⟨dx,fs,ho,h5,_⟩:=W.ob
 have c:=T.wW
 have ln:=ok.ln
 have ls:=ok.ls
 have lg:=ok.lg
 dsimp only at ln ls lg
 refine ⟨_,rfl,p,_,dx,fs,_,rfl,ho,c.cl,c.n2,h5.st,_,rfl,s,t,rfl,by omega,ok.t1,?_⟩
 refine ⟨_,rfl,p,_,dx,fs,_,rfl,ho,c.cl,c.n3,h5.go,_,rfl,g,t,rfl,by omega,ok.t1,?_⟩
 refine ⟨_,rfl,p,_,dx,fs,_,rfl,ho,c.cl,c.n1,h5.nm,_,rfl,n,t,rfl,by omega,ok.t1,_,rfl,_,rfl,_,rfl,p,_,dx,fs,_,rfl,ho,c.cl,c.n4,h5.hi,_,rfl,p,_,dx,fs,_,rfl,ho,c.cl,c.n5,h5.co,?_⟩
 exact mkW (x:=x) T (atT_ne (ok.ne (by nofun))) (hh.ok ok.hi) fun q H' vc' q' nq ss W' co'=>k q H' nq ss ⟨q,_,_,q',rfl,W',by nofun,co_same co' fc ss,hh.mono ss⟩
theorem turn_Growing (T:TX K mg a):MtB P w K mg base CX0 a.Growing "at_turn" 7 ["self","turn"] (spTurn a .gro):=by
 refine T.m_Growing_at_turn.ok sc_Growing_at_turn len_Turn (fun f cdv A outer s₀ H vs Q E hr h=>?_)
 obtain ⟨v,t,⟨n,s,g,kd,x,hi,co⟩,rfl,⟨p,vh,vc,q,rfl,W,⟨qc,rfl,fc⟩,hh⟩,hk,ok,k⟩:=h
 obtain rfl:kd=.gro:=hk
 refine ⟨_,(pss_cons (ps_set (i:=2) sc_Growing_at_turn.nd rfl (Or.inl rfl) (pe_fn (ok_name_at T) hr pass0 (pa_cons (pe_fld (pv 0) rfl) (pa_cons (pv 1) pa_nil))))
   (pss_cons (ps_set (i:=3) sc_Growing_at_turn.nd rfl (Or.inl rfl) (pe_fn (ok_name_at T) hr pass0 (pa_cons (pe_fld (pv 0) rfl) (pa_cons (pv 1) pa_nil))))
   (pss_one (ps_ret (pe_mk (mk_Growing T) hr T.mg_Growing pass0 (pa_cons (pe_fn (ok_name_at T) hr pass0 (pa_cons (pe_fld (pv 0) rfl) (pa_cons (pv 1) pa_nil))) (pa_cons (pv 2) (pa_cons (pv 3) (pa_cons (pe_fld (pv 0) rfl) (pa_cons (pe_fld (pv 0) rfl) (pa_cons (pe_fld (pv 0) rfl) pa_nil))))))))))),?_⟩
 try dsimp only [cxOf,Cx.nox,Cx.wish]
 obtain ⟨dx,fs,ho,h5,hl⟩:=W.ob
 have c:=T.wG
 have ln:=ok.ln
 have ls:=ok.ls
 have lg:=ok.lg
 dsimp only at ln ls lg
 refine ⟨_,rfl,p,_,dx,fs,_,rfl,ho,c.cl,c.n2,h5.st,_,rfl,s,t,rfl,by omega,ok.t1,?_⟩
 refine ⟨_,rfl,p,_,dx,fs,_,rfl,ho,c.cl,c.n3,h5.go,_,rfl,g,t,rfl,by omega,ok.t1,?_⟩
 refine ⟨_,rfl,p,_,dx,fs,_,rfl,ho,c.cl,c.n1,h5.nm,_,rfl,n,t,rfl,by omega,ok.t1,_,rfl,_,rfl,_,rfl,p,_,dx,fs,_,rfl,ho,c.cl,T.na_Growing_rate,hl (by nofun),_,rfl,p,_,dx,fs,_,rfl,ho,c.cl,c.n4,h5.hi,_,rfl,p,_,dx,fs,_,rfl,ho,c.cl,c.n5,h5.co,?_⟩
 exact mkG T (atT_ne (ok.ne (by nofun))) (W.fq (by nofun)) ok.ok (hh.ok ok.hi) fun q H' vc' q' nq ss W' co'=>k q H' nq ss ⟨q,_,_,q',rfl,W',by nofun,co_same co' fc ss,hh.mono ss⟩
theorem turn_Leaking (T:TX K mg a):MtB P w K mg base CX0 a.Leaking "at_turn" 7 ["self","turn"] (spTurn a .lea):=by
 refine T.m_Leaking_at_turn.ok sc_Leaking_at_turn len_Turn (fun f cdv A outer s₀ H vs Q E hr h=>?_)
 obtain ⟨v,t,⟨n,s,g,kd,x,hi,co⟩,rfl,⟨p,vh,vc,q,rfl,W,⟨qc,rfl,fc⟩,hh⟩,hk,ok,k⟩:=h
 obtain rfl:kd=.lea:=hk
 refine ⟨_,(pss_cons (ps_set (i:=2) sc_Leaking_at_turn.nd rfl (Or.inl rfl) (pe_fn (ok_name_at T) hr pass0 (pa_cons (pe_fld (pv 0) rfl) (pa_cons (pv 1) pa_nil))))
   (pss_cons (ps_set (i:=3) sc_Leaking_at_turn.nd rfl (Or.inl rfl) (pe_fn (ok_name_at T) hr pass0 (pa_cons (pe_fld (pv 0) rfl) (pa_cons (pv 1) pa_nil))))
   (pss_one (ps_ret (pe_mk (mk_Leaking T) hr T.mg_Leaking pass0 (pa_cons (pe_fn (ok_name_at T) hr pass0 (pa_cons (pe_fld (pv 0) rfl) (pa_cons (pv 1) pa_nil))) (pa_cons (pv 2) (pa_cons (pv 3) (pa_cons (pe_fld (pv 0) rfl) (pa_cons (pe_fld (pv 0) rfl) (pa_cons (pe_fld (pv 0) rfl) pa_nil))))))))))),?_⟩
 try dsimp only [cxOf,Cx.nox,Cx.wish]
 obtain ⟨dx,fs,ho,h5,hl⟩:=W.ob
 have c:=T.wL
 have ln:=ok.ln
 have ls:=ok.ls
 have lg:=ok.lg
 dsimp only at ln ls lg
 refine ⟨_,rfl,p,_,dx,fs,_,rfl,ho,c.cl,c.n2,h5.st,_,rfl,s,t,rfl,by omega,ok.t1,?_⟩
 refine ⟨_,rfl,p,_,dx,fs,_,rfl,ho,c.cl,c.n3,h5.go,_,rfl,g,t,rfl,by omega,ok.t1,?_⟩
 refine ⟨_,rfl,p,_,dx,fs,_,rfl,ho,c.cl,c.n1,h5.nm,_,rfl,n,t,rfl,by omega,ok.t1,_,rfl,_,rfl,_,rfl,p,_,dx,fs,_,rfl,ho,c.cl,T.na_Leaking_loss,hl (by nofun),_,rfl,p,_,dx,fs,_,rfl,ho,c.cl,c.n4,h5.hi,_,rfl,p,_,dx,fs,_,rfl,ho,c.cl,c.n5,h5.co,?_⟩
 exact mkL T (atT_ne (ok.ne (by nofun))) (W.fq (by nofun)) ok.ok (hh.ok ok.hi) fun q H' vc' q' nq ss W' co'=>k q H' nq ss ⟨q,_,_,q',rfl,W',by nofun,co_same co' fc ss,hh.mono ss⟩
theorem turn_Store (T:TX K mg a):MtB P w K mg base CX0 a.Store "at_turn" 7 ["self","turn"] (spTurn a .sto):=by
 refine T.m_Store_at_turn.ok sc_Store_at_turn len_Turn (fun f cdv A outer s₀ H vs Q E hr h=>?_)
 obtain ⟨v,t,⟨n,s,g,kd,x,hi,co⟩,rfl,⟨p,vh,vc,q,rfl,W,⟨qc,rfl,fc⟩,hh⟩,hk,ok,k⟩:=h
 obtain rfl:kd=.sto:=hk
 obtain rfl:s=g:=ok.eq rfl
 refine ⟨_,(pss_cons (ps_set (i:=2) sc_Store_at_turn.nd rfl (Or.inl rfl) (pe_fn (ok_name_at T) hr pass0 (pa_cons (pe_fld (pv 0) rfl) (pa_cons (pv 1) pa_nil))))
   (pss_cons (ps_set (i:=3) sc_Store_at_turn.nd rfl (Or.inl rfl) (pe_fn (ok_name_at T) hr pass0 (pa_cons (pe_fld (pv 0) rfl) (pa_cons (pe_op op_add (pv 1) pe_int) pa_nil))))
   (pss_one (ps_ret (pe_mk (mk_Leaking T) hr T.mg_Leaking pass0 (pa_cons (pe_fn (ok_name_at T) hr pass0 (pa_cons (pe_fld (pv 0) rfl) (pa_cons (pv 1) pa_nil))) (pa_cons (pv 2) (pa_cons (pv 3) (pa_cons (pe_fld (pv 0) rfl) (pa_cons (pe_fld (pv 0) rfl) (pa_cons (pe_fld (pv 0) rfl) pa_nil))))))))))),?_⟩
 try dsimp only [cxOf,Cx.nox,Cx.wish]
 obtain ⟨dx,fs,ho,h5,hl⟩:=W.ob
 have c:=T.wS
 have ln:=ok.ln
 have ls:=ok.ls
 dsimp only at ln ls
 refine ⟨_,rfl,p,_,dx,fs,_,rfl,ho,c.cl,c.n2,h5.st,_,rfl,s,t,rfl,by omega,ok.t1,?_⟩
 refine ⟨_,rfl,p,_,dx,fs,_,rfl,ho,c.cl,c.n3,h5.go,_,rfl,_,_,rfl,rfl,s,t+1,rfl,by omega,ok.t2,?_⟩
 refine ⟨_,rfl,p,_,dx,fs,_,rfl,ho,c.cl,c.n1,h5.nm,_,rfl,n,t,rfl,by omega,ok.t1,_,rfl,_,rfl,_,rfl,p,_,dx,fs,_,rfl,ho,c.cl,T.na_Store_loss,hl (by nofun),_,rfl,p,_,dx,fs,_,rfl,ho,c.cl,c.n4,h5.hi,_,rfl,p,_,dx,fs,_,rfl,ho,c.cl,c.n5,h5.co,?_⟩
 exact mkL T (atT_next ok.t1) (W.fq (by nofun)) ok.ok (hh.ok ok.hi) fun q H' vc' q' nq ss W' co'=>k q H' nq ss ⟨q,_,_,q',rfl,W',by nofun,co_same co' fc ss,hh.mono ss⟩
theorem turn_any (T:TX K mg a) (kd:Kd):MtB P w K mg base CX0 (kd.C a) "at_turn" 7 ["self","turn"] (spTurn a kd):=by
 cases kd
 ·exact turn_Way T
 ·exact turn_Growing T
 ·exact turn_Leaking T
 ·exact turn_Store T
def dueS (pl:List Str):List Str→List (Str × Str)→Option (Nat × Str)
 | _,[]=>none
 | kn,x::r=>if x.1∈kn then some (0,x.1) else if x.2∈pl then dueS pl (kn++[x.1]) r else some (1,x.2)
def dueN (pl:List Str):List Str→Option Str
 | []=>none
 | n::r=>if n∈pl then dueN pl r else some n
def dueW (pl:List Str):List (List Str)→Option Str
 | []=>none
 | r::rs=>match dueN pl r with
  | some n=>some n
  | none=>dueW pl rs
def dueT (pl kn:List Str) (ss:List (Str × Str)) (ws:List (List Str)) (few:Bool):Option (Nat × Str):=match dueS pl kn ss with
 | some x=>some x
 | none=>match dueW pl ws with
  | some n=>some (1,n)
  | none=>if few=true then none else some (2,"")
def FrzOk (H H':Hp):Prop:=Same H H'∨∃ (d:Addr) (o:Obj) (kvs:List (Key × V)),H d=some (.dK kvs)∧H' d=some (.frz o (.dK kvs))∧∀ b u,H b=some u→b≠d→H' b=some u
theorem FrzOk.pre {H0 H H':Hp} (s:Same H0 H) (f:FrzOk H H'):FrzOk H0 H':=by
 rcases f with f | ⟨d,o,kvs,h1,h2,h3⟩
 ·exact .inl (s.trans f)
 ·cases e:H0 d with
  | none=>exact .inl fun b u hb=>h3 b u (s _ _ hb) (fun z=>by rw [z,e] at hb;cases hb)
  | some u=>
   have:=s _ _ e
   rw [h1] at this
   cases this
   exact .inr ⟨d,o,kvs,e,h2,fun b u hb ne=>h3 b u (s _ _ hb) ne⟩
def XDue (a:Ad) (H:Hp) (E:XK) (x:Nat × Str):Prop:=
 (x.1=0→∀ H' dx,FrzOk H H'→H' dx=some (.xd [("name",.str x.2)])→E (.ref a.Twice) (some dx) H')∧
 (x.1=1→∀ H' dx,FrzOk H H'→H' dx=some (.xd [("place",.str x.2)])→E (.ref a.NoPlace) (some dx) H')∧
 (x.1=2→∀ H',FrzOk H H'→E (.ref a.TooMany) none H')
theorem XDue.pre {H0 H:Hp} {E:XK} {x:Nat × Str} (s:Same H0 H) (h:XDue a H0 E x):XDue a H E x:=⟨fun e H' dx f=>h.1 e H' dx (f.pre s),fun e H' dx f=>h.2.1 e H' dx (f.pre s),fun e H' f=>h.2.2 e H' (f.pre s)⟩
def OwnIs (_:Hp) (v:V) (_:Unit):Prop:=v=.bl true
def nmst (ss:List WD):List (Str × Str):=ss.map fun s=>(s.nm,s.st)
inductive IspRSX (K:PySem.W.Frag) (a:Ad) (vs:List V) (H:Hp) (Q:VK) (E:XK):Prop
 | mk (p ls:Addr) (ps:List (Str × Rat)) (ds ss:List WD) (ts:List V) (h1:vs=[.ref p,.ref ls]) (h2:NetAt a H p ps ds) (h3:(ps.map (·.1)).Nodup) (h4:SqL K H ls ts) (h5:RowAt (WayE a) H ts ss) (h6:ss.length≤100) (h7:ds.length≤100) (h8:(ds.map (·.nm)).Nodup) (h9:(∀ x∈ss,x.nm.length≤1000∧x.st.length≤1000)) (h10:(dueS (ps.map (·.1)) (ds.map (·.nm)) (nmst ss)=none→∀ H',Same H H'→Q .non H')) (h11:(∀ x,dueS (ps.map (·.1)) (ds.map (·.nm)) (nmst ss)=some x→XDue a H E x)):IspRSX K a vs H Q E
def spRSX (K:PySem.W.Frag) (a:Ad):Sp:=fun vs H Q E=>IspRSX K a vs H Q E
theorem ok_refuse_storesX (T:TX K mg a):FnB P w K mg base (CX1 P w) "refuse_stores" 4 ["net","stores"] (spRSX K a):=by
 refine T.d_refuse_stores.okX sc_refuse_stores (fun vs H Q E h=>?_) (fun f cdv A outer s H vs Q E hr h=>?_)
 ·obtain ⟨_,_,_,_,_,_,rfl,_⟩:=h
  rfl
 ·obtain ⟨p,ls,ps,ds,ss,ts,rfl,hn,np,hS,hss,l1,l2,nd1,ln,k,kx⟩:=h
  refine ⟨_,(pss_cons (ps_set (i:=2) sc_refuse_stores.nd rfl (Or.inl rfl) pe_dnewK)
   (pss_cut (ps_for owns1 rfl (pi_list (pe_mtD0 (CX:=CX0) (pv 0) hr pass0)) (pg_name (i:=3) sc_refuse_stores.nd rfl (Or.inl rfl)) (pss_one (ps_dput (hu_of hr) (pv 2) (pe_fld (pv 3) rfl) pe_bl rfl)))
   (pss_one (ps_for owns1 rfl (pi_list (pv 1)) (pg_name (i:=4) sc_refuse_stores.nd rfl (Or.inl rfl)) (pss_cons (ps_if (pt_cmp (pc_din (hu_of hr) (pe_fld (pv 4) rfl) (pv 2))) (pss_one (ps_raiseI xout1 rfl hr (by rfl) T.mg_Twice (xi_Twice T) (pa_cons (pe_fld (pv 4) rfl) pa_nil))) pss_nil)
   (pss_cons (ps_expr (pe_mtD (CX:=CX1 P w) (pv 0) hr pass1 (pa_cons (pe_fld (pv 4) rfl) pa_nil)))
   (pss_one (ps_dput (hu_of hr) (pv 2) (pe_fld (pv 4) rfl) pe_bl rfl)))))))),?_⟩
  try dsimp only [cxOf,Cx.nox,Cx.wish]
  obtain ⟨dx,dw,dy,hp,hw,hy⟩:=id hn
  have noa:=fsN_no dw dy (m:="all_ways") (by decide +kernel) (by decide +kernel)
  have noc:=fsN_no dw dy (m:="want") (by decide +kernel) (by decide +kernel)
  intro d nd0
  have s1:=same_upd (o:=.dK []) nd0
  have hd0:upd H d (.dK []) d=some (.dK []):=upd_same
  generalize upd H d (.dK [])=H1 at s1 hd0 ⊢
  refine ⟨fun σ' H'=>∃ z3 kvs,σ'=[some (.ref p),some (.ref ls),some (.ref d),z3,none]∧Same H H'∧H' d=some (.dK kvs)∧Tab OwnIs H' kvs (ds.map (·.nm)) (fun _=>()),?_,?_⟩
  ·refine ⟨_,rfl,p,a.Net,dx,_,1,["self"],spNAll a,rfl,s1 _ _ hp,noa,T.cl_Net,by decide,ok_Net_all_ways T,p,ps,ds,rfl,hn.mono s1,fun lw H2 tw nlw s2 hlw hvw=>?_⟩
   have n2:lw≠d:=fun z=>by rw [z,hd0] at nlw;cases nlw
   refine ⟨lw,rfl,⟨_,SqL.of hlw⟩,for_list (K:=K) (a:=lw) (xs:=tw) (fun i σ H3=>i≤ds.length∧∃ z3 kvs,σ=[some (.ref p),some (.ref ls),some (.ref d),z3,none]∧Same H H3∧H3 lw=some (.lst tw)∧RowAt (WayE a) H3 tw ds∧H3 d=some (.dK kvs)∧Tab OwnIs H3 kvs ((ds.map (·.nm)).take i) (fun _=>())) ⟨Nat.zero_le _,_,[],rfl,s1.trans s2,hlw,⟨hvw.1,fun i u x e1 e2=>.of (hvw.2 i u x e1 e2)⟩,s2 _ _ hd0,Tab.nil⟩ (fun i σ H3 _ ⟨_,_,_,_,_,h,_⟩=>SqL.of h) ?_ ?_⟩
   ·rintro i x σ H3 hx ⟨_,z3,kvs,rfl,s3,hlw3,hr3,hd3,tb⟩
    obtain ⟨y,ey,p1,vh,vc,q,rfl,W,hc,hh⟩:=hr3.get hx
    have hi:=(List.getElem?_eq_some_iff.mp ey).1
    obtain ⟨dx1,fs1,ho1,h51,_⟩:=id W.ob
    have c1:=cls_any T y.kd
    have en:(ds.map (·.nm))[i]?=some y.nm:=by rw [List.getElem?_map,ey];rfl
    obtain ⟨tk,nk⟩:=take_next nd1 en
    have lk:kvs.length≤900:=by rw [tb.len,List.length_take,List.length_map];omega
    refine ⟨_,rfl,_,rfl,p1,_,dx1,fs1,_,rfl,ho1,c1.cl,c1.n1,h51.nm,d,_,rfl,DPut.k (k:=Sum.inr y.nm) hd3 (small1000 (by omega)),?_⟩
    have stay:Stays a H3 (upd H3 d (.dK (putK kvs (Sum.inr y.nm) (.bl true)))):=.put hd3 (fun _ _ _ z=>by cases z)
    refine ⟨hi,_,_,rfl,same_put nd0 s3,by rw [upd_ne n2];exact hlw3,hr3.mono (fun v x z=>z.keep stay),upd_same,?_⟩
    rw [tk,← addK_new nk]
    exact (Tab.put (H:=upd H3 d (.dK (putK kvs (Sum.inr y.nm) (.bl true)))) (n:=y.nm) (y:=()) (tb.mono fun v x z=>z) rfl).congr fun _ _=>rfl
   ·rintro σ H3 ⟨_,z3,kvs,rfl,s3,_,_,hd3,tb⟩
    rw [hvw.1,show ds.length=(ds.map (·.nm)).length by rw [List.length_map],List.take_length] at tb
    exact ⟨_,kvs,rfl,s3,hd3,tb⟩
  rintro σ' H2 ⟨z3,kvs,rfl,s2,hd2,tb2⟩
  refine ⟨_,rfl,ls,rfl,⟨_,s2.seq hS⟩,for_list (K:=K) (a:=ls) (xs:=ts) (fun i σ H3=>i≤ss.length∧∃ z4 kvs,σ=[some (.ref p),some (.ref ls),some (.ref d),z3,z4]∧Same H H3∧H3 d=some (.dK kvs)∧Tab OwnIs H3 kvs (ds.map (·.nm)++(ss.map (·.nm)).take i) (fun _=>())∧dueS (ps.map (·.1)) (ds.map (·.nm)) (nmst ss)=dueS (ps.map (·.1)) (ds.map (·.nm)++(ss.map (·.nm)).take i) (nmst (ss.drop i))) ⟨Nat.zero_le _,_,kvs,rfl,s2,hd2,by rw [List.take_zero,List.append_nil];exact tb2,by rw [List.take_zero,List.append_nil,List.drop_zero]⟩ (fun i σ H3 _ ⟨_,_,_,_,s3,_⟩=>s3.seq hS) ?_ ?_⟩
  ·rintro i x σ H3 hx ⟨_,z4,kvs,rfl,s3,hd3,tb,ed⟩
   obtain ⟨y,ey,hy⟩:=hss.get hx
   have hi:=(List.getElem?_eq_some_iff.mp ey).1
   obtain ⟨p1,vh,vc,q,rfl,W,hc,hh⟩:=hy.mono s3
   obtain ⟨dx1,fs1,ho1,h51,_⟩:=id W.ob
   have c1:=cls_any T y.kd
   obtain ⟨ln1,ln2⟩:=ln y (List.mem_of_getElem? ey)
   have tk:(ss.map (·.nm)).take (i+1)=(ss.map (·.nm)).take i++[y.nm]:=by rw [List.take_add_one,List.getElem?_map,ey];rfl
   have dr:ss.drop i=y::ss.drop (i+1):=by
    rw [List.drop_eq_getElem_cons hi]
    congr 1
    exact (List.getElem?_eq_some_iff.mp ey).2
   have ed2:dueS (ps.map (·.1)) (ds.map (·.nm)) (nmst ss)=if y.nm∈ds.map (·.nm)++(ss.map (·.nm)).take i then some (0,y.nm) else if y.st∈ps.map (·.1) then dueS (ps.map (·.1)) (ds.map (·.nm)++(ss.map (·.nm)).take i++[y.nm]) (nmst (ss.drop (i+1))) else some (1,y.st):=by rw [ed,dr];rfl
   have lk:kvs.length≤900:=by rw [tb.len,List.length_append,List.length_take,List.length_map,List.length_map];omega
   refine ⟨_,rfl,p1,_,dx1,fs1,_,rfl,ho1,c1.cl,c1.n1,h51.nm,_,rfl,d,_,rfl,DGet.k (k:=Sum.inr y.nm) hd3,_,rfl,?_⟩
   by_cases hin:y.nm∈ds.map (·.nm)++(ss.map (·.nm)).take i
   ·obtain ⟨v,ev,_⟩:=tb.vals _ hin
    rw [ev]
    refine iteT ?_
    rw [if_pos hin] at ed2
    refine ⟨_,rfl,p1,_,dx1,fs1,_,rfl,ho1,c1.cl,c1.n1,h51.nm,?_⟩
    exact raise_tw ln1 fun H' dx' s' hx'=>(kx _ ed2).1 rfl H' dx' (.inl (s3.trans s')) hx'
   ·rw [tb.none hin]
    refine iteF ?_
    rw [if_neg hin] at ed2
    by_cases hp2:y.st∈ps.map (·.1)
    ·rw [if_pos hp2] at ed2
     obtain ⟨j,hj⟩:=List.mem_iff_getElem?.mp hp2
     rw [List.getElem?_map] at hj
     cases ez:ps[j]? with
     | none=>rw [ez] at hj;cases hj
     | some z=>
      rw [ez] at hj
      have e1:z.1=y.st:=Option.some.inj hj
      refine ⟨_,rfl,p,a.Net,dx,_,1,["self","place"],spNWant a,rfl,s3 _ _ hp,noc,T.cl_Net,by decide,(ok_Net_want T).up,_,rfl,p1,_,dx1,fs1,_,rfl,ho1,c1.cl,c1.n2,h51.st,p,ps,ds,j,y.st,z.2,rfl,hn.mono s3,np,by rw [ez,← e1],fun qw fw=>?_⟩
      refine ⟨_,rfl,_,rfl,p1,_,dx1,fs1,_,rfl,ho1,c1.cl,c1.n1,h51.nm,d,_,rfl,DPut.k (k:=Sum.inr y.nm) hd3 (small1000 (by omega)),?_⟩
      refine ⟨hi,_,_,rfl,same_put nd0 s3,upd_same,?_,by rw [ed2,tk,List.append_assoc]⟩
      rw [tk,← List.append_assoc,← addK_new hin]
      exact (Tab.put (H:=upd H3 d (.dK (putK kvs (Sum.inr y.nm) (.bl true)))) (n:=y.nm) (y:=()) (tb.mono fun v x z=>z) rfl).congr fun _ _=>rfl
    ·rw [if_neg hp2] at ed2
     exact ⟨_,rfl,p,a.Net,dx,_,3,["self","place"],spNWantX a,rfl,s3 _ _ hp,noc,T.cl_Net,by decide,ok_Net_wantX T,_,rfl,p1,_,dx1,fs1,_,rfl,ho1,c1.cl,c1.n2,h51.st,p,ps,ds,y.st,rfl,hn.mono s3,hp2,ln2,fun H' dx' s' hx'=>(kx _ ed2).2.1 rfl H' dx' (.inl (s3.trans s')) hx'⟩
  ·rintro σ H3 ⟨_,z4,kvs,rfl,s3,hd3,tb,ed⟩
   rw [hss.1,List.drop_length] at ed
   exact k ed H3 s3
abbrev WRow:=List Str × (Str→Rat)
def DctIs (a:Ad) (H:Hp) (v:V) (r:WRow):Prop:=∃ d kvs,v=.ref d∧H d=some (.dK kvs)∧Tab (FrIs a) H kvs r.1 r.2∧r.1.Nodup
theorem DctIs.mono {H H':Hp} {v:V} {r:WRow} (h:DctIs a H v r) (s:Same H H'):DctIs a H' v r:=let ⟨d,kvs,e,f,t,n⟩:=h;⟨d,kvs,e,s _ _ f,t.mono fun _ _ z=>FrIs.mono z s,n⟩
def NetAp (a:Ad) (H:Hp) (p d:Addr) (ps:List (Str × Rat)) (ds:List WD):Prop:=∃ dx dw dy,H p=some (.ins a.Net dx (fsN dw dy))∧WantsAt a H dw ps∧WaysAt a H dy ds∧dw≠d∧dy≠d
theorem NetAp.mono {H H':Hp} {p d:Addr} {ps:List (Str × Rat)} {ds:List WD} (h:NetAp a H p d ps ds) (s:Same H H'):NetAp a H' p d ps ds:=let ⟨dx,dw,dy,h1,h2,h3,n⟩:=h;⟨dx,dw,dy,s _ _ h1,h2.mono s,h3.mono s,n⟩
theorem NetAp.but {H H':Hp} {p d:Addr} {o:HO} {ps:List (Str × Rat)} {ds:List WD} (h:NetAp a H p d ps ds) (hd:H d=some o) (no:∀ C dx fs,o≠.ins C dx fs) (k:∀ b u,H b=some u→b≠d→H' b=some u):NetAt a H' p ps ds:=by
 obtain ⟨dx,dw,dy,h1,⟨kw,w1,w2,w3⟩,⟨ky,y1,y2,y3⟩,n1,n2⟩:=h
 have st:Stays a H H':=fun b C dx fs _ e=>k _ _ e fun z=>by rw [z,hd] at e;exact no _ _ _ (Option.some.inj e)
 refine ⟨dx,dw,dy,k _ _ h1 (fun z=>by rw [z,hd] at h1;exact no _ _ _ (Option.some.inj h1)),⟨kw,k _ _ w1 n1,w2,w3.mono fun v x ⟨q,e,f⟩=>⟨q,e,st.fr f⟩⟩,⟨ky,k _ _ y1 n2,y2,y3.mono fun v x z=>z.keep st⟩⟩
theorem dueN_drop {pl xs:List Str} {j:Nat} {n:Str} (e:xs[j]?=some n):dueN pl (xs.drop j)=if n∈pl then dueN pl (xs.drop (j+1)) else some n:=by
 have hj:=(List.getElem?_eq_some_iff.mp e).1
 rw [List.drop_eq_getElem_cons hj,(List.getElem?_eq_some_iff.mp e).2]
 rfl
inductive IspRWX (K:PySem.W.Frag) (a:Ad) (vs:List V) (H:Hp) (Q:VK) (E:XK):Prop
 | mk (p lw:Addr) (ps:List (Str × Rat)) (ds:List WD) (ws:List WRow) (tw:List V) (h1:vs=[.ref p,.ref lw]) (h2:(ps.map (·.1)).Nodup) (h3:SqL K H lw tw) (h4:RowAt (DctIs a) H tw ws) (h5:(∀ d,V.ref d∈tw→NetAp a H p d ps ds)) (h6:(∀ r∈ws,∀ n∈r.1,n.length≤1000)) (h7:(dueW (ps.map (·.1)) (ws.map (·.1))=none→∀ H',Same H H'→Q .non H')) (h8:(∀ n,dueW (ps.map (·.1)) (ws.map (·.1))=some n→XDue a H E (1,n))):IspRWX K a vs H Q E
def spRWX (K:PySem.W.Frag) (a:Ad):Sp:=fun vs H Q E=>IspRWX K a vs H Q E
theorem ok_refuse_wantsX (T:TX K mg a):FnB P w K mg base (CX1 P w) "refuse_wants" 4 ["net","wants"] (spRWX K a):=by
 refine T.d_refuse_wants.okX sc_refuse_wants (fun vs H Q E h=>?_) (fun f cdv A outer s H vs Q E hr h=>?_)
 ·obtain ⟨_,_,_,_,_,_,rfl,_⟩:=h
  rfl
 ·obtain ⟨p,lw,ps,ds,ws,tw,rfl,np,hW,hws,ap,lnn,k,kx⟩:=h
  refine ⟨_,(pss_one (ps_for owns1 rfl (pi_list (pv 1)) (pg_name (i:=2) sc_refuse_wants.nd rfl (Or.inl rfl)) (pss_one (ps_thaw (ps_for owns1 rfl (pi_dict (pv 2)) (pg_name (i:=3) sc_refuse_wants.nd rfl (Or.inl rfl)) (pss_one (ps_expr (pe_mtD (CX:=CX1 P w) (pv 0) hr pass1 (pa_cons (pv 3) pa_nil))))))))),?_⟩
  try dsimp only [cxOf,Cx.nox,Cx.wish]
  refine ⟨_,rfl,lw,rfl,⟨_,hW⟩,for_list (K:=K) (a:=lw) (xs:=tw) (fun i σ H2=>∃ z2 z3,σ=[some (.ref p),some (.ref lw),z2,z3]∧Same H H2∧dueW (ps.map (·.1)) (ws.map (·.1))=dueW (ps.map (·.1)) ((ws.drop i).map (·.1))) ⟨_,_,rfl,Same.refl _,by rw [List.drop_zero]⟩ (fun i σ H2 _ ⟨_,_,_,s2,_⟩=>s2.seq hW) ?_ ?_⟩
  ·rintro i x σ H2 hx ⟨z2,z3,rfl,s2,ed⟩
   obtain ⟨r,er,hr0⟩:=hws.get hx
   have hi:=(List.getElem?_eq_some_iff.mp er).1
   have dr:ws.drop i=r::ws.drop (i+1):=by
    rw [List.drop_eq_getElem_cons hi]
    congr 1
    exact (List.getElem?_eq_some_iff.mp er).2
   rw [dr] at ed
   obtain ⟨d,kvs,rfl,hd,tb,nk⟩:=hr0.mono s2
   have apd:=(ap d (List.mem_of_getElem? hx)).mono s2
   refine ⟨d,.dK kvs,hd,(by intro o z e;cases e),_,rfl,d,kvs,rfl,hd,fun o=>?_⟩
   refine for_dict (a:=d) (o:=o) (kvs:=kvs) (fun j σ H3=>∃ z3,σ=[some (.ref p),some (.ref lw),some (.ref d),z3]∧H3 d=some (.frz o (.dK kvs))∧(∀ b ob,H2 b=some ob→b≠d→H3 b=some ob)∧dueN (ps.map (·.1)) r.1=dueN (ps.map (·.1)) (r.1.drop j))
    ⟨_,rfl,upd_same,(fun b ob e ne=>by rw [upd_ne ne];exact e),by rw [List.drop_zero]⟩ (fun j σ H3 _ ⟨_,_,h,_⟩=>h) ?_ ?_
   ·rintro j kv σ H3 hkv ⟨z3',rfl,hf,k3,en⟩
    obtain ⟨n,e0,e1,ev,_⟩:=tb.at_ nk hkv
    have ekv:kV kv.1=.str n:=by rw [e1];rfl
    rw [ekv]
    have hn3:=apd.but hd (by intro _ _ _ z;cases z) k3
    obtain ⟨dx,dw,dy,hp,_⟩:=id hn3
    have noc:=fsN_no dw dy (m:="want") (by decide +kernel) (by decide +kernel)
    rw [dueN_drop e0] at en
    by_cases hin:n∈ps.map (·.1)
    ·rw [if_pos hin] at en
     obtain ⟨m,hm⟩:=List.mem_iff_getElem?.mp hin
     rw [List.getElem?_map] at hm
     cases ez:ps[m]? with
     | none=>rw [ez] at hm;cases hm
     | some z=>
      rw [ez] at hm
      have e2:z.1=n:=Option.some.inj hm
      exact ⟨_,rfl,p,a.Net,dx,_,1,["self","place"],spNWant a,rfl,hp,noc,T.cl_Net,by decide,(ok_Net_want T).up,_,rfl,p,ps,ds,m,n,z.2,rfl,hn3,np,by rw [ez,← e2],fun qw fw=>⟨_,rfl,hf,k3,en⟩⟩
    ·rw [if_neg hin] at en
     have ed2:dueW (ps.map (·.1)) (ws.map (·.1))=some n:=by
      rw [ed]
      show (match dueN (ps.map (·.1)) r.1 with | some n=>some n | none=>_)=_
      rw [en]
     exact ⟨_,rfl,p,a.Net,dx,_,3,["self","place"],spNWantX a,rfl,hp,noc,T.cl_Net,by decide,ok_Net_wantX T,_,rfl,p,ps,ds,n,rfl,hn3,hin,lnn r (List.mem_of_getElem? er) n (List.mem_of_getElem? e0),fun H' dx' s' hx'=>(kx n ed2).2.1 rfl H' dx' (FrzOk.pre s2 (.inr ⟨d,o,kvs,hd,s' _ _ hf,fun b u e ne=>s' _ _ (k3 b u e ne)⟩)) hx'⟩
   ·rintro σ H3 ⟨z3',rfl,hf,k3,en⟩
    rw [tb.len,List.drop_length] at en
    refine ⟨o,hf,_,_,rfl,s2.trans fun b ob e=>?_,?_⟩
    ·by_cases hb:b=d
     ·subst hb
      rw [upd_same,← hd,e]
     ·rw [upd_ne hb]
      exact k3 _ _ e hb
    ·rw [ed]
     show (match dueN (ps.map (·.1)) r.1 with | some n=>some n | none=>_)=_
     rw [en]
     rfl
  ·rintro σ H2 ⟨z2,z3,rfl,s2,ed⟩
   rw [hws.1,List.drop_length] at ed
   exact k ed H2 s2
def wantF (r:WRow) (z:Str × Rat):Rat:=if z.1∈r.1 then r.2 z.1 else z.2
def placeF (t:Int) (r:WRow) (z:Str × Rat):Str × Rat:=(atT z.1 t,wantF r z)
inductive IspPlA (a:Ad) (vs:List V) (H:Hp) (Q:VK):Prop
 | mk (p d:Addr) (t:Int) (ps:List (Str × Rat)) (ds:List WD) (r:WRow) (h1:vs=[.ref p,.ref d,.int t]) (h2:NetAt a H p ps ds) (h3:(ps.map (·.1)).Nodup) (h4:DctIs a H (.ref d) r) (h5:ps.length≤100) (h6:(∀ z∈ps,z.1.length≤700)) (h7:Tn t) (h8:∀ l H' ts,H l=none→Same H H'→H' l=some (.lst ts)→RowAt (PlIs a) H' ts (ps.map (placeF t r))→Q (.ref l) H'):IspPlA a vs H Q
def spPlA (a:Ad):Sp:=fun vs H Q _=>IspPlA a vs H Q
theorem ok_places_at (T:TX K mg a):FnB P w K mg base CX0 "places_at" 3 ["net","own_wants","turn"] (spPlA a):=by
 refine T.d_places_at.ok sc_places_at (fun vs H Q E h=>?_) (fun f cdv A outer s H vs Q E hr h=>?_)
 ·obtain ⟨_,_,_,_,_,_,rfl,_⟩:=h
  rfl
 ·obtain ⟨p,d,t,ps,ds,r,rfl,hn,np,hr0,l100,ln,ht,k⟩:=h
  refine ⟨_,(pss_one (ps_ret (pe_compG (xs:=["place"]) (rest:=["net","own_wants","turn"]) rfl (pi_list (pe_mtD0 (CX:=CX0) (pv 0) hr pass0))
   (fun pins fp C' s' H'=>(pg_name (i:=0) (show (["place","net","own_wants","turn"]:List Str).Nodup by decide +kernel) rfl (Or.inl rfl))) (fun pins fp C' s' H'=>pts_nil)
   (fun pins fp C' s' H'=>(pe_tup (pa_cons (pe_fn (ok_name_at T) hr pass0 (pa_cons (pv 0) (pa_cons (pv 3) pa_nil))) (pa_cons (pe_dget2 (hu_of hr) (pv 2) (pv 0) (pe_mtDK (CX:=CX0) (P:=P) (w:=w) (K:=K) (mg:=mg) (base:=base) rfl rfl rfl rfl rfl (pv 1) hr pass0 (pa_cons (pv 0) pa_nil)) ⟨rfl,rfl,rfl,rfl⟩) pa_nil))))
   (Clos.many (ys:=["turn","own_wants","net"]) rfl ⟨rfl,rfl,rfl,True.intro⟩ rfl (by decide +kernel)) (Reads.many (ys:=["net","own_wants","turn"]) (js:=[0,1,2]) ⟨⟨rfl,rfl,rfl⟩,⟨rfl,rfl,rfl⟩,⟨rfl,rfl,rfl⟩,True.intro⟩)))),?_⟩
  try dsimp only [cxOf,Cx.nox,Cx.wish]
  obtain ⟨d',kvs,e,hd,tb,nk⟩:=hr0
  cases e
  obtain ⟨dx,dw,dy,hp,hw,hy⟩:=id hn
  have nob:=fsN_no dw dy (m:="names") (by decide +kernel) (by decide +kernel)
  have noc:=fsN_no dw dy (m:="want") (by decide +kernel) (by decide +kernel)
  refine ⟨_,rfl,p,a.Net,dx,_,1,["self"],spNNames a,rfl,hp,nob,T.cl_Net,by decide,ok_Net_names T,p,ps,ds,rfl,hn,fun ln' nln=>?_⟩
  have s1:=same_upd (o:=.lst (ps.map fun x=>V.str x.1)) nln
  have hln:upd H ln' (.lst (ps.map fun x=>V.str x.1)) ln'=some (.lst (ps.map fun x=>V.str x.1)):=upd_same
  generalize upd H ln' (.lst (ps.map fun x=>V.str x.1))=H1 at s1 hln ⊢
  refine ⟨ln',rfl,⟨_,SqL.of hln⟩,fun l nl=>?_⟩
  refine compG_list (K:=K) (a:=ln') (xs:=ps.map fun x=>V.str x.1) (fun i H2=>i≤ps.length∧Same H1 H2∧∃ ts,H2 l=some (.lst ts)∧RowAt (PlIs a) H2 ts ((ps.take i).map (placeF t r))) ⟨Nat.zero_le _,same_upd nl,[],upd_same,RowAt.nil⟩ (fun i H2 ⟨_,s2,_⟩=>SqL.of (s2 _ _ hln)) ?_ ?_
  ·rintro i x H2 hx ⟨_,s2,ts,h2,hv⟩
   rw [List.getElem?_map] at hx
   cases ez:ps[i]? with
   | none=>rw [ez] at hx;cases hx
   | some z=>
    rw [ez] at hx
    cases hx
    have hi:i<ps.length:=(List.getElem?_eq_some_iff.mp ez).1
    have s12:=s1.trans s2
    have hd2:=s12 _ _ hd
    have lts:ts.length≤100:=by rw [hv.1,List.length_map,List.length_take];omega
    have lz:=ln z (List.mem_of_getElem? ez)
    refine g1 ⟨⟨[_],rfl,rfl⟩,yes ?_⟩
    refine ⟨_,rfl,_,rfl,z.1,t,rfl,by omega,ht,_,rfl,d,rfl,.inl ⟨kvs,.inl hd2⟩,_,rfl,?_⟩
    refine ⟨_,rfl,p,a.Net,dx,_,1,["self","place"],spNWant a,rfl,s12 _ _ hp,noc,T.cl_Net,by decide,ok_Net_want T,_,rfl,p,ps,ds,i,z.1,z.2,rfl,hn.mono s12,np,ez,fun qw fw=>?_⟩
    obtain ⟨y,ey,fy⟩:∃ y,(valV kvs (Sum.inr z.1)).getD (.ref qw)=.ref y∧FrAt a.Fraction H2 y (wantF r z):=by
     unfold wantF
     by_cases hz:z.1∈r.1
     ·obtain ⟨v,ev,q,rfl,fq⟩:=tb.vals z.1 hz
      rw [ev,if_pos hz]
      exact ⟨q,rfl,fq.mono s12⟩
     ·rw [tb.none hz,if_neg hz]
      exact ⟨qw,rfl,fw⟩
    refine ⟨valV kvs (Sum.inr z.1),.inl ⟨kvs,Sum.inr z.1,.inl hd2,rfl,rfl⟩,?_⟩
    rw [ey]
    refine ⟨by show 2≤sizeLine;decide,fun t2 nt2=>?_⟩
    have s3:=same_upd (o:=.tup [.str (atT z.1 t),.ref y]) nt2
    have ht2:upd H2 t2 (.tup [.str (atT z.1 t),.ref y]) t2=some (.tup [.str (atT z.1 t),.ref y]):=upd_same
    generalize upd H2 t2 (.tup [.str (atT z.1 t),.ref y])=H3 at s3 ht2 ⊢
    have h3:=s3 _ _ h2
    refine ⟨_,h3,small1000 (by omega),nextP (by rw [List.length_map];exact hi) ⟨hi,same_put nl (s2.trans s3),_,upd_same,?_⟩⟩
    rw [List.take_add_one,ez,Option.toList_some,List.map_append]
    exact RowAt.snoc (hv.mono fun v x z=>(z.mono s3).ko (.lst h3)) (PlIs.ko ⟨t2,y,rfl,ht2,fy.mono s3⟩ (.lst h3))
  ·rintro H2 ⟨_,s2,ts,h2,hv⟩
   rw [List.length_map,List.take_length] at hv
   exact k l H2 ts (s1.free nl) (s1.trans s2) h2 hv
def psN (ps:List (Str × Rat)) (ws:List WRow):Nat→List (Str × Rat)
 | 0=>[]
 | i+1=>psN ps ws i++ps.map (placeF ((i+1:Nat):Int) (ws.getD i ([],fun _=>0)))
def dsN (ds ss:List WD) (n:Nat):Nat→List WD
 | 0=>[]
 | i+1=>dsN ds ss n i++ds.map (atD ((i+1:Nat):Int))++(if i+1<n then ss.map (atD ((i+1:Nat):Int)) else [])
theorem psN_len (ps:List (Str × Rat)) (ws:List WRow):∀ i,(psN ps ws i).length=i*ps.length
 | 0=>by rw [Nat.zero_mul];rfl
 | i+1=>by
  show (psN ps ws i++_).length=_
  rw [List.length_append,psN_len ps ws i,List.length_map,Nat.succ_mul]
theorem dsN_len (ds ss:List WD) (n:Nat):∀ i,(dsN ds ss n i).length≤i*(ds.length+ss.length)
 | 0=>Nat.zero_le _
 | i+1=>by
  have ih:=dsN_len ds ss n i
  show (dsN ds ss n i++_++_).length≤_
  rw [List.length_append,List.length_append,List.length_map,Nat.succ_mul]
  have:(if i+1<n then ss.map (atD ((i+1:Nat):Int)) else []).length≤ss.length:=by
   split
   ·rw [List.length_map];exact Nat.le_refl _
   ·exact Nat.zero_le _
  omega
theorem tn_nat {t:Nat} (h:t≤1000):Tn (t:Int):=⟨by omega,by
 have:(1000:Nat)<2 ^ 200:=by decide
 omega⟩
structure TuI0 (K:PySem.W.Frag) (a:Ad) (H:Hp) (p ls lw:Addr) (ps:List (Str × Rat)) (ds ss:List WD) (ws:List WRow) (ts tw:List V):Prop where
 net:NetAt a H p ps ds
 np:(ps.map (·.1)).Nodup
 hs:SqL K H ls ts
 rs:RowAt (WayE a) H ts ss
 hw:SqL K H lw tw
 rw:RowAt (DctIs a) H tw ws
 ap:∀ d,V.ref d∈tw→NetAp a H p d ps ds
 lp:ps.length≤12
 ld:ds.length≤12
 lss:ss.length≤12
 lws:ws.length≤30
 ln:∀ z∈ps,z.1.length≤700
 ndd:(ds.map (·.nm)).Nodup
 l1:∀ x∈ss,x.nm.length≤1000∧x.st.length≤1000
 l2:∀ r∈ws,∀ n∈r.1,n.length≤1000
 td:∀ x∈ds,∀ t:Nat,t≤31→TrnOk x (t:Int)
 ts':∀ x∈ss,∀ t:Nat,t≤31→TrnOk x (t:Int)
theorem TuI0.mono {H H':Hp} {p ls lw:Addr} {ps:List (Str × Rat)} {ds ss:List WD} {ws:List WRow} {ts tw:List V} (h:TuI0 K a H p ls lw ps ds ss ws ts tw) (s:Same H H'):TuI0 K a H' p ls lw ps ds ss ws ts tw:=⟨h.net.mono s,h.np,s.seq h.hs,h.rs.mono fun _ _ z=>z.mono s,s.seq h.hw,h.rw.mono fun _ _ z=>z.mono s,fun d hd=>(h.ap d hd).mono s,h.lp,h.ld,h.lss,h.lws,h.ln,h.ndd,h.l1,h.l2,h.td,h.ts'⟩
def fewN (ps:List (Str × Rat)) (ds ss:List WD) (ws:List WRow):Bool:=decide ((psN ps ws ws.length).length≤12∧(dsN ds ss ws.length ws.length).length≤24)
def dueN' (ps:List (Str × Rat)) (ds ss:List WD) (ws:List WRow):Option (Nat × Str):=dueT (ps.map (·.1)) (ds.map (·.nm)) (nmst ss) (ws.map (·.1)) (fewN ps ds ss ws)
inductive IspNetTM (K:PySem.W.Frag) (a:Ad) (vs:List V) (H:Hp) (E:XK):Prop
 | mk (p lp lw:Addr) (tp tw:List V) (h1:vs=[.ref p,.ref lp,.ref lw]) (h2:SqL K H lp tp) (h3:SqL K H lw tw) (h4:¬ (tp.length≤12∧tw.length≤24)) (h5:∀ H',Same H H'→E (.ref a.TooMany) none H'):IspNetTM K a vs H E
def spNetTM (K:PySem.W.Frag) (a:Ad):Sp:=fun vs H _ E=>IspNetTM K a vs H E
theorem mk_NetX (T:TX K mg a):MkB P w K mg base (CX1 P w) a.Net 6 ["self","places","ways"] [] (spNetTM K a):=by
 refine T.i_Net.okX sc_Net_init (fun vs H Q E h=>?_) (fun f cdv A outer s H vs Q E hr h=>?_) _ (by simp)
 ·obtain ⟨_,_,_,_,_,rfl,_⟩:=h
  rfl
 ·obtain ⟨p,lp,lw,tp,tw,rfl,hS,hL,nf,k⟩:=h
  refine ⟨_,(pss_cons (ps_if (PW.pt (pw_or (pt_cmpR op_gt (pe_callB call_lenK (by rfl) T.z_len PySem.boot_len (pa_cons (pv 1) pa_nil)) (pe_gi T.gi_MOST_PLACES) (nomark _)) (pw_or1 (pt_cmpR op_gt (pe_callB call_lenK (by rfl) T.z_len PySem.boot_len (pa_cons (pv 2) pa_nil)) (pe_gi T.gi_MOST_WAYS) (nomark _))))) (pss_one (ps_raise xout1 rfl hr.hd (by rfl) T.mg_TooMany T.ex_TooMany (pa_cons pe_str pa_nil))) pss_nil)
   (pss_cons (ps_fld (pv 0) (pe_fn (ok_wants_by_name T) hr pass0 (pa_cons (pv 1) pa_nil)) rfl)
   (pss_one (ps_fld (pv 0) (pe_fn (ok_ways_by_name T) hr pass0 (pa_cons (pv 2) (pa_cons (pe_fld (pv 0) rfl) pa_nil))) rfl)))),?_⟩
  try dsimp only [cxOf,Cx.nox,Cx.wish]
  refine ⟨_,rfl,lp,tp,rfl,.inl hS,_,_,rfl,rfl,_,rfl,?_⟩
  by_cases c1:tp.length≤12
  case neg=>exact iteC (decide_eq_true (by omega)) (iteC rfl ⟨by decide,k _ (fun _ _ e=>e)⟩)
  refine iteD (decide_eq_false (by omega)) ?_
  exact ⟨_,rfl,lw,tw,rfl,.inl hL,_,_,rfl,rfl,_,rfl,iteC (decide_eq_true (by omega)) ⟨by decide,k _ (fun _ _ e=>e)⟩⟩
inductive IspTurnedX (K:PySem.W.Frag) (a:Ad) (vs:List V) (H:Hp) (Q:VK) (E:XK):Prop
 | mk (p ls lw:Addr) (ps:List (Str × Rat)) (ds ss:List WD) (ws:List WRow) (ts tw:List V) (h1:vs=[.ref p,.ref ls,.ref lw]) (h2:TuI0 K a H p ls lw ps ds ss ws ts tw) (h3:(dueN' ps ds ss ws=none→NetOk (psN ps ws ws.length) (dsN ds ss ws.length ws.length))) (h4:(dueN' ps ds ss ws=none→∀ q H',H q=none→Same H H'→NetNew a H H' q (psN ps ws ws.length) (dsN ds ss ws.length ws.length)→Q (.ref q) H')) (h5:(∀ x,dueN' ps ds ss ws=some x→XDue a H E x)):IspTurnedX K a vs H Q E
def spTurnedX (K:PySem.W.Frag) (a:Ad):Sp:=fun vs H Q E=>IspTurnedX K a vs H Q E
theorem ok_turnedX (T:TX K mg a):FnB P w K mg base (CX1 P w) "turned" 9 ["net","stores","wants"] (spTurnedX K a):=by
 refine T.d_turned.okX sc_turned (fun vs H Q E h=>?_) (fun f cdv A outer s H vs Q E hr h=>?_)
 ·obtain ⟨_,_,_,_,_,_,_,_,_,rfl,_⟩:=h
  rfl
 ·obtain ⟨p,ls,lw,ps,ds,ss,ws,ts,tw,rfl,D,ok,k,kx⟩:=h
  refine ⟨_,(pss_cons (ps_expr (pe_fn (ok_refuse_storesX T) hr pass1 (pa_cons (pv 0) (pa_cons (pv 1) pa_nil))))
   (pss_cons (ps_expr (pe_fn (ok_refuse_wantsX T) hr pass1 (pa_cons (pv 0) (pa_cons (pv 2) pa_nil))))
   (pss_cons (ps_set (i:=3) sc_turned.nd rfl (Or.inl rfl) (pe_lst pa_nil))
   (pss_cons (ps_set (i:=4) sc_turned.nd rfl (Or.inl rfl) (pe_lst pa_nil))
   (pss_cut (ps_for owns1 rfl (pi_enum1 (by rfl) T.z_enumerate (pa_cons (pv 2) pa_nil)) (pg_tup (n:=2) rfl (pgs_cons (pg_name (i:=5) sc_turned.nd rfl (Or.inr rfl)) (pgs_cons (pg_name (i:=6) sc_turned.nd rfl (Or.inl rfl)) pgs_nil))) (pss_cons (ps_expr (pe_bm PySem.F.plainAttrs_list PySem.F.slot_list_extend PySem.F.type_list_extend mt_extend (pv 3) (pa_cons (pe_fn (ok_places_at T) hr pass0 (pa_cons (pv 0) (pa_cons (pv 6) (pa_cons (pv 5) pa_nil)))) pa_nil)))
   (pss_cons (ps_expr (pe_bm PySem.F.plainAttrs_list PySem.F.slot_list_extend PySem.F.type_list_extend mt_extend (pv 4) (pa_cons (pe_compG (xs:=["way"]) (rest:=["turn"]) rfl (pi_list (pe_mtD0 (CX:=CX0) (pv 0) hr pass0))
   (fun pins fp C' s' H'=>(pg_name (i:=0) (show (["way","turn"]:List Str).Nodup by decide +kernel) rfl (Or.inl rfl))) (fun pins fp C' s' H'=>pts_nil)
   (fun pins fp C' s' H'=>(pe_mtDK (CX:=CX0) (P:=P) (w:=w) (K:=K) (mg:=mg) (base:=base) rfl rfl rfl rfl rfl (pv 0) hr pass0 (pa_cons (pv 1) pa_nil)))
   (Clos.many (ys:=["turn"]) rfl ⟨rfl,True.intro⟩ rfl (by decide +kernel)) (Reads.many (ys:=["turn"]) (js:=[5]) ⟨⟨rfl,rfl,rfl⟩,True.intro⟩)) pa_nil)))
   (pss_one (ps_if (pt_cmpR op_lt (pv 5) (pe_callB call_lenK (by rfl) T.z_len PySem.boot_len (pa_cons (pv 2) pa_nil)) (nomark _)) (pss_one (ps_expr (pe_bm PySem.F.plainAttrs_list PySem.F.slot_list_extend PySem.F.type_list_extend mt_extend (pv 4) (pa_cons (pe_compG (xs:=["store"]) (rest:=["turn"]) rfl (pi_list (pv 1))
   (fun pins fp C' s' H'=>(pg_name (i:=0) (show (["store","turn"]:List Str).Nodup by decide +kernel) rfl (Or.inl rfl))) (fun pins fp C' s' H'=>pts_nil)
   (fun pins fp C' s' H'=>(pe_mtDK (CX:=CX0) (P:=P) (w:=w) (K:=K) (mg:=mg) (base:=base) rfl rfl rfl rfl rfl (pv 0) hr pass0 (pa_cons (pv 1) pa_nil)))
   (Clos.many (ys:=["turn"]) rfl ⟨rfl,True.intro⟩ rfl (by decide +kernel)) (Reads.many (ys:=["turn"]) (js:=[5]) ⟨⟨rfl,rfl,rfl⟩,True.intro⟩)) pa_nil)))) pss_nil)))))
   (pss_one (ps_ret (pe_alt (pe_mk (mk_NetX T) hr T.mg_Net pass1 (pa_cons (pv 3) (pa_cons (pv 4) pa_nil))) (pe_mk (mk_Net T) hr T.mg_Net pass0 (pa_cons (pv 3) (pa_cons (pv 4) pa_nil))))))))))),?_⟩
  try dsimp only [cxOf,Cx.nox,Cx.wish]
  have lp:=D.lp
  have ld:=D.ld
  have lss:=D.lss
  have lws:=D.lws
  refine ⟨_,rfl,_,rfl,p,ls,ps,ds,ss,ts,rfl,D.net,D.np,D.hs,D.rs,by omega,by omega,D.ndd,D.l1,fun e1 H1 s1=>?_,fun x e1=>kx x (by unfold dueN' dueT;rw [e1])⟩
  refine ⟨_,rfl,_,rfl,p,lw,ps,ds,ws,tw,rfl,D.np,s1.seq D.hw,D.rw.mono (fun _ _ z=>z.mono s1),fun d hd=>(D.ap d hd).mono s1,D.l2,fun e2 H2 s2'=>?_,fun n e2=>XDue.pre s1 (kx (1,n) (by unfold dueN' dueT;rw [e1];dsimp only;rw [e2]))⟩
  have s2:=s1.trans s2'
  refine ⟨by decide,fun l1 nl1=>?_⟩
  have nl1':=s2.free nl1
  have s3:=s2.trans (same_upd (o:=.lst []) nl1)
  have h1:upd H2 l1 (.lst []) l1=some (.lst []):=upd_same
  generalize upd H2 l1 (.lst [])=H3 at s3 h1 ⊢
  refine ⟨by decide,fun l2 nl2=>?_⟩
  have nl2':=s3.free nl2
  have n12:l1≠l2:=fun z=>by rw [z,nl2] at h1;cases h1
  have s4:=s3.trans (same_upd (o:=.lst []) nl2)
  have h2:upd H3 l2 (.lst []) l2=some (.lst []):=upd_same
  have h12:=same_upd (o:=.lst []) nl2 _ _ h1
  generalize upd H3 l2 (.lst [])=H4 at s4 h2 h12 ⊢
  clear h1 s3
  refine ⟨fun σ' H'=>∃ z5 z6 t1 t2,σ'=[some (.ref p),some (.ref ls),some (.ref lw),some (.ref l1),some (.ref l2),z5,z6]∧Same H H'∧H' l1=some (.lst t1)∧H' l2=some (.lst t2)∧RowAt (PlIs a) H' t1 (psN ps ws ws.length)∧RowAt (WayIs a) H' t2 (dsN ds ss ws.length ws.length),?_,?_⟩
  ·have ltw:tw.length=ws.length:=D.rw.1
   refine ⟨_,rfl,lw,tw,rfl,s4.seq D.hw,for_enum1 (K:=K) (a:=lw) (xs:=tw) (fun i σ H5=>i≤ws.length∧∃ z5 z6 t1 t2,σ=[some (.ref p),some (.ref ls),some (.ref lw),some (.ref l1),some (.ref l2),z5,z6]∧Same H H5∧H5 l1=some (.lst t1)∧H5 l2=some (.lst t2)∧RowAt (PlIs a) H5 t1 (psN ps ws i)∧RowAt (WayIs a) H5 t2 (dsN ds ss ws.length i)) ⟨Nat.zero_le _,_,_,[],[],rfl,s4,h12,h2,RowAt.nil,RowAt.nil⟩ (fun i σ H5 ⟨_,_,_,_,_,_,s5,_⟩=>s5.seq D.hw) ?_ ?_⟩
   ·rintro i x tt σ H5 hx ntt ⟨_,z5,z6,t1,t2,rfl,s5,h15,h25,hr1,hr2⟩
    obtain ⟨r,er,hr0⟩:=D.rw.get hx
    have hi:i<ws.length:=(List.getElem?_eq_some_iff.mp er).1
    obtain ⟨d,kvs,rfl,_⟩:=id hr0
    have er':ws.getD i ([],fun _=>0)=r:=by rw [List.getD_eq_getElem?_getD,er];rfl
    have s6':=same_upd (o:=.tup [.int ((i+1:Nat):Int),.ref d]) ntt
    have htt:upd H5 tt (.tup [.int ((i+1:Nat):Int),.ref d]) tt=some (.tup [.int ((i+1:Nat):Int),.ref d]):=upd_same
    generalize upd H5 tt (.tup [.int ((i+1:Nat):Int),.ref d])=H6 at s6' htt ⊢
    have s6:=s5.trans s6'
    have h16:=s6' _ _ h15
    have h26:=s6' _ _ h25
    have b1:(psN ps ws i).length≤30*12:=by rw [psN_len];exact Nat.mul_le_mul (by omega) lp
    have b2:(dsN ds ss ws.length i).length≤30*24:=Nat.le_trans (dsN_len _ _ _ _) (Nat.mul_le_mul (by omega) (by omega))
    have lt1:t1.length≤360:=by rw [hr1.1];exact b1
    have lt2:t2.length≤720:=by rw [hr2.1];exact b2
    refine ⟨tt,_,rfl,SqT.of htt,rfl,_,_,rfl,_,_,rfl,rfl,?_⟩
    refine ⟨_,rfl,.inl ⟨rfl,_,SqL.of h16⟩,?_⟩
    refine ⟨_,rfl,_,rfl,_,rfl,p,d,((i+1:Nat):Int),ps,ds,r,rfl,D.net.mono s6,D.np,hr0.mono s6,by omega,D.ln,tn_nat (by omega),fun l3 H7 t3 nl3 s7 h3 hr3=>?_⟩
    have h17:=s7 _ _ h16
    have l13:t3.length≤12:=by rw [hr3.1,List.length_map];exact lp
    refine ⟨l1,l3,_,_,rfl,rfl,h17,h3,Nat.le_trans (show _≤1000 by omega) (Nat.le_of_lt (small1000 (Nat.le_refl 1000))),?_⟩
    have ko:KeepO H7 (upd H7 l1 (.lst (t1++t3))):=.lst h17
    have hr1':RowAt (PlIs a) (upd H7 l1 (.lst (t1++t3))) (t1++t3) (psN ps ws (i+1)):=by
     show RowAt _ _ _ (psN ps ws i++ps.map (placeF ((i+1:Nat):Int) (ws.getD i ([],fun _=>0))))
     rw [er']
     exact RowAt.app (hr1.mono fun v x z=>(z.mono (s6'.trans s7)).ko ko) (hr3.mono fun v x z=>z.ko ko)
    have hr2':RowAt (WayIs a) (upd H7 l1 (.lst (t1++t3))) t2 (dsN ds ss ws.length i):=hr2.mono fun v x z=>(z.mono (s6'.trans s7)).ko ko
    have s8:Same H (upd H7 l1 (.lst (t1++t3))):=same_put nl1' (s6.trans s7)
    have h18:upd H7 l1 (.lst (t1++t3)) l1=some (.lst (t1++t3)):=upd_same
    have h28:upd H7 l1 (.lst (t1++t3)) l2=some (.lst t2):=by rw [upd_ne n12.symm];exact s7 _ _ h26
    generalize upd H7 l1 (.lst (t1++t3))=H8 at hr1' hr2' s8 h18 h28 ⊢
    clear hr1 hr2 hr3 h3 h17 ko
    have hn8:=D.net.mono s8
    obtain ⟨dx,dw,dy,hp,hw,hy⟩:=id hn8
    have noa:=fsN_no dw dy (m:="all_ways") (by decide +kernel) (by decide +kernel)
    refine ⟨_,rfl,.inl ⟨rfl,_,SqL.of h28⟩,?_⟩
    refine ⟨_,rfl,p,a.Net,dx,_,1,["self"],spNAll a,rfl,hp,noa,T.cl_Net,by decide,ok_Net_all_ways T,p,ps,ds,rfl,hn8,fun la H9 ta nla s9 hla hra=>?_⟩
    refine ⟨la,rfl,⟨_,SqL.of hla⟩,fun q nq=>?_⟩
    refine compG_list (K:=K) (a:=la) (xs:=ta) (fun j H10=>j≤ds.length∧Same H9 H10∧∃ us,H10 q=some (.lst us)∧RowAt (WayIs a) H10 us ((ds.take j).map (atD ((i+1:Nat):Int)))) ⟨Nat.zero_le _,same_upd nq,[],upd_same,RowAt.nil⟩ (fun j H10 ⟨_,s10,_⟩=>SqL.of (s10 _ _ hla)) ?_ ?_
    ·rintro j y H10 hy ⟨_,s10,us,h10,hv⟩
     obtain ⟨e,ee,he⟩:=hra.get hy
     have hj:j<ds.length:=(List.getElem?_eq_some_iff.mp ee).1
     have lus:us.length≤100:=by rw [hv.1,List.length_map,List.length_take];omega
     have he10:=WayE.of (he.mono s10)
     obtain ⟨p1,vh,vc,qx,rfl,W,_⟩:=id he10
     obtain ⟨dx1,fs1,ho1,h51,_⟩:=id W.ob
     refine g1 ⟨⟨[_],rfl,rfl⟩,yes ?_⟩
     refine ⟨_,rfl,p1,_,dx1,fs1,7,["self","turn"],spTurn a e.kd,rfl,ho1,h51.ou,(cls_any T e.kd).cl,by decide,turn_any T e.kd,_,rfl,.ref p1,((i+1:Nat):Int),e,rfl,he10,rfl,D.td e (List.mem_of_getElem? ee) (i+1) (by omega),fun p2 H11 np2 s11 W2=>?_⟩
     have h11:=s11 _ _ h10
     refine ⟨_,h11,small1000 (by omega),nextP (by rw [hra.1];exact hj) ⟨hj,same_put nq (s10.trans s11),_,upd_same,?_⟩⟩
     rw [List.take_add_one,ee,Option.toList_some,List.map_append]
     exact RowAt.snoc (hv.mono fun v x z=>(z.mono s11).ko (.lst h11)) (W2.ko (.lst h11))
    rintro H10 ⟨_,s10,us,h10,hv⟩
    rw [hra.1,List.take_length] at hv
    have s810:=s9.trans s10
    have h210:=s810 _ _ h28
    have lus:us.length≤12:=by rw [hv.1,List.length_map];exact ld
    refine ⟨l2,q,_,_,rfl,rfl,h210,h10,Nat.le_trans (show _≤1000 by omega) (Nat.le_of_lt (small1000 (Nat.le_refl 1000))),?_⟩
    have ko2:KeepO H10 (upd H10 l2 (.lst (t2++us))):=.lst h210
    have hr1x:RowAt (PlIs a) (upd H10 l2 (.lst (t2++us))) (t1++t3) (psN ps ws (i+1)):=hr1'.mono fun v x z=>(z.mono s810).ko ko2
    have hr2x:RowAt (WayIs a) (upd H10 l2 (.lst (t2++us))) (t2++us) (dsN ds ss ws.length i++ds.map (atD ((i+1:Nat):Int))):=RowAt.app (hr2'.mono fun v x z=>(z.mono s810).ko ko2) (hv.mono fun v x z=>z.ko ko2)
    have s11:Same H (upd H10 l2 (.lst (t2++us))):=same_put nl2' (s8.trans s810)
    have h111:upd H10 l2 (.lst (t2++us)) l1=some (.lst (t1++t3)):=by rw [upd_ne n12];exact s810 _ _ h18
    have h211:upd H10 l2 (.lst (t2++us)) l2=some (.lst (t2++us)):=upd_same
    generalize upd H10 l2 (.lst (t2++us))=H11 at hr1x hr2x s11 h111 h211 ⊢
    clear hr1' hr2' hv h10 h210 ko2
    refine ⟨_,rfl,_,rfl,lw,_,rfl,.inl (s11.seq D.hw),_,_,rfl,rfl,_,rfl,?_⟩
    by_cases hlt:i+1<ws.length
    ·refine iteC (decide_eq_true (show ((i+1:Nat):Int)<(tw.length:Int) by omega)) ?_
     refine ⟨_,rfl,.inl ⟨rfl,_,SqL.of h211⟩,?_⟩
     refine ⟨_,rfl,ls,rfl,⟨_,s11.seq D.hs⟩,fun q2 nq2=>?_⟩
     refine compG_list (K:=K) (a:=ls) (xs:=ts) (fun j H12=>j≤ss.length∧Same H11 H12∧∃ us2,H12 q2=some (.lst us2)∧RowAt (WayIs a) H12 us2 ((ss.take j).map (atD ((i+1:Nat):Int)))) ⟨Nat.zero_le _,same_upd nq2,[],upd_same,RowAt.nil⟩ (fun j H12 ⟨_,s12,_⟩=>s12.seq (s11.seq D.hs)) ?_ ?_
     ·rintro j y H12 hy ⟨_,s12,us2,h12',hv⟩
      obtain ⟨e,ee,he⟩:=D.rs.get hy
      have hj:j<ss.length:=(List.getElem?_eq_some_iff.mp ee).1
      have lus2:us2.length≤100:=by rw [hv.1,List.length_map,List.length_take];omega
      have he10:=he.mono (s11.trans s12)
      obtain ⟨p1,vh,vc,qx,rfl,W,_⟩:=id he10
      obtain ⟨dx1,fs1,ho1,h51,_⟩:=id W.ob
      refine g1 ⟨⟨[_],rfl,rfl⟩,yes ?_⟩
      refine ⟨_,rfl,p1,_,dx1,fs1,7,["self","turn"],spTurn a e.kd,rfl,ho1,h51.ou,(cls_any T e.kd).cl,by decide,turn_any T e.kd,_,rfl,.ref p1,((i+1:Nat):Int),e,rfl,he10,rfl,D.ts' e (List.mem_of_getElem? ee) (i+1) (by omega),fun p2 H13 np2 s13 W2=>?_⟩
      have h13:=s13 _ _ h12'
      refine ⟨_,h13,small1000 (by omega),nextP (by rw [D.rs.1];exact hj) ⟨hj,same_put nq2 (s12.trans s13),_,upd_same,?_⟩⟩
      rw [List.take_add_one,ee,Option.toList_some,List.map_append]
      exact RowAt.snoc (hv.mono fun v x z=>(z.mono s13).ko (.lst h13)) (W2.ko (.lst h13))
     rintro H12 ⟨_,s12,us2,h12',hv⟩
     rw [D.rs.1,List.take_length] at hv
     have h212:=s12 _ _ h211
     have lus2:us2.length≤12:=by rw [hv.1,List.length_map];exact lss
     refine ⟨l2,q2,_,_,rfl,rfl,h212,h12',Nat.le_trans (show _≤1000 by rw [List.length_append];omega) (Nat.le_of_lt (small1000 (Nat.le_refl 1000))),?_⟩
     have ko3:KeepO H12 (upd H12 l2 (.lst (t2++us++us2))):=.lst h212
     refine ⟨hi,_,_,_,_,rfl,same_put nl2' (s11.trans s12),by rw [upd_ne n12];exact s12 _ _ h111,upd_same,hr1x.mono fun v x z=>(z.mono s12).ko ko3,?_⟩
     show RowAt _ _ _ (dsN ds ss ws.length i++ds.map (atD ((i+1:Nat):Int))++(if i+1<ws.length then ss.map (atD ((i+1:Nat):Int)) else []))
     rw [if_pos hlt]
     exact RowAt.app (hr2x.mono fun v x z=>(z.mono s12).ko ko3) (hv.mono fun v x z=>z.ko ko3)
    ·refine iteD (decide_eq_false (show ¬ ((i+1:Nat):Int)<(tw.length:Int) by omega)) ?_
     refine ⟨hi,_,_,_,_,rfl,s11,h111,h211,hr1x,?_⟩
     show RowAt _ _ _ (dsN ds ss ws.length i++ds.map (atD ((i+1:Nat):Int))++(if i+1<ws.length then ss.map (atD ((i+1:Nat):Int)) else []))
     rw [if_neg hlt,List.append_nil]
     exact hr2x
   ·rintro σ H5 ⟨_,z5,z6,t1,t2,rfl,s5,h15,h25,hr1,hr2⟩
    rw [ltw] at hr1 hr2
    exact ⟨_,_,t1,t2,rfl,s5,h15,h25,hr1,hr2⟩
  clear h12 h2 s4
  rintro σ' H5 ⟨z5,z6,t1,t2,rfl,s5,h15,h25,hr1,hr2⟩
  have ed:dueN' ps ds ss ws=if fewN ps ds ss ws=true then none else some (2,("":Str)):=by
   unfold dueN' dueT
   rw [e1]
   dsimp only
   rw [e2]
  by_cases few:fewN ps ds ss ws=true
  ·rw [if_pos few] at ed
   refine .inr ⟨_,rfl,_,rfl,?_⟩
   intro q dq n1 n2 n3
   have sq:=same_two (C:=a.Net) n1 n2
   exact ⟨q,dq,l1,l2,t1,t2,_,_,rfl,upd_same,sq.seq (SqL.of h15),hr1.mono (fun v x z=>z.mono sq),sq.seq (SqL.of h25),hr2.mono (fun v x z=>z.mono sq),ok ed,fun H' hs' hn'=>⟨rfl,k ed q H' (s5.free n1) (s5.trans (same_new n1 n2 hs')) (let ⟨d1,d2,d3,g1,g2,g3,g4,g5⟩:=hn';⟨d1,d2,d3,g1,g2,g3,(s5.trans sq).free g4,(s5.trans sq).free g5⟩)⟩⟩
  ·rw [if_neg few] at ed
   refine .inl ⟨_,rfl,_,rfl,?_⟩
   intro q dq n1 n2 n3
   have sq:=same_two (C:=a.Net) n1 n2
   exact ⟨q,l1,l2,t1,t2,rfl,sq.seq (SqL.of h15),sq.seq (SqL.of h25),fun z=>few (decide_eq_true (by rw [hr1.1,hr2.1] at z;exact z)),fun H' s'=>(kx _ ed).2.2 rfl H' (.inl (s5.trans (sq.trans s')))⟩
def LstIs (a:Ad) (H:Hp) (v:V) (xs:List Rat):Prop:=∃ l ts,v=.ref l∧H l=some (.lst ts)∧RowAt (FrIs a) H ts xs
def going (x:Rat) (ds:List WD):Rat:=ds.foldl (fun y d=>y*gainOf d.kd d.x) x
def steps:Rat→List WD→List (Str × Rat)
 | _,[]=>[]
 | x,d::r=>(d.nm,x)::steps (x*gainOf d.kd d.x) r
theorem sgn_zero {x:Rat}:sgn x=0↔x=0:=by
 unfold sgn
 constructor
 ·intro h
  have:x.num=0:=by
   split at h
   ·cases h
   ·split at h
    ·cases h
    ·omega
  exact Rat.num_eq_zero.mp this
 ·rintro rfl
  rfl
def some0 (f:Str→Rat) (ks:List Str):List Str:=ks.filter (fun n=>decide (f n≠0))
theorem some0_snoc (f:Str→Rat) (ks:List Str) (n:Str):some0 f (ks++[n])=if f n=0 then some0 f ks else some0 f ks++[n]:=by
 unfold some0
 rw [List.filter_append]
 by_cases h:f n=0
 ·rw [if_pos h]
  simp [h]
 ·rw [if_neg h]
  simp [h]
inductive IspNoughts (a:Ad) (vs:List V) (H:Hp) (Q:VK):Prop
 | mk (d:Addr) (kvs:List (Key × V)) (ks:List Str) (f:Str→Rat) (h1:vs=[.ref d]) (h2:H d=some (.dK kvs)) (h3:Tab (FrIs a) H kvs ks f) (h4:ks.Nodup) (h5:ks.length≤900) (h6:∀ r H' kvs',H r=none→Same H H'→H' r=some (.dK kvs')→Tab (FrIs a) H' kvs' (some0 f ks) f→Q (.ref r) H'):IspNoughts a vs H Q
def spNoughts (a:Ad):Sp:=fun vs H Q _=>IspNoughts a vs H Q
theorem ok_without_noughts (T:TX K mg a):FnB P w K mg base CX0 "without_noughts" 5 ["plan"] (spNoughts a):=by
 refine T.d_without_noughts.ok sc_without_noughts (fun vs H Q E h=>?_) (fun f cdv A outer s H vs Q E hr h=>?_)
 ·obtain ⟨_,_,_,_,rfl,_⟩:=h
  rfl
 ·obtain ⟨d,kvs,ks,f,rfl,hd,tb,nd,hl,k⟩:=h
  refine ⟨_,(pss_cons (ps_set (i:=1) sc_without_noughts.nd rfl (Or.inl rfl) pe_dnewK)
   (pss_cons (ps_thaw (ps_for PassesOwn.never rfl (pi_items (pv 0)) (pg_tup (n:=2) rfl (pgs_cons (pg_name (i:=2) sc_without_noughts.nd rfl (Or.inl rfl)) (pgs_cons (pg_name (i:=3) sc_without_noughts.nd rfl (Or.inl rfl)) pgs_nil))) (pss_one (ps_if (pt_cmpR op_ne (pe_frm0 T.fr (pv 3) (ok_sign T) hr pass0) pe_int (nomark _)) (pss_one (ps_dput (hu_of hr) (pv 1) (pv 2) (pv 3) rfl)) pss_nil))))
   (pss_one (ps_ret (pv 1))))),?_⟩
  try dsimp only [cxOf,Cx.nox,Cx.wish]
  intro r nr
  have s0:Same H (upd H r (.dK [])):=same_upd nr
  have hd0:=s0 _ _ hd
  have hr0:upd H r (.dK []) r=some (.dK []):=upd_same
  have tb0:=tb.mono fun v x z=>z.mono s0
  generalize upd H r (.dK [])=H0 at s0 hd0 hr0 tb0 ⊢
  have ndr:d≠r:=fun z=>by rw [z,nr] at hd;cases hd
  refine ⟨d,.dK kvs,hd0,(by intro o z e;cases e),_,rfl,d,kvs,rfl,hd0,fun o=>?_⟩
  refine for_items (a:=d) (o:=o) (kvs:=kvs) (fun i σ H2=>i≤ks.length∧∃ z2 z3 kv2,σ=[some (.ref d),some (.ref r),z2,z3]∧H2 d=some (.frz o (.dK kvs))∧(∀ b ob,H b=some ob→b≠d→H2 b=some ob)∧KeepD H0 H2∧H2 r=some (.dK kv2)∧Tab (FrIs a) H2 kv2 (some0 f (ks.take i)) f)
   ⟨Nat.zero_le _,_,_,[],rfl,upd_same,(fun b ob e ne=>by rw [upd_ne ne];exact s0 _ _ e),KeepD.put hd0,by rw [upd_ne ndr.symm];exact hr0,Tab.nil⟩ (fun i σ H2 _ ⟨_,_,_,_,_,h,_⟩=>h) ?_ ?_
  ·rintro i kv t σ H2 hkv nt ⟨_,z2,z3,kv2,rfl,hf,k2,kp,hr2,tb2⟩
   obtain ⟨n,en,e1,ev,q,eq,fq⟩:=tb0.at_ nd hkv
   have hi:i<ks.length:=(List.getElem?_eq_some_iff.mp en).1
   have ekv:kV kv.1=.str n:=by rw [e1];rfl
   rw [ekv,eq]
   have s3:=same_upd (o:=.tup [.str n,.ref q]) nt
   have ht:upd H2 t (.tup [.str n,.ref q]) t=some (.tup [.str n,.ref q]):=upd_same
   generalize upd H2 t (.tup [.str n,.ref q])=H3 at s3 ht ⊢
   have fq3:FrAt a.Fraction H3 q (f n):=by
    obtain ⟨q',e',f'⟩:=FrIs.keep ⟨q,rfl,fq⟩ (kp.trans (.of s3))
    cases e'
    exact f'
   obtain ⟨tk,nk⟩:=take_next nd en
   refine ⟨t,[.str n,.ref q],rfl,SqT.of ht,rfl,.str n,[.ref q],rfl,⟨.ref q,[],rfl,⟨rfl,?_⟩⟩⟩
   have fr:=fq3
   refine ⟨_,rfl,q,_,rfl,fq3,?_⟩
   walk_at "rd"
   by_cases hz:f n=0
   ·refine iteD (by rw [sgn_zero.mpr hz];rfl) ?_
    refine ⟨hi,_,_,kv2,rfl,s3 _ _ hf,(fun b ob e ne=>s3 _ _ (k2 _ _ e ne)),kp.trans (.of s3),s3 _ _ hr2,?_⟩
    rw [tk,some0_snoc,if_pos hz]
    exact tb2.mono fun v x z=>z.mono s3
   ·refine iteC (by
     rw [decide_eq_false (fun z=>hz (sgn_zero.mp (V.int.inj z)))];rfl) ?_
    have hr3:=s3 _ _ hr2
    have ns0:¬ n∈some0 f (ks.take i):=fun z=>nk (List.mem_filter.mp z).1
    have ls:kv2.length≤900:=by
     rw [tb2.len]
     have h1:=List.length_filter_le (fun n=>decide (f n≠0)) (ks.take i)
     rw [List.length_take] at h1
     unfold some0
     omega
    refine ⟨_,rfl,_,rfl,_,rfl,r,_,rfl,DPut.k (k:=Sum.inr n) hr3 (small1000 (by omega)),?_⟩
    have kp3:KeepD H3 (upd H3 r (.dK (putK kv2 (Sum.inr n) (.ref q)))):=KeepD.put hr3
    refine ⟨hi,_,_,_,rfl,by rw [upd_ne ndr];exact s3 _ _ hf,(fun b ob e ne=>?_),(kp.trans (.of s3)).trans kp3,upd_same,?_⟩
    ·rw [upd_ne (ne_of_none e nr)]
     exact s3 _ _ (k2 _ _ e ne)
    ·rw [tk,some0_snoc,if_neg hz,← addK_new ns0]
     refine (Tab.put (tb2.mono fun v x z=>(z.mono s3).keep kp3) (y:=f n) (FrIs.keep ⟨q,rfl,fq3⟩ kp3)).congr fun m _=>?_
     unfold upf
     split
     ·rename_i e
      rw [e]
     ·rfl
  ·rintro σ H2 ⟨_,z2,z3,kv2,rfl,hf,k2,kp,hr2,tb2⟩
   rw [tb.len,List.take_length] at tb2
   refine ⟨o,hf,_,rfl,k r _ kv2 nr (fun b ob e=>?_) (by rw [upd_ne ndr.symm];exact hr2) (tb2.mono fun v x z=>z.keep (.frz hf))⟩
   by_cases hb:b=d
   ·subst hb
    rw [upd_same,← hd,e]
   ·rw [upd_ne hb]
    exact k2 _ _ e hb
theorem snoc_ind {α:Type} {P:List α→Prop} (h0:P []) (h1:∀ xs x,P xs→P (xs++[x])) (xs:List α):P xs:=by
 rw [← List.reverse_reverse xs]
 induction xs.reverse with
 | nil=>exact h0
 | cons x r ih=>rw [List.reverse_cons];exact h1 _ _ ih
theorem BdS.of {m:Nat} (xs:List Rat):(∀ x∈xs,Bd m x)→BdS xs (xs.length*(m+1)):=by
 refine snoc_ind (P:=fun xs=>(∀ x∈xs,Bd m x)→BdS xs (xs.length*(m+1))) (fun _=>by rw [List.length_nil,Nat.zero_mul];exact .nil) (fun xs x ih h=>?_) xs
 rw [List.length_append,List.length_cons,List.length_nil,Nat.add_mul,Nat.zero_add,Nat.one_mul]
 exact (ih fun y hy=>h y (List.mem_append_left _ hy)).snoc (h x (by simp))
theorem NetAp.off {H:Hp} {p d:Addr} {kvs:List (Key × V)} {ps:List (Str × Rat)} {ds:List WD} (h:NetAp a H p d ps ds) (hd:H d=some (.dK kvs)):NetOff a H p d ps ds:=by
 refine ⟨fun b=>if b=d then none else H b,h.but hd (by intro _ _ _ z;cases z) (fun b u e ne=>?_),fun b u e=>?_,if_pos rfl⟩
 ·show (if b=d then none else H b)=_
  rw [if_neg ne]
  exact e
 ·have e2:(if b=d then none else H b)=some u:=e
  split at e2
  ·cases e2
  ·exact e2
def ownF (r:WRow) (t:Int):Str→Rat:=fun n=>amtOf r.1 r.2 (atT n t)
inductive IspOwn (a:Ad) (vs:List V) (H:Hp) (Q:VK):Prop
 | mk (p d:Addr) (t:Int) (ps:List (Str × Rat)) (ds:List WD) (r:WRow) (h1:vs=[.ref p,.ref d,.int t]) (h2:NetAt a H p ps ds) (h3:(ds.map (·.nm)).Nodup) (h4:ds.length≤100) (h5:DctIs a H (.ref d) r) (h6:(∀ x∈ds,x.nm.length≤700)) (h7:Tn t) (h8:∀ q H',H q=none→Same H H'→DctIs a H' (.ref q) (some0 (ownF r t) (ds.map (·.nm)),ownF r t)→Q (.ref q) H'):IspOwn a vs H Q
def spOwn (a:Ad):Sp:=fun vs H Q _=>IspOwn a vs H Q
theorem ok_own_plan (T:TX K mg a):FnB P w K mg base CX0 "own_plan" 6 ["net","plan","turn"] (spOwn a):=by
 refine T.d_own_plan.ok sc_own_plan (fun vs H Q E h=>?_) (fun f cdv A outer s H vs Q E hr h=>?_)
 ·obtain ⟨_,_,_,_,_,_,rfl,_⟩:=h
  rfl
 ·obtain ⟨p,d,t,ps,ds,r,rfl,hn,nd,ld,⟨d',kv0,e0,hd0,tb0,nk0⟩,ln,ht,k⟩:=h
  cases e0
  refine ⟨_,(pss_cons (ps_set (i:=3) sc_own_plan.nd rfl (Or.inl rfl) pe_dnewK)
   (pss_cut (ps_for PassesOwn.never rfl (pi_list (pe_mtD0 (CX:=CX0) (pv 0) hr pass0)) (pg_name (i:=4) sc_own_plan.nd rfl (Or.inl rfl)) (pss_one (ps_dput (hu_of hr) (pv 3) (pe_fld (pv 4) rfl) (pe_fn (ok_amount T) hr pass0 (pa_cons (pv 1) (pa_cons (pe_fn (ok_name_at T) hr pass0 (pa_cons (pe_fld (pv 4) rfl) (pa_cons (pv 2) pa_nil))) pa_nil))) rfl)))
   (pss_one (ps_ret (pe_fn (ok_without_noughts T) hr pass0 (pa_cons (pv 3) pa_nil)))))),?_⟩
  try dsimp only [cxOf,Cx.nox,Cx.wish]
  intro o no
  have s1:=same_upd (o:=.dK []) no
  have ho0:upd H o (.dK []) o=some (.dK []):=upd_same
  generalize upd H o (.dK [])=H1 at s1 ho0 ⊢
  obtain ⟨dx,dw,dy,hp,hw,hy⟩:=id (hn.mono s1)
  have noa:=fsN_no dw dy (m:="all_ways") (by decide +kernel) (by decide +kernel)
  refine ⟨fun σ' H'=>∃ z kvs,σ'=[some (.ref p),some (.ref d),some (.int t),some (.ref o),z]∧Same H H'∧H' o=some (.dK kvs)∧Tab (FrIs a) H' kvs (ds.map (·.nm)) (ownF r t),?_,?_⟩
  ·refine ⟨_,rfl,p,a.Net,dx,_,1,["self"],spNAll a,rfl,hp,noa,T.cl_Net,by decide,ok_Net_all_ways T,p,ps,ds,rfl,hn.mono s1,fun lw H2 tw nlw s2 hlw hvw=>?_⟩
   have n2:lw≠o:=fun z=>by rw [z,ho0] at nlw;cases nlw
   refine ⟨lw,rfl,⟨_,SqL.of hlw⟩,for_list (K:=K) (a:=lw) (xs:=tw) (fun i σ H3=>i≤ds.length∧∃ z kvs,σ=[some (.ref p),some (.ref d),some (.int t),some (.ref o),z]∧Same H H3∧H3 lw=some (.lst tw)∧RowAt (WayE a) H3 tw ds∧H3 o=some (.dK kvs)∧Tab (FrIs a) H3 kvs ((ds.map (·.nm)).take i) (ownF r t)) ⟨Nat.zero_le _,_,[],rfl,s1.trans s2,hlw,⟨hvw.1,fun i u x e1 e2=>.of (hvw.2 i u x e1 e2)⟩,s2 _ _ ho0,Tab.nil⟩ (fun i σ H3 _ ⟨_,_,_,_,_,h,_⟩=>SqL.of h) ?_ ?_⟩
   ·rintro i x σ H3 hx ⟨_,z,kvs,rfl,s3,hlw3,hr3,ho3,tb⟩
    obtain ⟨y,ey,p1,vh,vc,q,rfl,W,hc,hh⟩:=hr3.get hx
    have hi:=(List.getElem?_eq_some_iff.mp ey).1
    obtain ⟨dx1,fs1,hob,h51,_⟩:=id W.ob
    have c1:=cls_any T y.kd
    have en:(ds.map (·.nm))[i]?=some y.nm:=by rw [List.getElem?_map,ey];rfl
    obtain ⟨tk,nk⟩:=take_next nd en
    have lk:kvs.length≤900:=by rw [tb.len,List.length_take,List.length_map];omega
    have lnm:=ln y (List.mem_of_getElem? ey)
    refine ⟨_,rfl,_,rfl,p1,_,dx1,fs1,_,rfl,hob,c1.cl,c1.n1,h51.nm,_,rfl,y.nm,t,rfl,by omega,ht,d,kv0,r.1,r.2,atT y.nm t,rfl,.inl (s3 _ _ hd0),tb0.mono (fun _ _ z=>z.mono s3),fun qa H4 s4 f4=>?_⟩
    have ho4:=s4 _ _ ho3
    refine ⟨_,rfl,_,rfl,p1,_,dx1,fs1,_,rfl,s4 _ _ hob,c1.cl,c1.n1,h51.nm,o,_,rfl,DPut.k (k:=Sum.inr y.nm) ho4 (small1000 (by omega)),?_⟩
    have kp:KeepD H4 (upd H4 o (.dK (putK kvs (Sum.inr y.nm) (.ref qa)))):=KeepD.put ho4
    have stay:Stays a H4 (upd H4 o (.dK (putK kvs (Sum.inr y.nm) (.ref qa)))):=.put ho4 (fun _ _ _ z=>by cases z)
    refine ⟨hi,_,_,rfl,same_put no (s3.trans s4),by rw [upd_ne n2];exact s4 _ _ hlw3,hr3.mono (fun v x z=>(z.mono s4).keep stay),upd_same,?_⟩
    rw [tk,← addK_new nk]
    refine (Tab.put (n:=y.nm) (tb.mono fun v x z=>(FrIs.mono z s4).keep kp) (y:=ownF r t y.nm) (FrIs.keep ⟨qa,rfl,f4⟩ kp)).congr fun m _=>?_
    unfold upf
    split
    ·rename_i e
     rw [e]
    ·rfl
   ·rintro σ H3 ⟨_,z,kvs,rfl,s3,_,_,ho3,tb⟩
    rw [hvw.1,show ds.length=(ds.map (·.nm)).length by rw [List.length_map],List.take_length] at tb
    exact ⟨_,kvs,rfl,s3,ho3,tb⟩
  rintro σ' H2 ⟨z,kvs,rfl,s2,ho2,tb⟩
  exact ⟨_,rfl,o,kvs,_,_,rfl,ho2,tb,nd,by rw [List.length_map];omega,fun q H3 kv2 nq s3 hq tb2=>k q H3 (s2.free nq) (s2.trans s3) ⟨q,kv2,rfl,hq,tb2,nd.filter _⟩⟩
def hereL (ss:List WD) (pl:Str):List WD:=ss.filter (fun s=>decide (s.st=pl))
def takG (r:WRow) (t:Int) (s:WD):Rat:=amtOf r.1 r.2 (atT s.nm (t-1))*gainOf s.kd s.x
def putG (r:WRow) (t:Int) (s:WD):Rat:=amtOf r.1 r.2 (atT s.nm t)
def inR (g:WRow→Int→WD→Rat) (ps:List (Str × Rat)) (ss:List WD) (r:WRow) (t:Int):WRow:=(ps.map (·.1),fun n=>((hereL ss n).map (g r t)).sum)
structure InIn (K:PySem.W.Frag) (a:Ad) (H:Hp) (p ls d:Addr) (t:Int) (ps:List (Str × Rat)) (ds ss:List WD) (ts:List V) (r:WRow):Prop where
 net:NetAt a H p ps ds
 np:(ps.map (·.1)).Nodup
 lp:ps.length≤12
 hs:SqL K H ls ts
 rs:RowAt (WayE a) H ts ss
 lss:ss.length≤12
 pl:DctIs a H (.ref d) r
 ln:∀ x∈ss,x.nm.length≤700
 t1:1≤t
 t2:t≤31
 bx:∀ x∈ss,Bd 20 x.x∧Bd 20 (gainOf x.kd x.x)
 ba:∀ n,Bd 30 (amtOf r.1 r.2 n)
theorem tn_int {t:Int} (h0:0≤t) (h1:t≤1000):Tn t:=by
 obtain ⟨n,rfl⟩:=Int.eq_ofNat_of_zero_le h0
 exact tn_nat (by omega)
theorem hereL_next {ss:List WD} {j:Nat} {e:WD} (ee:ss[j]?=some e) (pl:Str):hereL (ss.take (j+1)) pl=hereL (ss.take j) pl++[e].filter (fun s=>decide (s.st=pl)):=by
 unfold hereL
 rw [List.take_add_one,ee,Option.toList_some,List.filter_append]
theorem hereL_len (ss:List WD) (pl:Str):(hereL ss pl).length≤ss.length:=List.length_filter_le _ _
theorem hereL_mem {ss:List WD} {pl:Str} {x:WD} (h:x∈hereL ss pl):x∈ss:=(List.mem_filter.mp h).1
theorem bds_in {ss:List WD} {g:WD→Rat} (h:∀ x∈ss,Bd 60 (g x)) (hl:ss.length≤12):∃ N,BdS (ss.map g) N∧N<9000:=by
 refine ⟨_,BdS.of (m:=60) _ fun z hz=>?_,?_⟩
 ·obtain ⟨x,hx,rfl⟩:=List.mem_map.mp hz
  exact h x hx
 ·rw [List.length_map]
  omega
inductive IspIn (K:PySem.W.Frag) (a:Ad) (g:WRow→Int→WD→Rat) (vs:List V) (H:Hp) (Q:VK):Prop
 | mk (p ls d:Addr) (t:Int) (ps:List (Str × Rat)) (ds ss:List WD) (ts:List V) (r:WRow) (h1:vs=[.ref p,.ref ls,.ref d,.int t]) (h2:InIn K a H p ls d t ps ds ss ts r) (h3:∀ q H',H q=none→Same H H'→DctIs a H' (.ref q) (inR g ps ss r t)→Q (.ref q) H'):IspIn K a g vs H Q
def spIn (K:PySem.W.Frag) (a:Ad) (g:WRow→Int→WD→Rat):Sp:=fun vs H Q _=>IspIn K a g vs H Q
theorem ok_taken_in (T:TX K mg a):FnB P w K mg base CX0 "taken_in" 9 ["net","stores","plan","turn"] (spIn K a takG):=by
 refine T.d_taken_in.ok sc_taken_in (fun vs H Q E h=>?_) (fun f cdv A outer s H vs Q E hr h=>?_)
 ·obtain ⟨_,_,_,_,_,_,_,_,_,rfl,_⟩:=h
  rfl
 ·obtain ⟨p,ls,d,t,ps,ds,ss,ts,r,rfl,D,k⟩:=h
  refine ⟨_,(pss_cons (ps_set (i:=4) sc_taken_in.nd rfl (Or.inl rfl) pe_dnewK)
   (pss_cons (ps_for PassesOwn.never rfl (pi_list (pe_mtD0 (CX:=CX0) (pv 0) hr pass0)) (pg_name (i:=5) sc_taken_in.nd rfl (Or.inr rfl)) (pss_cons (ps_compG (i:=6) (xs:=["store"]) (rest:=["place"]) sc_taken_in.nd rfl rfl rfl (pi_list (pv 1))
   (fun pins fp C' s' H'=>(pg_name (i:=0) (show (["store","place"]:List Str).Nodup by decide +kernel) rfl (Or.inl rfl))) (fun pins fp C' s' H'=>(pts_one (pt_cmpR op_eq (pe_fldK (K:=K) rfl (pv 0) rfl) (pv 1) (nomark _))))
   (fun pins fp C' s' H'=>(pv 0))
   (Clos.many (ys:=["place"]) rfl ⟨rfl,True.intro⟩ rfl (by decide +kernel)) (Reads.many (ys:=["place"]) (js:=[5]) ⟨⟨rfl,rfl,rfl⟩,True.intro⟩))
   (pss_one (ps_dput (hu_of hr) (pv 4) (pv 5) (pe_fn (ok_total T) hr pass0 (pa_cons (pe_compG (xs:=["store"]) (rest:=["plan","turn"]) rfl (pi_list (pv 6))
   (fun pins fp C' s' H'=>(pg_name (i:=0) (show (["store","plan","turn"]:List Str).Nodup by decide +kernel) rfl (Or.inl rfl))) (fun pins fp C' s' H'=>pts_nil)
   (fun pins fp C' s' H'=>(pe_mtDK (CX:=CX0) (P:=P) (w:=w) (K:=K) (mg:=mg) (base:=base) rfl rfl rfl rfl rfl (pv 0) hr pass0 (pa_cons (pe_fn (ok_amount T) hr pass0 (pa_cons (pv 1) (pa_cons (pe_fn (ok_name_at T) hr pass0 (pa_cons (pe_fldK (K:=K) rfl (pv 0) rfl) (pa_cons (pe_op op_sub (pv 2) pe_int) pa_nil))) pa_nil))) pa_nil)))
   (Clos.many (ys:=["turn","plan"]) rfl ⟨rfl,rfl,True.intro⟩ rfl (by decide +kernel)) (Reads.many (ys:=["plan","turn"]) (js:=[2,3]) ⟨⟨rfl,rfl,rfl⟩,⟨rfl,rfl,rfl⟩,True.intro⟩)) pa_nil)) rfl))))
   (pss_one (ps_ret (pv 4))))),?_⟩
  try dsimp only [cxOf,Cx.nox,Cx.wish]
  intro o no
  have lp:=D.lp
  have lss:=D.lss
  have t1:=D.t1
  have t2:=D.t2
  have s1:=same_upd (o:=.dK []) no
  have ho0:upd H o (.dK []) o=some (.dK []):=upd_same
  generalize upd H o (.dK [])=H1 at s1 ho0 ⊢
  obtain ⟨dx,dw,dy,hp,hw,hy⟩:=id (D.net.mono s1)
  have nob:=fsN_no dw dy (m:="names") (by decide +kernel) (by decide +kernel)
  obtain ⟨d',kv0,e0,hd0,tb0,nk0⟩:=id D.pl
  cases e0
  refine ⟨_,rfl,p,a.Net,dx,_,1,["self"],spNNames a,rfl,hp,nob,T.cl_Net,by decide,ok_Net_names T,p,ps,ds,rfl,D.net.mono s1,fun l nl=>?_⟩
  have s2:=s1.trans (same_upd (o:=.lst (ps.map fun x=>V.str x.1)) nl)
  have ho1:=same_upd (o:=.lst (ps.map fun x=>V.str x.1)) nl _ _ ho0
  have hl:upd H1 l (.lst (ps.map fun x=>V.str x.1)) l=some (.lst (ps.map fun x=>V.str x.1)):=upd_same
  have nlo:l≠o:=fun z=>by rw [z,ho0] at nl;cases nl
  generalize upd H1 l (.lst (ps.map fun x=>V.str x.1))=H2 at s2 ho1 hl ⊢
  refine ⟨l,rfl,⟨_,SqL.of hl⟩,for_list (K:=K) (a:=l) (xs:=ps.map fun x=>V.str x.1) (fun i σ H3=>i≤ps.length∧∃ z5 z6 kvs,σ=[some (.ref p),some (.ref ls),some (.ref d),some (.int t),some (.ref o),z5,z6]∧Same H H3∧H3 l=some (.lst (ps.map fun x=>V.str x.1))∧H3 o=some (.dK kvs)∧Tab (FrIs a) H3 kvs ((ps.map (·.1)).take i) (inR takG ps ss r t).2) ⟨Nat.zero_le _,_,_,[],rfl,s2,hl,ho1,Tab.nil⟩ (fun i σ H3 _ ⟨_,_,_,_,_,_,h,_⟩=>SqL.of h) ?_ ?_⟩
  ·rintro i x' σ H3 hx ⟨_,z5,z6,kvs,rfl,s3,hl3,ho3,tb⟩
   rw [List.getElem?_map] at hx
   cases ex:ps[i]? with
   | none=>rw [ex] at hx;cases hx
   | some x=>
    rw [ex] at hx
    cases hx
    have hi:=(List.getElem?_eq_some_iff.mp ex).1
    have en:(ps.map (·.1))[i]?=some x.1:=by rw [List.getElem?_map,ex];rfl
    obtain ⟨tk,nk⟩:=take_next D.np en
    have lk:kvs.length≤900:=by rw [tb.len,List.length_take,List.length_map];omega
    refine ⟨_,rfl,ls,rfl,⟨_,s3.seq D.hs⟩,fun hq nhq=>?_⟩
    refine compG_list (K:=K) (a:=ls) (xs:=ts) (fun j H4=>j≤ss.length∧Same H3 H4∧∃ us,H4 hq=some (.lst us)∧RowAt (WayE a) H4 us (hereL (ss.take j) x.1)) ⟨Nat.zero_le _,same_upd nhq,[],upd_same,RowAt.nil⟩ (fun j H4 ⟨_,s4,_⟩=>s4.seq (s3.seq D.hs)) ?_ ?_
    ·rintro j y H4 hy ⟨_,s4,us,h4,hv⟩
     obtain ⟨e,ee,he⟩:=D.rs.get hy
     have hj:j<ss.length:=(List.getElem?_eq_some_iff.mp ee).1
     have he4:=he.mono (s3.trans s4)
     obtain ⟨p1,vh,vc,qx,rfl,W,hc,hh⟩:=id he4
     obtain ⟨dx1,fs1,ho1,h51,_⟩:=id W.ob
     have c1:=cls_any T e.kd
     have tk2:=hereL_next ee x.1
     have lus:us.length≤100:=by
      rw [hv.1]
      exact Nat.le_trans (hereL_len _ _) (by rw [List.length_take];omega)
     refine g1 ⟨⟨[_],rfl,rfl⟩,?_⟩
     refine ⟨_,rfl,p1,_,dx1,fs1,_,rfl,ho1,c1.cl,c1.n2,h51.st,_,rfl,rfl,_,rfl,?_⟩
     by_cases hin:e.st=x.1
     ·refine iteC (decide_eq_true (congrArg V.str hin)) ?_
      have sy:Stays a H4 (upd H4 hq (.lst (us++[.ref p1]))):=.put h4 (fun _ _ _ z=>by cases z)
      refine ⟨_,rfl,_,h4,small1000 (by omega),nextP (by rw [D.rs.1];exact hj) ⟨hj,same_put nhq s4,_,upd_same,?_⟩⟩
      rw [tk2,List.filter_cons_of_pos (by simpa using hin),List.filter_nil]
      exact RowAt.snoc (hv.mono fun v x z=>z.keep sy) (he4.keep sy)
     ·refine iteD (decide_eq_false fun z=>hin (V.str.inj z)) ?_
      refine nextP (by rw [D.rs.1];exact hj) ⟨hj,s4,us,h4,?_⟩
      rw [tk2,List.filter_cons_of_neg (by simpa using hin),List.filter_nil,List.append_nil]
      exact hv
    rintro H4 ⟨_,s4,us,h4,hv⟩
    rw [D.rs.1,List.take_length] at hv
    have lh:=hereL_len ss x.1
    refine ⟨_,rfl,hq,rfl,⟨_,SqL.of h4⟩,fun q2 nq2=>?_⟩
    refine compG_list (K:=K) (a:=hq) (xs:=us) (fun j H5=>j≤(hereL ss x.1).length∧Same H4 H5∧∃ vs,H5 q2=some (.lst vs)∧RowAt (FrIs a) H5 vs (((hereL ss x.1).take j).map (takG r t))) ⟨Nat.zero_le _,same_upd nq2,[],upd_same,RowAt.nil⟩ (fun j H5 ⟨_,s5,_⟩=>SqL.of (s5 _ _ h4)) ?_ ?_
    ·rintro j y H5 hy ⟨_,s5,vs,h5,hv5⟩
     obtain ⟨e,ee,he⟩:=hv.get hy
     have hj:j<(hereL ss x.1).length:=(List.getElem?_eq_some_iff.mp ee).1
     have me:e∈ss:=hereL_mem (List.mem_of_getElem? ee)
     have lnm:=D.ln e me
     have lvs:vs.length≤100:=by rw [hv5.1,List.length_map,List.length_take];omega
     obtain ⟨p1,vh,vc,qx,rfl,W,hc,hh⟩:=he.mono s5
     obtain ⟨dx1,fs1,ho1,h51,_⟩:=id W.ob
     have c1:=cls_any T e.kd
     refine g1 ⟨⟨[_],rfl,rfl⟩,yes ?_⟩
     refine ⟨_,rfl,p1,_,dx1,fs1,8,["self","amount"],spOut a e.kd,rfl,ho1,h51.ox,c1.cl,by decide,out_any T e.kd,_,rfl,_,rfl,p1,_,dx1,fs1,_,rfl,ho1,c1.cl,c1.n1,h51.nm,_,rfl,_,_,rfl,rfl,e.nm,t-1,rfl,by omega,tn_int (by omega) (by omega),d,kv0,r.1,r.2,_,rfl,.inl ((s3.trans (s4.trans s5)) _ _ hd0),tb0.mono (fun _ _ z=>z.mono (s3.trans (s4.trans s5))),fun qa H6 s6 f6=>?_⟩
     obtain ⟨b1,b2⟩:=D.bx e me
     refine ⟨p1,qa,e.nm,e.st,e.go,vh,vc,qx,e.x,_,rfl,W.mono s6,f6,b1.smr (by decide),(D.ba _).smr (by decide),b2.smr (by decide),fun r' H7 s7 f7=>?_⟩
     have s67:=s6.trans s7
     have h7:=s67 _ _ h5
     refine ⟨_,h7,small1000 (by omega),nextP (by rw [hv.1];exact hj) ⟨hj,same_put nq2 (s5.trans s67),_,upd_same,?_⟩⟩
     rw [List.take_add_one,ee,Option.toList_some,List.map_append]
     exact RowAt.snoc (hv5.mono fun v x z=>(FrIs.mono z s67).ko (.lst h7)) (FrIs.ko ⟨r',rfl,f7⟩ (.lst h7))
    rintro H5 ⟨_,s5,vs,h5,hv5⟩
    rw [hv.1,List.take_length] at hv5
    obtain ⟨N,bN,lN⟩:=bds_in (ss:=hereL ss x.1) (g:=takG r t) (fun e he=>Bd.mono (Bd.mul (D.ba _) (D.bx e (hereL_mem he)).2) (by decide)) (by omega)
    refine ⟨q2,vs,_,N,rfl,SqL.of h5,hv5,bN,lN,fun rr H6 nrr s6 f6=>?_⟩
    have s46:=s4.trans (s5.trans s6)
    have ho6:=s46 _ _ ho3
    refine ⟨_,rfl,_,rfl,o,_,rfl,DPut.k (k:=Sum.inr x.1) ho6 (small1000 (by omega)),?_⟩
    have kp:KeepD H6 (upd H6 o (.dK (putK kvs (Sum.inr x.1) (.ref rr)))):=KeepD.put ho6
    refine ⟨hi,_,_,_,rfl,same_put no (s3.trans s46),by rw [upd_ne nlo];exact s46 _ _ hl3,upd_same,?_⟩
    rw [tk,← addK_new nk]
    refine (Tab.put (n:=x.1) (tb.mono fun v x z=>(FrIs.mono z s46).keep kp) (y:=(inR takG ps ss r t).2 x.1) (FrIs.keep ⟨rr,rfl,f6⟩ kp)).congr fun m _=>?_
    unfold upf
    split
    ·rename_i e
     rw [e]
    ·rfl
  ·rintro σ H3 ⟨_,z5,z6,kvs,rfl,s3,hl3,ho3,tb⟩
   rw [List.length_map,show ps.length=(ps.map (·.1)).length by rw [List.length_map],List.take_length] at tb
   exact ⟨_,rfl,k o H3 no s3 ⟨o,kvs,rfl,ho3,tb,D.np⟩⟩
theorem ok_put_in (T:TX K mg a):FnB P w K mg base CX0 "put_in" 9 ["net","stores","plan","turn"] (spIn K a putG):=by
 refine T.d_put_in.ok sc_put_in (fun vs H Q E h=>?_) (fun f cdv A outer s H vs Q E hr h=>?_)
 ·obtain ⟨_,_,_,_,_,_,_,_,_,rfl,_⟩:=h
  rfl
 ·obtain ⟨p,ls,d,t,ps,ds,ss,ts,r,rfl,D,k⟩:=h
  refine ⟨_,(pss_cons (ps_set (i:=4) sc_put_in.nd rfl (Or.inl rfl) pe_dnewK)
   (pss_cons (ps_for PassesOwn.never rfl (pi_list (pe_mtD0 (CX:=CX0) (pv 0) hr pass0)) (pg_name (i:=5) sc_put_in.nd rfl (Or.inr rfl)) (pss_cons (ps_compG (i:=6) (xs:=["store"]) (rest:=["place"]) sc_put_in.nd rfl rfl rfl (pi_list (pv 1))
   (fun pins fp C' s' H'=>(pg_name (i:=0) (show (["store","place"]:List Str).Nodup by decide +kernel) rfl (Or.inl rfl))) (fun pins fp C' s' H'=>(pts_one (pt_cmpR op_eq (pe_fldK (K:=K) rfl (pv 0) rfl) (pv 1) (nomark _))))
   (fun pins fp C' s' H'=>(pv 0))
   (Clos.many (ys:=["place"]) rfl ⟨rfl,True.intro⟩ rfl (by decide +kernel)) (Reads.many (ys:=["place"]) (js:=[5]) ⟨⟨rfl,rfl,rfl⟩,True.intro⟩))
   (pss_one (ps_dput (hu_of hr) (pv 4) (pv 5) (pe_fn (ok_total T) hr pass0 (pa_cons (pe_compG (xs:=["store"]) (rest:=["plan","turn"]) rfl (pi_list (pv 6))
   (fun pins fp C' s' H'=>(pg_name (i:=0) (show (["store","plan","turn"]:List Str).Nodup by decide +kernel) rfl (Or.inl rfl))) (fun pins fp C' s' H'=>pts_nil)
   (fun pins fp C' s' H'=>(pe_fn (ok_amount T) hr pass0 (pa_cons (pv 1) (pa_cons (pe_fn (ok_name_at T) hr pass0 (pa_cons (pe_fldK (K:=K) rfl (pv 0) rfl) (pa_cons (pv 2) pa_nil))) pa_nil))))
   (Clos.many (ys:=["turn","plan"]) rfl ⟨rfl,rfl,True.intro⟩ rfl (by decide +kernel)) (Reads.many (ys:=["plan","turn"]) (js:=[2,3]) ⟨⟨rfl,rfl,rfl⟩,⟨rfl,rfl,rfl⟩,True.intro⟩)) pa_nil)) rfl))))
   (pss_one (ps_ret (pv 4))))),?_⟩
  try dsimp only [cxOf,Cx.nox,Cx.wish]
  intro o no
  have lp:=D.lp
  have lss:=D.lss
  have t1:=D.t1
  have t2:=D.t2
  have s1:=same_upd (o:=.dK []) no
  have ho0:upd H o (.dK []) o=some (.dK []):=upd_same
  generalize upd H o (.dK [])=H1 at s1 ho0 ⊢
  obtain ⟨dx,dw,dy,hp,hw,hy⟩:=id (D.net.mono s1)
  have nob:=fsN_no dw dy (m:="names") (by decide +kernel) (by decide +kernel)
  obtain ⟨d',kv0,e0,hd0,tb0,nk0⟩:=id D.pl
  cases e0
  refine ⟨_,rfl,p,a.Net,dx,_,1,["self"],spNNames a,rfl,hp,nob,T.cl_Net,by decide,ok_Net_names T,p,ps,ds,rfl,D.net.mono s1,fun l nl=>?_⟩
  have s2:=s1.trans (same_upd (o:=.lst (ps.map fun x=>V.str x.1)) nl)
  have ho1:=same_upd (o:=.lst (ps.map fun x=>V.str x.1)) nl _ _ ho0
  have hl:upd H1 l (.lst (ps.map fun x=>V.str x.1)) l=some (.lst (ps.map fun x=>V.str x.1)):=upd_same
  have nlo:l≠o:=fun z=>by rw [z,ho0] at nl;cases nl
  generalize upd H1 l (.lst (ps.map fun x=>V.str x.1))=H2 at s2 ho1 hl ⊢
  refine ⟨l,rfl,⟨_,SqL.of hl⟩,for_list (K:=K) (a:=l) (xs:=ps.map fun x=>V.str x.1) (fun i σ H3=>i≤ps.length∧∃ z5 z6 kvs,σ=[some (.ref p),some (.ref ls),some (.ref d),some (.int t),some (.ref o),z5,z6]∧Same H H3∧H3 l=some (.lst (ps.map fun x=>V.str x.1))∧H3 o=some (.dK kvs)∧Tab (FrIs a) H3 kvs ((ps.map (·.1)).take i) (inR putG ps ss r t).2) ⟨Nat.zero_le _,_,_,[],rfl,s2,hl,ho1,Tab.nil⟩ (fun i σ H3 _ ⟨_,_,_,_,_,_,h,_⟩=>SqL.of h) ?_ ?_⟩
  ·rintro i x' σ H3 hx ⟨_,z5,z6,kvs,rfl,s3,hl3,ho3,tb⟩
   rw [List.getElem?_map] at hx
   cases ex:ps[i]? with
   | none=>rw [ex] at hx;cases hx
   | some x=>
    rw [ex] at hx
    cases hx
    have hi:=(List.getElem?_eq_some_iff.mp ex).1
    have en:(ps.map (·.1))[i]?=some x.1:=by rw [List.getElem?_map,ex];rfl
    obtain ⟨tk,nk⟩:=take_next D.np en
    have lk:kvs.length≤900:=by rw [tb.len,List.length_take,List.length_map];omega
    refine ⟨_,rfl,ls,rfl,⟨_,s3.seq D.hs⟩,fun hq nhq=>?_⟩
    refine compG_list (K:=K) (a:=ls) (xs:=ts) (fun j H4=>j≤ss.length∧Same H3 H4∧∃ us,H4 hq=some (.lst us)∧RowAt (WayE a) H4 us (hereL (ss.take j) x.1)) ⟨Nat.zero_le _,same_upd nhq,[],upd_same,RowAt.nil⟩ (fun j H4 ⟨_,s4,_⟩=>s4.seq (s3.seq D.hs)) ?_ ?_
    ·rintro j y H4 hy ⟨_,s4,us,h4,hv⟩
     obtain ⟨e,ee,he⟩:=D.rs.get hy
     have hj:j<ss.length:=(List.getElem?_eq_some_iff.mp ee).1
     have he4:=he.mono (s3.trans s4)
     obtain ⟨p1,vh,vc,qx,rfl,W,hc,hh⟩:=id he4
     obtain ⟨dx1,fs1,ho1,h51,_⟩:=id W.ob
     have c1:=cls_any T e.kd
     have tk2:=hereL_next ee x.1
     have lus:us.length≤100:=by
      rw [hv.1]
      exact Nat.le_trans (hereL_len _ _) (by rw [List.length_take];omega)
     refine g1 ⟨⟨[_],rfl,rfl⟩,?_⟩
     refine ⟨_,rfl,p1,_,dx1,fs1,_,rfl,ho1,c1.cl,c1.n2,h51.st,_,rfl,rfl,_,rfl,?_⟩
     by_cases hin:e.st=x.1
     ·refine iteC (decide_eq_true (congrArg V.str hin)) ?_
      have sy:Stays a H4 (upd H4 hq (.lst (us++[.ref p1]))):=.put h4 (fun _ _ _ z=>by cases z)
      refine ⟨_,rfl,_,h4,small1000 (by omega),nextP (by rw [D.rs.1];exact hj) ⟨hj,same_put nhq s4,_,upd_same,?_⟩⟩
      rw [tk2,List.filter_cons_of_pos (by simpa using hin),List.filter_nil]
      exact RowAt.snoc (hv.mono fun v x z=>z.keep sy) (he4.keep sy)
     ·refine iteD (decide_eq_false fun z=>hin (V.str.inj z)) ?_
      refine nextP (by rw [D.rs.1];exact hj) ⟨hj,s4,us,h4,?_⟩
      rw [tk2,List.filter_cons_of_neg (by simpa using hin),List.filter_nil,List.append_nil]
      exact hv
    rintro H4 ⟨_,s4,us,h4,hv⟩
    rw [D.rs.1,List.take_length] at hv
    have lh:=hereL_len ss x.1
    refine ⟨_,rfl,hq,rfl,⟨_,SqL.of h4⟩,fun q2 nq2=>?_⟩
    refine compG_list (K:=K) (a:=hq) (xs:=us) (fun j H5=>j≤(hereL ss x.1).length∧Same H4 H5∧∃ vs,H5 q2=some (.lst vs)∧RowAt (FrIs a) H5 vs (((hereL ss x.1).take j).map (putG r t))) ⟨Nat.zero_le _,same_upd nq2,[],upd_same,RowAt.nil⟩ (fun j H5 ⟨_,s5,_⟩=>SqL.of (s5 _ _ h4)) ?_ ?_
    ·rintro j y H5 hy ⟨_,s5,vs,h5,hv5⟩
     obtain ⟨e,ee,he⟩:=hv.get hy
     have hj:j<(hereL ss x.1).length:=(List.getElem?_eq_some_iff.mp ee).1
     have me:e∈ss:=hereL_mem (List.mem_of_getElem? ee)
     have lnm:=D.ln e me
     have lvs:vs.length≤100:=by rw [hv5.1,List.length_map,List.length_take];omega
     obtain ⟨p1,vh,vc,qx,rfl,W,hc,hh⟩:=he.mono s5
     obtain ⟨dx1,fs1,ho1,h51,_⟩:=id W.ob
     have c1:=cls_any T e.kd
     refine g1 ⟨⟨[_],rfl,rfl⟩,yes ?_⟩
     refine ⟨_,rfl,_,rfl,p1,_,dx1,fs1,_,rfl,ho1,c1.cl,c1.n1,h51.nm,_,rfl,e.nm,t,rfl,by omega,tn_int (by omega) (by omega),d,kv0,r.1,r.2,_,rfl,.inl ((s3.trans (s4.trans s5)) _ _ hd0),tb0.mono (fun _ _ z=>z.mono (s3.trans (s4.trans s5))),fun qa H6 s6 f6=>?_⟩
     have h7:=s6 _ _ h5
     refine ⟨_,h7,small1000 (by omega),nextP (by rw [hv.1];exact hj) ⟨hj,same_put nq2 (s5.trans s6),_,upd_same,?_⟩⟩
     rw [List.take_add_one,ee,Option.toList_some,List.map_append]
     exact RowAt.snoc (hv5.mono fun v x z=>(FrIs.mono z s6).ko (.lst h7)) (FrIs.ko ⟨qa,rfl,f6⟩ (.lst h7))
    rintro H5 ⟨_,s5,vs,h5,hv5⟩
    rw [hv.1,List.take_length] at hv5
    obtain ⟨N,bN,lN⟩:=bds_in (ss:=hereL ss x.1) (g:=putG r t) (fun e he=>Bd.mono (D.ba _) (by decide)) (by omega)
    refine ⟨q2,vs,_,N,rfl,SqL.of h5,hv5,bN,lN,fun rr H6 nrr s6 f6=>?_⟩
    have s46:=s4.trans (s5.trans s6)
    have ho6:=s46 _ _ ho3
    refine ⟨_,rfl,_,rfl,o,_,rfl,DPut.k (k:=Sum.inr x.1) ho6 (small1000 (by omega)),?_⟩
    have kp:KeepD H6 (upd H6 o (.dK (putK kvs (Sum.inr x.1) (.ref rr)))):=KeepD.put ho6
    refine ⟨hi,_,_,_,rfl,same_put no (s3.trans s46),by rw [upd_ne nlo];exact s46 _ _ hl3,upd_same,?_⟩
    rw [tk,← addK_new nk]
    refine (Tab.put (n:=x.1) (tb.mono fun v x z=>(FrIs.mono z s46).keep kp) (y:=(inR putG ps ss r t).2 x.1) (FrIs.keep ⟨rr,rfl,f6⟩ kp)).congr fun m _=>?_
    unfold upf
    split
    ·rename_i e
     rw [e]
    ·rfl
  ·rintro σ H3 ⟨_,z5,z6,kvs,rfl,s3,hl3,ho3,tb⟩
   rw [List.length_map,show ps.length=(ps.map (·.1)).length by rw [List.length_map],List.take_length] at tb
   exact ⟨_,rfl,k o H3 no s3 ⟨o,kvs,rfl,ho3,tb,D.np⟩⟩
theorem NetNew.ap {H H':Hp} {q d:Addr} {o:HO} {ps:List (Str × Rat)} {ds:List WD} (h:NetNew a H H' q ps ds) (hd:H d=some o):NetAp a H' q d ps ds:=let ⟨dx,dw,dy,g1,g2,g3,g4,g5⟩:=h;⟨dx,dw,dy,g1,g2,g3,(fun z=>by rw [z,hd] at g4;cases g4),(fun z=>by rw [z,hd] at g5;cases g5)⟩
inductive IspByX (K:PySem.W.Frag) (a:Ad) (vs:List V) (H:Hp) (Q:VK) (E:XK):Prop
 | mk (p ls lw d:Addr) (ps:List (Str × Rat)) (ds ss:List WD) (ws:List WRow) (ts tw:List V) (r:WRow) (h1:vs=[.ref p,.ref ls,.ref lw,.ref d]) (h2:TuI0 K a H p ls lw ps ds ss ws ts tw) (h3:DctIs a H (.ref d) r) (h4:(∀ x∈ss,Bd 20 x.x∧Bd 20 (gainOf x.kd x.x))) (h5:(∀ n,Bd 30 (amtOf r.1 r.2 n))) (h6:(dueN' ps ds ss ws=none→NetOk (psN ps ws ws.length) (dsN ds ss ws.length ws.length)∧r.1=[])) (h7:(dueN' ps ds ss ws=none→∀ l H',Same H H'→Q (.ref l) H')) (h8:(∀ x,dueN' ps ds ss ws=some x→XDue a H E x)):IspByX K a vs H Q E
def spByX (K:PySem.W.Frag) (a:Ad):Sp:=fun vs H Q E=>IspByX K a vs H Q E
theorem ok_by_turnsX (T:TX K mg a):FnB P w K mg base (CX1 P w) "by_turns" 10 ["net","stores","wants","plan"] (spByX K a):=by
 refine T.d_by_turns.okX sc_by_turns (fun vs H Q E h=>?_) (fun f cdv A outer s H vs Q E hr h=>?_)
 ·obtain ⟨_,_,_,_,_,_,_,_,_,_,_,rfl,_⟩:=h
  rfl
 ·obtain ⟨p,ls,lw,d,ps,ds,ss,ws,ts,tw,r,rfl,D,pl,bx,ba,ok,k,kx⟩:=h
  refine ⟨_,(pss_cons (ps_expr (pe_fn (ok_refuse_other_names T) hr pass0 (pa_cons (pe_fn (ok_turnedX T) hr pass1 (pa_cons (pv 0) (pa_cons (pv 1) (pa_cons (pv 2) pa_nil)))) (pa_cons (pv 3) pa_nil))))
   (pss_cons (ps_set (i:=4) sc_by_turns.nd rfl (Or.inl rfl) (pe_lst pa_nil))
   (pss_cons (ps_for owns1 rfl (pi_range2 rfl T.z_range (pa_cons pe_int (pa_cons (pe_op op_add (pe_callB call_lenK (by rfl) T.z_len PySem.boot_len (pa_cons (pv 2) pa_nil)) pe_int) pa_nil))) (pg_name (i:=5) sc_by_turns.nd rfl (Or.inl rfl)) (pss_cons (ps_set (i:=6) sc_by_turns.nd rfl (Or.inl rfl) (pe_fn (ok_own_plan T) hr pass0 (pa_cons (pv 0) (pa_cons (pv 3) (pa_cons (pv 5) pa_nil)))))
   (pss_one (ps_expr (pe_bm PySem.F.plainAttrs_list PySem.F.slot_list_append PySem.F.type_list_append mt_append (pv 4) (pa_cons (pe_tup (pa_cons (pv 6) (pa_cons (pe_fn (ok_taken_in T) hr pass0 (pa_cons (pv 0) (pa_cons (pv 1) (pa_cons (pv 3) (pa_cons (pv 5) pa_nil))))) (pa_cons (pe_fn (ok_put_in T) hr pass0 (pa_cons (pv 0) (pa_cons (pv 1) (pa_cons (pv 3) (pa_cons (pv 5) pa_nil))))) pa_nil)))) pa_nil))))))
   (pss_one (ps_ret (pv 4)))))),?_⟩
  try dsimp only [cxOf,Cx.nox,Cx.wish]
  have lp:=D.lp
  have ld:=D.ld
  have lss:=D.lss
  have lws:=D.lws
  obtain ⟨d',kv0,e0,hd0,tb0,nk0⟩:=id pl
  cases e0
  refine ⟨_,rfl,_,rfl,_,rfl,p,ls,lw,ps,ds,ss,ws,ts,tw,rfl,D,fun e=>(ok e).1,fun e q H1 nq s1 hq=>?_,kx⟩
  obtain ⟨no,r0⟩:=ok e
  refine ⟨_,rfl,q,d,_,_,kv0,r.1,r.2,rfl,(hq.ap hd0).off (s1 _ _ hd0),no.nd,s1 _ _ hd0,tb0.mono (fun _ _ z=>z.mono s1),nk0,fun n hn=>(by rw [r0] at hn;cases hn),fun H2 s2'=>?_⟩
  have s2:=s1.trans s2'
  clear hq nq s1 s2'
  refine ⟨by decide,fun l nl=>?_⟩
  have nl':=s2.free nl
  have s3:=s2.trans (same_upd (o:=.lst []) nl)
  have h3:upd H2 l (.lst []) l=some (.lst []):=upd_same
  generalize upd H2 l (.lst [])=H3 at s3 h3 ⊢
  have ltw:tw.length=ws.length:=D.rw.1
  refine ⟨_,rfl,lw,_,rfl,.inl (s3.seq D.hw),_,_,rfl,rfl,_,_,rfl,⟨by decide,by decide,by omega,by omega⟩,for_range (fun i σ H4=>i≤ws.length∧∃ (z5 z6:Option V) (us:List V),σ=[some (.ref p),some (.ref ls),some (.ref lw),some (.ref d),some (.ref l),z5,z6]∧Same H H4∧H4 l=some (.lst us)∧us.length=i) ⟨Nat.zero_le _,_,_,[],rfl,s3,h3,rfl⟩ ?_ ?_⟩
  ·rintro i σ H4 hi ⟨_,z5,z6,us,rfl,s4,h4,lus⟩
   have hi':i<ws.length:=by omega
   have et:(1:Int)+(i:Int)=((i+1:Nat):Int):=by omega
   rw [et]
   have I:∀ H5,Same H H5→InIn K a H5 p ls d ((i+1:Nat):Int) ps ds ss ts r:=fun H5 s5=>⟨D.net.mono s5,D.np,lp,s5.seq D.hs,D.rs.mono (fun _ _ z=>z.mono s5),lss,pl.mono s5,fun x hx=>(D.ts' x hx 1 (by decide)).ln,by omega,by omega,bx,ba⟩
   refine ⟨_,rfl,_,rfl,_,rfl,p,d,((i+1:Nat):Int),ps,ds,r,rfl,D.net.mono s4,D.ndd,by omega,pl.mono s4,fun x hx=>(D.td x hx 1 (by decide)).ln,tn_nat (by omega),fun q1 H5 nq1 s5 hq1=>?_⟩
   have s45:=s4.trans s5
   refine ⟨_,rfl,.inl ⟨rfl,_,SqL.of (s5 _ _ h4)⟩,_,rfl,?_⟩
   refine ⟨_,rfl,_,rfl,_,rfl,_,rfl,p,ls,d,((i+1:Nat):Int),ps,ds,ss,ts,r,rfl,I _ s45,fun q2 H6 nq2 s6 hq2=>?_⟩
   refine ⟨_,rfl,_,rfl,_,rfl,_,rfl,p,ls,d,((i+1:Nat):Int),ps,ds,ss,ts,r,rfl,I _ (s45.trans s6),fun q3 H7 nq3 s7 hq3=>?_⟩
   refine ⟨by show 3≤sizeLine;decide,fun t nt=>?_⟩
   have s8:=same_upd (o:=.tup [.ref q1,.ref q2,.ref q3]) nt
   generalize upd H7 t (.tup [.ref q1,.ref q2,.ref q3])=H8 at s8 ⊢
   have s48:=s5.trans (s6.trans (s7.trans s8))
   refine ⟨l,_,_,rfl,rfl,s48 _ _ h4,small1000 (by omega),?_⟩
   exact ⟨hi',_,_,_,rfl,same_put nl' (s4.trans s48),upd_same,by rw [List.length_append,lus];rfl⟩
  ·rintro σ H4 ⟨_,z5,z6,us,rfl,s4,h4,lus⟩
   exact ⟨_,rfl,k e l H4 s4⟩
def cellA (ns:List Int) (k:Nat):Int:=if k<ns.length then ns.getD k 0 else if ns.length=0 then 0 else (ns.getD (k % ns.length) 0 % 1000003*48271+(k:Int)*k*7919) % 1000003
def nameA (k c:Int):Str:=Txt.mul ⟨#[sgAt (c % 37)]⟩ (c / 37 % 4*(1+c / 5 % 9 / 8*12))++⟨#[sgAt ((k*5+c / 148) % 37)]⟩++Txt.mul ⟨#[sgAt (c / 11 % 37)]⟩ (c / 7 % 3)
theorem nameA_inj {i j c:Int} (i0:0≤i) (i1:i<37) (j0:0≤j) (j1:j<37) (h:nameA i c=nameA j c):i=j:=by
 unfold nameA at h
 have:=app_left (app_right h)
 injection this with e
 have e2:sgAt ((i*5+c / 148) % 37)=sgAt ((j*5+c / 148) % 37):=by simpa using e
 obtain ⟨a1,a2⟩:=emod_in (i*5+c / 148) (show (0:Int)<37 by decide)
 obtain ⟨b1,b2⟩:=emod_in (j*5+c / 148) (show (0:Int)<37 by decide)
 have:=sgAt_inj _ (by omega) _ (by omega) e2
 omega
def namesA (c:Int) (n:Nat):List Str:=(List.range n).map fun i:Nat=>nameA (i:Int) c
theorem namesA_nd {c:Int} {n:Nat} (h:n≤37):(namesA c n).Nodup:=by
 unfold namesA
 rw [List.nodup_iff_pairwise_ne,List.pairwise_map]
 refine (List.nodup_range (n:=n)).imp_of_mem ?_
 intro i j hi hj ne e
 have hi:=List.mem_range.mp hi
 have hj:=List.mem_range.mp hj
 have:=nameA_inj (by omega) (by omega) (by omega) (by omega) e
 omega
theorem namesA_succ (c:Int) (n:Nat):namesA c (n+1)=namesA c n++[nameA (n:Int) c]:=by unfold namesA;rw [List.range_succ,List.map_append];rfl
structure N50 (c:Int × Int):Prop where
 t:c.1.natAbs≤1000000
 b:1≤c.2
 b':c.2≤997
theorem N50.sm {c:Int × Int} (h:N50 c):Sm c.1∧Sm c.2:=by
 have:=h.t
 have:=h.b
 have:=h.b'
 exact ⟨Sm.of_le (n:=20) (by omega) (by decide),Sm.of_le (n:=20) (by omega) (by decide)⟩
def vC (c:Int × Int):Rat:=Rat.divInt c.1 c.2
abbrev Ent:=Str × (Int × Int)
def EntIs (H:Hp) (v:V) (e:Ent):Prop:=∃ t vp,v=.ref t∧H t=some (.tup [.str e.1,vp])∧DueIs H vp e.2
theorem EntIs.mono {H H':Hp} {v:V} {e:Ent} (h:EntIs H v e) (s:Same H H'):EntIs H' v e:=let ⟨t,vp,x,y,z⟩:=h;⟨t,vp,x,s _ _ y,z.mono s⟩
theorem EntIs.ko {H H':Hp} {v:V} {e:Ent} (h:EntIs H v e) (s:KeepO H H'):EntIs H' v e:=let ⟨t,vp,x,y,z⟩:=h;⟨t,vp,x,s.tup _ _ y,z.ko s⟩
structure W7 where
 nm:Str
 st:Str
 go:Str
 kd:Int
 gain:Int × Int
 hi:Option (Int × Int)
 co:Int × Int
def W7Is (H:Hp) (v:V) (r:W7):Prop:=∃ p vg vh vc,v=.ref p∧H p=some (.tup [.str r.nm,.str r.st,.str r.go,.int r.kd,vg,vh,vc])∧DueIs H vg r.gain∧OptIs H vh r.hi∧DueIs H vc r.co
theorem W7Is.mono {H H':Hp} {v:V} {r:W7} (h:W7Is H v r) (s:Same H H'):W7Is H' v r:=let ⟨p,vg,vh,vc,e,f,h1,h3,h4⟩:=h;⟨p,vg,vh,vc,e,s _ _ f,h1.mono s,h3.mono s,h4.mono s⟩
theorem W7Is.ko {H H':Hp} {v:V} {r:W7} (h:W7Is H v r) (s:KeepO H H'):W7Is H' v r:=let ⟨p,vg,vh,vc,e,f,h1,h3,h4⟩:=h;⟨p,vg,vh,vc,e,s.tup _ _ f,h1.ko s,h3.ko s,h4.ko s⟩
structure W7Ok (sp:List Str) (r:W7):Prop where
 st:r.st∈sp
 go:r.go∈sp
 ne:r.st≠r.go
 k0:r.kd=0→r.gain=(1,1)
 k2:r.kd=2→r.gain.1≤r.gain.2
 g1:1≤r.gain.1∧r.gain.1≤997
 g2:1≤r.gain.2∧r.gain.2≤997
 hi:∀ c,r.hi=some c→0≤c.1∧N50 c
 co:N50 r.co
 kr:0≤r.kd∧r.kd<4
inductive IspCellA (K:PySem.W.Frag) (vs:List V) (H:Hp) (Q:VK):Prop
 | mk (l:Addr) (ns:List Int) (k:Nat) (h1:vs=[.ref l,.int (k:Int)]) (h2:SqL K H l (ns.map V.int)) (h3:k≤1000) (h4:Q (.int (cellA ns k)) H):IspCellA K vs H Q
def spCellA (K:PySem.W.Frag):Sp:=fun vs H Q _=>IspCellA K vs H Q
theorem ok_law_cell_at (T:TX K mg a):FnB P w K mg base CX0 "_law_cell_at" 1 ["_law_script","_law_k"] (spCellA K):=by
 refine T.d_law_cell_at.ok sc_law_cell_at (fun vs H Q E h=>?_) (fun f cdv A outer s H vs Q E hr h=>?_)
 ·obtain ⟨l,ns,i,rfl,_⟩:=h
  rfl
 ·obtain ⟨l,ns,i,rfl,hS,i1000,k⟩:=h
  refine ⟨_,(pss_cons (ps_if (pt_cmpR op_lt (pv 1) (pe_callB call_lenK (by rfl) T.z_len PySem.boot_len (pa_cons (pv 0) pa_nil)) (nomark _)) (pss_one (ps_ret (pe_ix ix_list (pv 0) (pv 1) (fun _ _=>rfl)))) pss_nil)
   (pss_cons (ps_if (pt_cmpR op_eq (pe_callB call_lenK (by rfl) T.z_len PySem.boot_len (pa_cons (pv 0) pa_nil)) pe_int (nomark _)) (pss_one (ps_ret pe_int)) pss_nil)
   (pss_one (ps_ret (pe_op op_mod (pe_op op_add (pe_op op_mulB (pe_op op_mod (pe_ix ix_list (pv 0) (pe_op op_mod (pv 1) (pe_callB call_lenK (by rfl) T.z_len PySem.boot_len (pa_cons (pv 0) pa_nil))) (fun _ _=>rfl)) pe_int) pe_int) (pe_op op_mulB (pe_op op_mulB (pv 1) (pv 1)) pe_int)) pe_int))))),?_⟩
  try dsimp only [cxOf,Cx.nox,Cx.wish]
  have at_:∀ j:Nat,j<ns.length→atI (ns.map V.int) (j:Int)=some (.int (ns.getD j 0)):=fun j hj=>atI_nat (by rw [List.getElem?_map,List.getD_eq_getElem?_getD,List.getElem?_eq_getElem hj];rfl)
  refine ⟨_,rfl,_,rfl,_,_,rfl,.inl hS,_,_,rfl,rfl,_,rfl,?_⟩
  rw [List.length_map]
  unfold cellA at k
  refine ite2 (fun hlt=>?_) (fun hge=>?_)
  ·have hlt':(i:Int)<(ns.length:Int):=of_decide_eq_true hlt
   have hl:i<ns.length:=by omega
   rw [if_pos hl] at k
   exact ⟨_,rfl,_,rfl,_,_,_,_,rfl,rfl,hS,at_ i hl,k⟩
  ·have hge':¬ (i:Int)<(ns.length:Int):=fun z=>hge (decide_eq_true z)
   rw [if_neg (show ¬ i<ns.length by omega)] at k
   refine ⟨_,rfl,_,_,rfl,.inl hS,rfl,_,rfl,?_⟩
   rw [List.length_map]
   refine ifV (fun h0=>?_) (fun h0=>?_)
   ·rw [if_pos (show ns.length=0 by omega)] at k
    exact k
   ·have hpos:0<ns.length:=by omega
    rw [if_neg (show ¬ ns.length=0 by omega)] at k
    have em:(i:Int) % ((ns.map V.int).length:Int)=((i % ns.length:Nat):Int):=by rw [List.length_map];exact (Int.natCast_emod _ _).symm
    refine ⟨_,rfl,_,rfl,_,rfl,_,_,rfl,.inl hS,_,_,rfl,rfl,by rw [List.length_map];omega,l,_,_,_,rfl,rfl,hS,by rw [em];exact at_ _ (Nat.mod_lt _ hpos),?_⟩
    have b1:=Int.emod_nonneg (ns.getD (i % ns.length) 0) (show (1000003:Int)≠0 by decide)
    have b2:=Int.emod_lt_of_pos (ns.getD (i % ns.length) 0) (show (0:Int)<1000003 by decide)
    refine ⟨_,_,rfl,rfl,by show (0:Int)<1000003;decide,_,_,rfl,rfl,?m1,_,rfl,_,rfl,_,_,rfl,rfl,?m2,_,_,rfl,rfl,?m3,_,_,rfl,rfl,_,_,rfl,rfl,by show (0:Int)<1000003;decide,k⟩
    case m1=>exact ⟨Sm.of_le (n:=20) (by omega) (by decide),Sm.of_le (n:=20) (by decide) (by decide)⟩
    case m2=>exact ⟨Sm.of_le (n:=20) (by omega) (by decide),Sm.of_le (n:=20) (by omega) (by decide)⟩
    case m3=>exact ⟨Sm.of_le (n:=20) (by rw [Int.natAbs_mul];exact Nat.le_trans (Nat.mul_le_mul (show (i:Int).natAbs≤1000 by omega) (show (i:Int).natAbs≤1000 by omega)) (by decide)) (by decide),Sm.of_le (n:=20) (by decide) (by decide)⟩
inductive IspNameA (vs:List V) (H:Hp) (Q:VK):Prop
 | mk (k c:Int) (h1:vs=[.int k,.int c]) (h2:0≤k) (h3:k<37) (h4:Q (.str (nameA k c)) H):IspNameA vs H Q
def spNameA:Sp:=fun vs H Q _=>IspNameA vs H Q
theorem one_len {c:Nat}:(⟨#[c]⟩:Str).length=1:=rfl
theorem ok_law_name (T:TX K mg a):FnB P w K mg base CX0 "_law_name" 1 ["_law_at","_law_cell"] spNameA:=by
 refine T.d_law_name.ok sc_law_name (fun vs H Q E h=>?_) (fun f cdv A outer s H vs Q E hr h=>?_)
 ·obtain ⟨k,c,rfl,_⟩:=h
  rfl
 ·obtain ⟨i,c,rfl,h0,h1,k⟩:=h
  refine ⟨_,(pss_cons (ps_set (i:=2) sc_law_name.nd rfl (Or.inl rfl) pe_str)
   (pss_cons (ps_set (i:=3) sc_law_name.nd rfl (Or.inl rfl) (pe_op op_rep_str (pe_ix ix_str (pv 2) (pe_op op_mod (pv 1) pe_int) (fun _ _=>rfl)) (pe_op op_mulB (pe_op op_mod (pe_op op_fdiv (pv 1) pe_int) pe_int) (pe_op op_add pe_int (pe_op op_mulB (pe_op op_fdiv (pe_op op_mod (pe_op op_fdiv (pv 1) pe_int) pe_int) pe_int) pe_int)))))
   (pss_cons (ps_set (i:=4) sc_law_name.nd rfl (Or.inl rfl) (pe_ix ix_str (pv 2) (pe_op op_mod (pe_op op_add (pe_op op_mulB (pv 0) pe_int) (pe_op op_fdiv (pv 1) pe_int)) pe_int) (fun _ _=>rfl)))
   (pss_one (ps_ret (pe_op op_add_str (pe_op op_add_str (pv 3) (pv 4)) (pe_op op_rep_str (pe_ix ix_str (pv 2) (pe_op op_mod (pe_op op_fdiv (pv 1) pe_int) pe_int) (fun _ _=>rfl)) (pe_op op_mod (pe_op op_fdiv (pv 1) pe_int) pe_int)))))))),?_⟩
  try dsimp only [cxOf,Cx.nox,Cx.wish]
  obtain ⟨p1,p2⟩:=emod_in c (show (0:Int)<37 by decide)
  obtain ⟨q1,q2⟩:=emod_in (c / 37) (show (0:Int)<4 by decide)
  obtain ⟨r1,r2⟩:=emod_in (c / 5) (show (0:Int)<9 by decide)
  obtain ⟨t1,t2⟩:=emod_in (i*5+c / 148) (show (0:Int)<37 by decide)
  obtain ⟨u1,u2⟩:=emod_in (c / 11) (show (0:Int)<37 by decide)
  obtain ⟨v1,v2⟩:=emod_in (c / 7) (show (0:Int)<3 by decide)
  unfold nameA at k
  have d1:0≤c / 5 % 9 / 8∧c / 5 % 9 / 8≤1:=by omega
  have e1:0≤c / 37 % 4*(1+c / 5 % 9 / 8*12)∧c / 37 % 4*(1+c / 5 % 9 / 8*12)≤39:=by
   have g1:0≤1+c / 5 % 9 / 8*12:=by omega
   have g2:1+c / 5 % 9 / 8*12≤13:=by omega
   refine ⟨Int.mul_nonneg q1 g1,Int.le_trans (Int.mul_le_mul (show c / 37 % 4≤3 by omega) g2 g1 (by decide)) (by decide)⟩
  have l1:(Txt.mul (⟨#[sgAt (c % 37)]⟩:Str) (c / 37 % 4*(1+c / 5 % 9 / 8*12))).length≤39:=by rw [len_cps,mul_cps,List.length_replicate];omega
  have l2:(Txt.mul (⟨#[sgAt (c / 11 % 37)]⟩:Str) (c / 7 % 3)).length≤3:=by rw [len_cps,mul_cps,List.length_replicate];omega
  walk_at "rd"
  refine ⟨by rw [PySem.sizeLine_eq];decide,sgAt_some p1 p2,?_⟩
  walk_at "rd"
  refine ⟨⟨Sm.of_le (n:=20) (by omega) (by decide),Sm.of_le (n:=20) (by decide) (by decide)⟩,?_⟩
  walk_at "rd"
  refine ⟨⟨Sm.of_le (n:=20) (by omega) (by decide),Sm.of_le (n:=20) (by omega) (by decide)⟩,?_⟩
  walk_at "rd"
  refine ⟨show (c / 37 % 4*(1+c / 5 % 9 / 8*12)).natAbs<1000 by omega,?_⟩
  walk_at "rd"
  refine ⟨⟨Sm.of_le (n:=20) (by omega) (by decide),Sm.of_le (n:=20) (by decide) (by decide)⟩,?_⟩
  walk_at "rd"
  refine ⟨by rw [PySem.sizeLine_eq];decide,sgAt_some t1 t2,?_⟩
  walk_at "rd"
  refine ⟨by rw [PySem.sizeLine_eq,one_len];omega,?_⟩
  walk_at "rd"
  refine ⟨by rw [PySem.sizeLine_eq];decide,sgAt_some u1 u2,?_⟩
  walk_at "rd"
  refine ⟨by omega,?_⟩
  walk_at "rd"
  refine ⟨by rw [PySem.sizeLine_eq,PySem.strLen_append,one_len];omega,?_⟩
  exact k
inductive IspNum (vs:List V) (H:Hp) (Q:VK):Prop
 | mk (c:Int) (h1:vs=[.int c]) (h2:∀ (z:Int × Int) p,H p=none→N50 z→Q (.ref p) (upd H p (.tup [.int z.1,.int z.2]))):IspNum vs H Q
def spNum:Sp:=fun vs H Q _=>IspNum vs H Q
theorem ok_law_number (T:TX K mg a):FnB P w K mg base CX0 "_law_number" 1 ["_law_cell"] spNum:=by
 refine T.d_law_number.ok sc_law_number (fun vs H Q E h=>?_) (fun f cdv A outer s H vs Q E hr h=>?_)
 ·obtain ⟨c,rfl,_⟩:=h
  rfl
 ·obtain ⟨c,rfl,k⟩:=h
  refine ⟨_,(pss_cons (ps_if (pt_cmpR op_eq (pe_op op_mod (pe_op op_fdiv (pv 0) pe_int) pe_int) pe_int (nomark _)) (pss_one (ps_ret (pe_tup (pa_cons pe_int (pa_cons pe_int pa_nil))))) pss_nil)
   (pss_cons (ps_if (pt_cmpR op_eq (pe_op op_mod (pe_op op_fdiv (pv 0) pe_int) pe_int) pe_int (nomark _)) (pss_one (ps_ret (pe_tup (pa_cons (pe_op op_sub (pe_op op_mod (pe_op op_fdiv (pv 0) pe_int) pe_int) pe_int) (pa_cons pe_int pa_nil))))) pss_nil)
   (pss_one (ps_ret (pe_tup (pa_cons (pe_op op_sub (pe_op op_mod (pv 0) pe_int) pe_int) (pa_cons (pe_op op_add pe_int (pe_op op_mod (pe_op op_fdiv (pv 0) pe_int) pe_int)) pa_nil))))))),?_⟩
  try dsimp only [cxOf,Cx.nox,Cx.wish]
  walk_at "rd"
  refine ifV (fun h1=>⟨by show 2≤sizeLine;decide,fun p np=>k (0,1) p np ⟨by decide,by decide,by decide⟩⟩) (fun h1=>?_)
  walk_at "rd"
  refine ifV (fun h2=>?_) (fun h2=>?_)
  ·walk_at "rd"
   obtain ⟨e0,e1⟩:=emod_in (c / 750) (show (0:Int)<2000001 by decide)
   exact ⟨by show 2≤sizeLine;decide,fun p np=>k (c / 750 % 2000001-1000000,1) p np ⟨by dsimp only;omega,by dsimp only;decide,by dsimp only;decide⟩⟩
  ·walk_at "rd"
   obtain ⟨e0,e1⟩:=emod_in c (show (0:Int)<25 by decide)
   obtain ⟨f0,f1⟩:=emod_in (c / 25) (show (0:Int)<6 by decide)
   exact ⟨by show 2≤sizeLine;decide,fun p np=>k (c % 25-9,1+c / 25 % 6) p np ⟨by dsimp only;omega,by dsimp only;omega,by dsimp only;omega⟩⟩
inductive IspNotU (vs:List V) (H:Hp) (Q:VK):Prop
 | mk (c:Int) (h1:vs=[.int c]) (h2:∀ (z:Int × Int) p,H p=none→0≤z.1→N50 z→Q (.ref p) (upd H p (.tup [.int z.1,.int z.2]))):IspNotU vs H Q
def spNotU:Sp:=fun vs H Q _=>IspNotU vs H Q
theorem ok_law_not_under (T:TX K mg a):FnB P w K mg base CX0 "_law_not_under" 1 ["_law_cell"] spNotU:=by
 refine T.d_law_not_under.ok sc_law_not_under (fun vs H Q E h=>?_) (fun f cdv A outer s H vs Q E hr h=>?_)
 ·obtain ⟨c,rfl,_⟩:=h
  rfl
 ·obtain ⟨c,rfl,k⟩:=h
  refine ⟨_,(pss_cons (ps_if (pt_cmpR op_eq (pe_op op_mod (pe_op op_fdiv (pv 0) pe_int) pe_int) pe_int (nomark _)) (pss_one (ps_ret (pe_tup (pa_cons (pe_op op_mod (pe_op op_fdiv (pv 0) pe_int) pe_int) (pa_cons pe_int pa_nil))))) pss_nil)
   (pss_one (ps_ret (pe_tup (pa_cons (pe_op op_mod (pv 0) pe_int) (pa_cons (pe_op op_add pe_int (pe_op op_mod (pe_op op_fdiv (pv 0) pe_int) pe_int)) pa_nil)))))),?_⟩
  try dsimp only [cxOf,Cx.nox,Cx.wish]
  walk_at "rd"
  refine ifV (fun h1=>?_) (fun h1=>?_)
  ·walk_at "rd"
   obtain ⟨e0,e1⟩:=emod_in (c / 360) (show (0:Int)<1000001 by decide)
   exact ⟨by show 2≤sizeLine;decide,fun p np=>k (c / 360 % 1000001,1) p np e0 ⟨by dsimp only;omega,by dsimp only;decide,by dsimp only;decide⟩⟩
  ·walk_at "rd"
   obtain ⟨e0,e1⟩:=emod_in c (show (0:Int)<15 by decide)
   obtain ⟨f0,f1⟩:=emod_in (c / 15) (show (0:Int)<4 by decide)
   exact ⟨by show 2≤sizeLine;decide,fun p np=>k (c % 15,1+c / 15 % 4) p np e0 ⟨by dsimp only;omega,by dsimp only;omega,by dsimp only;omega⟩⟩
inductive IspHigh50 (vs:List V) (H:Hp) (Q:VK):Prop
 | mk (c:Int) (h1:vs=[.int c]) (h2:∀ (v:V) (o:Option (Int × Int)) H',Same H H'→OptIs H' v o→(∀ z,o=some z→0≤z.1∧N50 z)→Q v H'):IspHigh50 vs H Q
def spHigh50:Sp:=fun vs H Q _=>IspHigh50 vs H Q
theorem ok_law_high (T:TX K mg a):FnB P w K mg base CX0 "_law_high" 2 ["_law_cell"] spHigh50:=by
 refine T.d_law_high.ok sc_law_high (fun vs H Q E h=>?_) (fun f cdv A outer s H vs Q E hr h=>?_)
 ·obtain ⟨c,rfl,_⟩:=h
  rfl
 ·obtain ⟨c,rfl,k⟩:=h
  refine ⟨_,(pss_cons (ps_if (pt_cmpR op_eq (pe_op op_mod (pv 0) pe_int) pe_int (nomark _)) (pss_one (ps_ret pe_non)) pss_nil)
   (pss_one (ps_ret (pe_fn (ok_law_not_under T) hr pass0 (pa_cons (pe_op op_fdiv (pv 0) pe_int) pa_nil))))),?_⟩
  try dsimp only [cxOf,Cx.nox,Cx.wish]
  walk_at "rd"
  refine ifV (fun h1=>k .non none H (Same.refl _) rfl (fun z hz=>by cases hz)) (fun h1=>?_)
  refine ⟨_,rfl,_,_,rfl,rfl,⟨by decide,by decide⟩,_,rfl,fun z p np z0 nz=>k (.ref p) (some z) _ (same_upd np) ⟨p,rfl,upd_same⟩ (fun y hy=>by cases hy;exact ⟨z0,nz⟩)⟩
inductive IspGainBy (vs:List V) (H:Hp) (Q:VK):Prop
 | mk (c:Int) (h1:vs=[.int c]) (h2:∀ (g:Int × Int) p,H p=none→(c % 4=0→g=(1,1))→(c % 4=2→g.1≤g.2)→1≤g.1∧g.1≤997→1≤g.2∧g.2≤997→Q (.ref p) (upd H p (.tup [.int g.1,.int g.2]))):IspGainBy vs H Q
def spGainBy:Sp:=fun vs H Q _=>IspGainBy vs H Q
theorem ok_law_gain_by (T:TX K mg a):FnB P w K mg base CX0 "_law_gain_by" 1 ["_law_cell"] spGainBy:=by
 refine T.d_law_gain_by.ok sc_law_gain_by (fun vs H Q E h=>?_) (fun f cdv A outer s H vs Q E hr h=>?_)
 ·obtain ⟨c,rfl,_⟩:=h
  rfl
 ·obtain ⟨c,rfl,k⟩:=h
  refine ⟨_,(pss_cons (ps_if (pt_cmpR op_eq (pe_op op_mod (pv 0) pe_int) pe_int (nomark _)) (pss_one (ps_ret (pe_tup (pa_cons pe_int (pa_cons pe_int pa_nil))))) pss_nil)
   (pss_cons (ps_if (pt_cmpR op_eq (pe_op op_mod (pv 0) pe_int) pe_int (nomark _)) (pss_one (ps_ret (pe_tup (pa_cons (pe_op op_add pe_int (pe_op op_mod (pe_op op_fdiv (pv 0) pe_int) pe_int)) (pa_cons (pe_op op_add (pe_op op_add pe_int (pe_op op_mod (pe_op op_fdiv (pv 0) pe_int) pe_int)) (pe_op op_mod (pe_op op_fdiv (pv 0) pe_int) pe_int)) pa_nil))))) pss_nil)
   (pss_cons (ps_if (pt_cmpR op_eq (pe_op op_mod (pv 0) pe_int) pe_int (nomark _)) (pss_one (ps_ret (pe_tup (pa_cons (pe_op op_add pe_int (pe_op op_mod (pe_op op_fdiv (pv 0) pe_int) pe_int)) (pa_cons (pe_op op_add pe_int (pe_op op_mod (pe_op op_fdiv (pv 0) pe_int) pe_int)) pa_nil))))) pss_nil)
   (pss_one (ps_ret (pe_tup (pa_cons (pe_op op_add pe_int (pe_op op_mod (pe_op op_fdiv (pv 0) pe_int) pe_int)) (pa_cons (pe_op op_add pe_int (pe_op op_mod (pe_op op_fdiv (pv 0) pe_int) pe_int)) pa_nil)))))))),?_⟩
  try dsimp only [cxOf,Cx.nox,Cx.wish]
  walk_at "rd"
  refine ifV (fun h1=>⟨by show 2≤sizeLine;decide,fun p np=>k (1,1) p np (fun _=>rfl) (fun z=>by omega) ⟨by decide,by decide⟩ ⟨by decide,by decide⟩⟩) (fun h1=>?_)
  walk_at "rd"
  refine ifV (fun h2=>?_) (fun h2=>?_)
  ·walk_at "rd"
   obtain ⟨e0,e1⟩:=emod_in (c / 4) (show (0:Int)<5 by decide)
   obtain ⟨f0,f1⟩:=emod_in (c / 20) (show (0:Int)<5 by decide)
   exact ⟨by show 2≤sizeLine;decide,fun p np=>k (1+c / 4 % 5,1+c / 4 % 5+c / 20 % 5) p np (fun z=>by omega) (fun z=>by dsimp only;omega) (by dsimp only;omega) (by dsimp only;omega)⟩
  walk_at "rd"
  refine ifV (fun h3=>?_) (fun h3=>?_)
  ·walk_at "rd"
   obtain ⟨e0,e1⟩:=emod_in (c / 4) (show (0:Int)<997 by decide)
   obtain ⟨f0,f1⟩:=emod_in (c / 3988) (show (0:Int)<997 by decide)
   exact ⟨by show 2≤sizeLine;decide,fun p np=>k (1+c / 4 % 997,1+c / 3988 % 997) p np (fun z=>by omega) (fun z=>by omega) (by dsimp only;omega) (by dsimp only;omega)⟩
  ·walk_at "rd"
   obtain ⟨e0,e1⟩:=emod_in (c / 4) (show (0:Int)<6 by decide)
   obtain ⟨f0,f1⟩:=emod_in (c / 24) (show (0:Int)<6 by decide)
   exact ⟨by show 2≤sizeLine;decide,fun p np=>k (1+c / 4 % 6,1+c / 24 % 6) p np (fun z=>by omega) (fun z=>by omega) (by dsimp only;omega) (by dsimp only;omega)⟩
inductive IspEnds (K:PySem.W.Frag) (vs:List V) (H:Hp) (Q:VK):Prop
 | mk (c:Int) (l:Addr) (ts:List V) (es:List Ent) (h1:vs=[.int c,.ref l]) (h2:SqL K H l ts) (h3:RowAt EntIs H ts es) (h4:(es.map (·.1)).Nodup) (h5:2≤es.length) (h6:es.length≤100) (h7:∀ (st go:Str) p,H p=none→st∈es.map (·.1)→go∈es.map (·.1)→st≠go→Q (.ref p) (upd H p (.tup [.str st,.str go]))):IspEnds K vs H Q
def spEnds (K:PySem.W.Frag):Sp:=fun vs H Q _=>IspEnds K vs H Q
theorem ok_law_ends (T:TX K mg a):FnB P w K mg base CX0 "_law_ends" 1 ["_law_cell","_law_places"] (spEnds K):=by
 refine T.d_law_ends.ok sc_law_ends (fun vs H Q E h=>?_) (fun f cdv A outer s H vs Q E hr h=>?_)
 ·obtain ⟨c,l,ts,es,rfl,_⟩:=h
  rfl
 ·obtain ⟨c,l,ts,es,rfl,hl,hes,nd,l2,l100,k⟩:=h
  refine ⟨_,(pss_cons (ps_set (i:=2) sc_law_ends.nd rfl (Or.inl rfl) (pe_callB call_lenK (by rfl) T.z_len PySem.boot_len (pa_cons (pv 1) pa_nil)))
   (pss_cons (ps_set (i:=3) sc_law_ends.nd rfl (Or.inl rfl) (pe_op op_mod (pv 0) (pv 2)))
   (pss_cons (ps_set (i:=4) sc_law_ends.nd rfl (Or.inl rfl) (pe_op op_mod (pe_op op_add (pe_op op_add (pv 3) pe_int) (pe_op op_mod (pe_op op_fdivB (pv 0) (pv 2)) (pe_op op_sub (pv 2) pe_int))) (pv 2)))
   (pss_one (ps_ret (pe_tup (pa_cons (pe_ix ix_tup (pe_ix ix_list (pv 1) (pv 3) (fun _ _=>rfl)) pe_int (fun _ _=>rfl)) (pa_cons (pe_ix ix_tup (pe_ix ix_list (pv 1) (pv 4) (fun _ _=>rfl)) pe_int (fun _ _=>rfl)) pa_nil)))))))),?_⟩
  try dsimp only [cxOf,Cx.nox,Cx.wish]
  have lt:ts.length=es.length:=hes.1
  have np:(0:Int)<(ts.length:Int):=by omega
  have np1:(0:Int)<(ts.length:Int)-1:=by omega
  obtain ⟨a0,a1⟩:=emod_in c np
  obtain ⟨b0,b1⟩:=emod_in (c.fdiv (ts.length:Int)) np1
  obtain ⟨g0,g1'⟩:=emod_in (c % (ts.length:Int)+1+c.fdiv (ts.length:Int) % ((ts.length:Int)-1)) np
  obtain ⟨i,hi⟩:=Int.eq_ofNat_of_zero_le a0
  obtain ⟨j,hj⟩:=Int.eq_ofNat_of_zero_le g0
  have il:i<es.length:=by omega
  have jl:j<es.length:=by omega
  have ij:i≠j:=by
   intro z
   have h1:(c % (ts.length:Int)+1+c.fdiv (ts.length:Int) % ((ts.length:Int)-1)) % (ts.length:Int)=c % (ts.length:Int):=by omega
   generalize c.fdiv (ts.length:Int) % ((ts.length:Int)-1)=u at *
   generalize c % (ts.length:Int)=v at *
   have h2:(v+1+u) % (ts.length:Int)=v:=h1
   by_cases h3:v+1+u<ts.length
   ·rw [Int.emod_eq_of_lt (by omega) h3] at h2
    omega
   ·rw [show v+1+u=(v+1+u-(ts.length:Int))+(ts.length:Int) by omega,Int.add_emod_right,Int.emod_eq_of_lt (by omega) (by omega)] at h2
    omega
  obtain ⟨x,ex⟩:∃ x,es[i]?=some x:=⟨_,List.getElem?_eq_getElem il⟩
  obtain ⟨y,ey⟩:∃ y,es[j]?=some y:=⟨_,List.getElem?_eq_getElem jl⟩
  obtain ⟨tx,etx,t1,v1,rfl,ht1,_⟩:=hes.get' ex
  obtain ⟨ty,ety,t2,v2,rfl,ht2,_⟩:=hes.get' ey
  have ne:x.1≠y.1:=fun e=>ij ((List.getElem?_inj (by rw [List.length_map];exact il) nd).mp (by rw [List.getElem?_map,List.getElem?_map,ex,ey];exact congrArg some e))
  refine ⟨_,rfl,l,_,rfl,.inl hl,_,rfl,_,rfl,_,_,rfl,rfl,np,?_⟩
  refine ⟨_,rfl,_,_,rfl,rfl,_,rfl,_,rfl,_,_,rfl,rfl,?d1,_,rfl,_,_,rfl,rfl,_,_,rfl,rfl,np1,_,_,rfl,rfl,_,rfl,_,_,rfl,rfl,np,?_⟩
  case d1=>exact ⟨by omega,Sm.of_le (n:=20) (by omega) (by decide)⟩
  refine ⟨_,rfl,_,rfl,l,_,_,_,rfl,rfl,hl,by rw [hi];exact atI_nat etx,t1,_,_,_,rfl,rfl,SqT.of ht1,rfl,_,rfl,_,rfl,l,_,_,_,rfl,rfl,hl,by rw [hj];exact atI_nat ety,t2,_,_,_,rfl,rfl,SqT.of ht2,rfl,by show 2≤sizeLine;decide,fun p np=>?_⟩
  exact k x.1 y.1 p np (List.mem_map.mpr ⟨x,List.mem_of_getElem? ex,rfl⟩) (List.mem_map.mpr ⟨y,List.mem_of_getElem? ey,rfl⟩) ne
theorem lt_one {n d:Int} (hd:0<d) (h:n<d):Rat.divInt n d<1:=by
 rw [show (1:Rat)=Rat.divInt 1 1 from rfl,lt_div hd (by decide)]
 omega
theorem nn_num {n d:Int} (hd:0<d) (h:0≤n):0≤(Rat.divInt n d).num:=Rat.num_nonneg.mpr ((divInt_nn n hd).mpr h)
theorem pos_num {n d:Int} (hd:0<d) (h:0<n):0<(Rat.divInt n d).num:=by
 have h1:=nn_num hd (Int.le_of_lt h)
 have h2:(Rat.divInt n d).num≠0:=fun e=>by
  have h3:=Rat.num_divInt_den (Rat.divInt n d)
  rw [e,Rat.zero_divInt] at h3
  have:=(Rat.divInt_eq_divInt_iff (show (1:Int)≠0 by decide) (show d≠0 by omega)).mp (show Rat.divInt 0 1=Rat.divInt n d from by rw [← h3,Rat.zero_divInt])
  omega
 omega
def W7.d (r:W7):WD:=if r.kd=0 then ⟨r.nm,r.st,r.go,.way,0,r.hi.map vC,vC r.co⟩ else if r.kd=2 then ⟨r.nm,r.st,r.go,.lea,Rat.divInt (r.gain.2-r.gain.1) r.gain.2,r.hi.map vC,vC r.co⟩ else ⟨r.nm,r.st,r.go,.gro,Rat.divInt r.gain.1 r.gain.2,r.hi.map vC,vC r.co⟩
theorem W7.d_nm (r:W7):r.d.nm=r.nm:=by unfold W7.d;split <;> (try split) <;> rfl
theorem W7.d_st (r:W7):r.d.st=r.st:=by unfold W7.d;split <;> (try split) <;> rfl
theorem W7.d_go (r:W7):r.d.go=r.go:=by unfold W7.d;split <;> (try split) <;> rfl
theorem W7.d_hi (r:W7):r.d.hi=r.hi.map vC:=by unfold W7.d;split <;> (try split) <;> rfl
inductive IspNet50 (K:PySem.W.Frag) (vs:List V) (H:Hp) (Q:VK):Prop
 | mk (l:Addr) (ns:List Int) (n m:Nat) (h1:vs=[.ref l,.int n,.int m]) (h2:SqL K H l (ns.map V.int)) (h3:n≤12) (h4:m≤24) (h5:(n<2→m=0)) (h6:∀ t lp lw tp tw (es:List Ent) (rs:List W7) H',Same H H'→H' t=some (.tup [.ref lp,.ref lw])→H' lp=some (.lst tp)→H' lw=some (.lst tw)→RowAt EntIs H' tp es→RowAt W7Is H' tw rs→es.length=n→es.map (·.1)=namesA (cellA ns 1) n→(∀ e∈es,N50 e.2)→rs.length=m→rs.map (·.nm)=namesA (cellA ns 2) m→(∀ r∈rs,W7Ok (es.map (·.1)) r)→Q (.ref t) H'):IspNet50 K vs H Q
def spNet50 (K:PySem.W.Frag):Sp:=fun vs H Q _=>IspNet50 K vs H Q
theorem ok_law_net (T:TX K mg a):FnB P w K mg base CX0 "_law_net" 3 ["_law_script","_law_size","_law_many"] (spNet50 K):=by
 refine T.d_law_net.ok sc_law_net (fun vs H Q E h=>?_) (fun f cdv A outer s H vs Q E hr h=>?_)
 ·obtain ⟨_,_,_,_,rfl,_⟩:=h
  rfl
 ·obtain ⟨l,ns,n,m,rfl,hS,n12,m24,nm,k⟩:=h
  refine ⟨_,(pss_cons (ps_set (i:=3) sc_law_net.nd rfl (Or.inl rfl) (pe_lst pa_nil))
   (pss_cut (ps_for PassesOwn.never rfl (pi_range1 rfl T.z_range (pa_cons (pv 1) pa_nil)) (pg_name (i:=4) sc_law_net.nd rfl (Or.inl rfl)) (pss_one (ps_expr (pe_bm PySem.F.plainAttrs_list PySem.F.slot_list_append PySem.F.type_list_append mt_append (pv 3) (pa_cons (pe_tup (pa_cons (pe_fn (ok_law_name T) hr pass0 (pa_cons (pv 4) (pa_cons (pe_fn (ok_law_cell_at T) hr pass0 (pa_cons (pv 0) (pa_cons pe_int pa_nil))) pa_nil))) (pa_cons (pe_fn (ok_law_number T) hr pass0 (pa_cons (pe_fn (ok_law_cell_at T) hr pass0 (pa_cons (pv 0) (pa_cons (pe_op op_add pe_int (pv 4)) pa_nil))) pa_nil)) pa_nil))) pa_nil)))))
   (pss_cons (ps_set (i:=5) sc_law_net.nd rfl (Or.inl rfl) (pe_lst pa_nil))
   (pss_cut (ps_for PassesOwn.never rfl (pi_range1 rfl T.z_range (pa_cons (pv 2) pa_nil)) (pg_name (i:=4) sc_law_net.nd rfl (Or.inl rfl)) (pss_cons (ps_set (i:=6) sc_law_net.nd rfl (Or.inl rfl) (pe_op op_add (pe_op op_add pe_int (pv 1)) (pe_op op_mulB pe_int (pv 4))))
   (pss_cons (ps_asg (pe_fn (ok_law_ends T) hr pass0 (pa_cons (pe_fn (ok_law_cell_at T) hr pass0 (pa_cons (pv 0) (pa_cons (pv 6) pa_nil))) (pa_cons (pv 3) pa_nil))) (pg_tup (n:=2) rfl (pgs_cons (pg_name (i:=7) sc_law_net.nd rfl (Or.inl rfl)) (pgs_cons (pg_name (i:=8) sc_law_net.nd rfl (Or.inl rfl)) pgs_nil))))
   (pss_cons (ps_set (i:=9) sc_law_net.nd rfl (Or.inl rfl) (pe_op op_mod (pe_fn (ok_law_cell_at T) hr pass0 (pa_cons (pv 0) (pa_cons (pe_op op_add (pv 6) pe_int) pa_nil))) pe_int))
   (pss_cons (ps_set (i:=10) sc_law_net.nd rfl (Or.inl rfl) (pe_fn (ok_law_gain_by T) hr pass0 (pa_cons (pe_fn (ok_law_cell_at T) hr pass0 (pa_cons (pv 0) (pa_cons (pe_op op_add (pv 6) pe_int) pa_nil))) pa_nil)))
   (pss_cons (ps_set (i:=11) sc_law_net.nd rfl (Or.inl rfl) (pe_fn (ok_law_high T) hr pass0 (pa_cons (pe_fn (ok_law_cell_at T) hr pass0 (pa_cons (pv 0) (pa_cons (pe_op op_add (pv 6) pe_int) pa_nil))) pa_nil)))
   (pss_cons (ps_set (i:=12) sc_law_net.nd rfl (Or.inl rfl) (pe_fn (ok_law_number T) hr pass0 (pa_cons (pe_fn (ok_law_cell_at T) hr pass0 (pa_cons (pv 0) (pa_cons (pe_op op_add (pv 6) pe_int) pa_nil))) pa_nil)))
   (pss_one (ps_expr (pe_bm PySem.F.plainAttrs_list PySem.F.slot_list_append PySem.F.type_list_append mt_append (pv 5) (pa_cons (pe_tup (pa_cons (pe_fn (ok_law_name T) hr pass0 (pa_cons (pv 4) (pa_cons (pe_fn (ok_law_cell_at T) hr pass0 (pa_cons (pv 0) (pa_cons pe_int pa_nil))) pa_nil))) (pa_cons (pv 7) (pa_cons (pv 8) (pa_cons (pv 9) (pa_cons (pv 10) (pa_cons (pv 11) (pa_cons (pv 12) pa_nil)))))))) pa_nil)))))))))))
   (pss_one (ps_ret (pe_tup (pa_cons (pv 3) (pa_cons (pv 5) pa_nil))))))))),?_⟩
  try dsimp only [cxOf,Cx.nox,Cx.wish]
  refine ⟨by decide,fun lp nlp=>?_⟩
  have s1:=same_upd (o:=.lst []) nlp
  have h1:upd H lp (.lst []) lp=some (.lst []):=upd_same
  generalize upd H lp (.lst [])=H1 at s1 h1 ⊢
  refine ⟨fun σ' H'=>∃ z4 tp es,σ'=[some (.ref l),some (.int n),some (.int m),some (.ref lp),z4,none,none,none,none,none,none,none,none]∧Same H H'∧H' lp=some (.lst tp)∧RowAt EntIs H' tp es∧es.length=n∧es.map (·.1)=namesA (cellA ns 1) n∧∀ e∈es,N50 e.2,?_,?_⟩
  ·refine ⟨_,rfl,(n:Int),rfl,by omega,by omega,for_range (n:=n) (fun i σ H2=>i≤n∧∃ z4 tp es,σ=[some (.ref l),some (.int n),some (.int m),some (.ref lp),z4,none,none,none,none,none,none,none,none]∧Same H H2∧H2 lp=some (.lst tp)∧RowAt EntIs H2 tp es∧es.length=i∧es.map (·.1)=namesA (cellA ns 1) i∧∀ e∈es,N50 e.2) ⟨Nat.zero_le _,_,[],[],rfl,s1,h1,RowAt.nil,rfl,rfl,fun e he=>absurd he List.not_mem_nil⟩ ?_ ?_⟩
   ·rintro i σ H2 hi ⟨_,z4,tp,es,rfl,s2,h2,hv,le,en,eok⟩
    have hi':i<n:=by omega
    have ltp:tp.length≤12:=by rw [hv.1];omega
    refine ⟨_,rfl,.inl ⟨rfl,_,SqL.of h2⟩,?_⟩
    refine ⟨_,rfl,_,rfl,l,ns,1,rfl,s2.seq hS,by decide,_,_,rfl,by omega,by omega,?_⟩
    refine ⟨_,rfl,_,rfl,_,_,rfl,rfl,l,ns,3+i,by show [V.ref l,V.int (3+(0+(i:Int)))]=[V.ref l,V.int ((3+i:Nat):Int)];rw [show 3+(0+(i:Int))=((3+i:Nat):Int) by omega],s2.seq hS,by omega,_,rfl,fun z p np nz=>?_⟩
    have s3:=same_upd (o:=.tup [.int z.1,.int z.2]) np
    have hp:upd H2 p (.tup [.int z.1,.int z.2]) p=some (.tup [.int z.1,.int z.2]):=upd_same
    generalize upd H2 p (.tup [.int z.1,.int z.2])=H3 at s3 hp ⊢
    refine ⟨by show 2≤sizeLine;decide,fun t nt=>?_⟩
    have e0:(0+(i:Int))=(i:Int):=Int.zero_add _
    have s4:=s3.trans (same_upd (o:=.tup [.str (nameA (0+(i:Int)) (cellA ns 1)),.ref p]) nt)
    have hp4:=same_upd (o:=.tup [.str (nameA (0+(i:Int)) (cellA ns 1)),.ref p]) nt _ _ hp
    have ht:upd H3 t (.tup [.str (nameA (0+(i:Int)) (cellA ns 1)),.ref p]) t=some (.tup [.str (nameA (0+(i:Int)) (cellA ns 1)),.ref p]):=upd_same
    generalize upd H3 t (.tup [.str (nameA (0+(i:Int)) (cellA ns 1)),.ref p])=H4 at s4 hp4 ht ⊢
    rw [e0] at ht
    have h4:=s4 _ _ h2
    refine ⟨lp,_,_,rfl,rfl,h4,small1000 (by omega),?_⟩
    refine ⟨hi',_,_,es++[(nameA (i:Int) (cellA ns 1),z)],rfl,same_put nlp (s2.trans s4),upd_same,RowAt.snoc (hv.mono fun v x y=>(y.mono s4).ko (.lst h4)) (EntIs.ko ⟨t,.ref p,rfl,ht,⟨p,rfl,hp4⟩⟩ (.lst h4)),by rw [List.length_append,le];rfl,by rw [List.map_append,en,namesA_succ];rfl,fun e he=>?_⟩
    rcases List.mem_append.mp he with y | y
    ·exact eok e y
    ·rw [List.mem_singleton.mp y]
     exact nz
   ·rintro σ H2 ⟨_,z4,tp,es,rfl,s2,h2,hv,le,en,eok⟩
    exact ⟨_,tp,es,rfl,s2,h2,hv,le,en,eok⟩
  clear h1 s1
  rintro σ' H2 ⟨z4,tp,es,rfl,s2,h2,hv,le,en,eok⟩
  have end_:(es.map (·.1)).Nodup:=by rw [en];exact namesA_nd (by omega)
  refine ⟨by decide,fun lw nlw=>?_⟩
  have s3:=same_upd (o:=.lst []) nlw
  have h3:upd H2 lw (.lst []) lw=some (.lst []):=upd_same
  generalize upd H2 lw (.lst [])=H3 at s3 h3 ⊢
  have nlp3:=s3 _ _ h2
  have hv3:=hv.mono fun v x y=>EntIs.mono y s3
  refine ⟨fun σ' H'=>∃ z4 z6 z7 z8 z9 z10 z11 z12 tw rs,σ'=[some (.ref l),some (.int n),some (.int m),some (.ref lp),z4,some (.ref lw),z6,z7,z8,z9,z10,z11,z12]∧Same H2 H'∧H' lw=some (.lst tw)∧RowAt W7Is H' tw rs∧rs.length=m∧rs.map (·.nm)=namesA (cellA ns 2) m∧∀ r∈rs,W7Ok (es.map (·.1)) r,?_,?_⟩
  ·refine ⟨_,rfl,(m:Int),rfl,by omega,by omega,for_range (n:=m) (fun i σ H4=>i≤m∧∃ z4 z6 z7 z8 z9 z10 z11 z12 tw rs,σ=[some (.ref l),some (.int n),some (.int m),some (.ref lp),z4,some (.ref lw),z6,z7,z8,z9,z10,z11,z12]∧Same H2 H4∧H4 lw=some (.lst tw)∧RowAt W7Is H4 tw rs∧rs.length=i∧rs.map (·.nm)=namesA (cellA ns 2) i∧∀ r∈rs,W7Ok (es.map (·.1)) r) ⟨Nat.zero_le _,_,_,_,_,_,_,_,_,[],[],rfl,s3,h3,RowAt.nil,rfl,rfl,fun e he=>absurd he List.not_mem_nil⟩ ?_ ?_⟩
   ·rintro i σ H4 hi ⟨_,z4',z6,z7,z8,z9,z10,z11,z12,tw,rs,rfl,s4,h4,hw,lr,rn,rok⟩
    have hi':i<m:=by omega
    have ltw:tw.length≤24:=by rw [hw.1];omega
    have n2:2≤n:=by
     rcases Nat.lt_or_ge n 2 with z | z
     ·have:=nm z
      omega
     ·exact z
    refine ⟨_,rfl,_,_,rfl,rfl,_,rfl,_,_,rfl,rfl,?m1,_,_,rfl,rfl,?_⟩
    case m1=>exact ⟨Sm.of_le (n:=20) (by decide) (by decide),Sm.of_le (n:=20) (by omega) (by decide)⟩
    have hS4:=(s2.trans s4).seq hS
    have cell:∀ (j:Nat) (u:Int),u=3+(n:Int)+4*(0+(i:Int))+j→[V.ref l,V.int u]=[V.ref l,V.int ((3+n+4*i+j:Nat):Int)]:=fun j u e=>by rw [show u=((3+n+4*i+j:Nat):Int) by omega]
    refine ⟨_,rfl,_,rfl,l,ns,3+n+4*i+0,cell 0 _ (by omega),hS4,by omega,_,rfl,_,lp,tp,es,rfl,SqL.of (s4 _ _ h2),hv.mono (fun v x y=>EntIs.mono y s4),end_,by omega,by omega,fun st go p np hst hgo ne=>?_⟩
    have s5:=same_upd (o:=.tup [.str st,.str go]) np
    have hp:upd H4 p (.tup [.str st,.str go]) p=some (.tup [.str st,.str go]):=upd_same
    generalize upd H4 p (.tup [.str st,.str go])=H5 at s5 hp ⊢
    refine ⟨p,_,rfl,SqT.of hp,rfl,_,_,rfl,_,_,rfl,rfl,?_⟩
    have hS5:=s5.seq hS4
    refine ⟨_,rfl,_,rfl,_,_,rfl,rfl,l,ns,3+n+4*i+1,cell 1 _ rfl,hS5,by omega,_,_,rfl,rfl,by show (0:Int)<4;decide,?_⟩
    refine ⟨_,rfl,_,rfl,_,_,rfl,rfl,l,ns,3+n+4*i+1,cell 1 _ rfl,hS5,by omega,_,rfl,fun g pg npg k0 k2 g1 g2=>?_⟩
    generalize cellA ns (3+n+4*i+1)=cg at k0 k2 ⊢
    have s6:=same_upd (o:=.tup [.int g.1,.int g.2]) npg
    have hg:upd H5 pg (.tup [.int g.1,.int g.2]) pg=some (.tup [.int g.1,.int g.2]):=upd_same
    generalize upd H5 pg (.tup [.int g.1,.int g.2])=H6 at s6 hg ⊢
    refine ⟨_,rfl,_,rfl,_,_,rfl,rfl,l,ns,3+n+4*i+2,cell 2 _ rfl,s6.seq hS5,by omega,_,rfl,fun vh o H7 s7 hh hb=>?_⟩
    have hg7:=s7 _ _ hg
    refine ⟨_,rfl,_,rfl,_,_,rfl,rfl,l,ns,3+n+4*i+3,cell 3 _ rfl,s7.seq (s6.seq hS5),by omega,_,rfl,fun z pz npz nz=>?_⟩
    have s8:=same_upd (o:=.tup [.int z.1,.int z.2]) npz
    have hz:upd H7 pz (.tup [.int z.1,.int z.2]) pz=some (.tup [.int z.1,.int z.2]):=upd_same
    generalize upd H7 pz (.tup [.int z.1,.int z.2])=H8 at s8 hz ⊢
    have hg8:=s8 _ _ hg7
    have hh8:=hh.mono s8
    have s48:=s5.trans (s6.trans (s7.trans s8))
    have h48:=s48 _ _ h4
    refine ⟨_,rfl,.inl ⟨rfl,_,SqL.of h48⟩,?_⟩
    refine ⟨_,rfl,_,rfl,l,ns,2,rfl,s48.seq hS4,by decide,_,_,rfl,by omega,by omega,?_⟩
    refine ⟨_,rfl,_,rfl,_,rfl,_,rfl,_,rfl,_,rfl,by show 7≤sizeLine;decide,fun t nt=>?_⟩
    have e0:(0+(i:Int))=(i:Int):=Int.zero_add _
    have s9:=same_upd (o:=.tup [.str (nameA (0+(i:Int)) (cellA ns 2)),.str st,.str go,.int (cg % 4),.ref pg,vh,.ref pz]) nt
    have ht:upd H8 t (.tup [.str (nameA (0+(i:Int)) (cellA ns 2)),.str st,.str go,.int (cg % 4),.ref pg,vh,.ref pz]) t=some (.tup [.str (nameA (0+(i:Int)) (cellA ns 2)),.str st,.str go,.int (cg % 4),.ref pg,vh,.ref pz]):=upd_same
    generalize upd H8 t (.tup [.str (nameA (0+(i:Int)) (cellA ns 2)),.str st,.str go,.int (cg % 4),.ref pg,vh,.ref pz])=H9 at s9 ht ⊢
    rw [e0] at ht
    have s49:=s48.trans s9
    have h49:=s49 _ _ h4
    refine ⟨lw,_,_,rfl,rfl,h49,small1000 (by omega),?_⟩
    refine ⟨hi',_,_,_,_,_,_,_,_,_,rs++[⟨nameA (i:Int) (cellA ns 2),st,go,cg % 4,g,o,z⟩],rfl,same_put nlw (s4.trans s49),upd_same,RowAt.snoc (hw.mono fun v x y=>(y.mono s49).ko (.lst h49)) (W7Is.ko ⟨t,.ref pg,vh,.ref pz,rfl,ht,⟨pg,rfl,s9 _ _ hg8⟩,hh8.mono s9,⟨pz,rfl,s9 _ _ hz⟩⟩ (.lst h49)),by rw [List.length_append,lr];rfl,by rw [List.map_append,rn,namesA_succ];rfl,fun r hr=>?_⟩
    rcases List.mem_append.mp hr with y | y
    ·exact rok r y
    ·rw [List.mem_singleton.mp y]
     exact ⟨hst,hgo,ne,k0,k2,g1,g2,hb,nz,emod_in cg (show (0:Int)<4 by decide)⟩
   ·rintro σ H4 ⟨_,z4',z6,z7,z8,z9,z10,z11,z12,tw,rs,rfl,s4,h4,hw,lr,rn,rok⟩
    exact ⟨_,_,_,_,_,_,_,_,tw,rs,rfl,s4,h4,hw,lr,rn,rok⟩
  rintro σ' H4 ⟨z4',z6,z7,z8,z9,z10,z11,z12,tw,rs,rfl,s4,h4,hw,lr,rn,rok⟩
  refine ⟨_,rfl,_,rfl,by show 2≤sizeLine;decide,fun t nt=>?_⟩
  have s5:=same_upd (o:=.tup [.ref lp,.ref lw]) nt
  exact k t lp lw tp tw es rs _ (s2.trans (s4.trans s5)) upd_same (s5 _ _ (s4 _ _ h2)) (s5 _ _ h4) (hv.mono fun v x y=>EntIs.mono y (s4.trans s5)) (hw.mono fun v x y=>y.mono s5) le en eok lr rn rok
inductive IspWay50 (a:Ad) (vs:List V) (H:Hp) (Q:VK):Prop
 | mk (v:V) (r:W7) (sp:List Str) (h1:vs=[v]) (h2:W7Is H v r) (h3:W7Ok sp r) (h4:∀ p H',H p=none→Same H H'→WayIs a H' (.ref p) r.d→Q (.ref p) H'):IspWay50 a vs H Q
def spWay50 (a:Ad):Sp:=fun vs H Q _=>IspWay50 a vs H Q
theorem ok_law_way (T:TX K mg a):FnB P w K mg base CX0 "_law_way" 7 ["_law_way_here"] (spWay50 a):=by
 refine T.d_law_way.ok sc_law_way (fun vs H Q E h=>?_) (fun f cdv A outer s H vs Q E hr h=>?_)
 ·obtain ⟨_,_,_,rfl,_⟩:=h
  rfl
 ·obtain ⟨v,r,sp,rfl,⟨p,vg,vh,vc,rfl,hp,⟨pg,rfl,hg⟩,hhi,⟨pc,rfl,hc⟩⟩,ok,k⟩:=h
  refine ⟨_,(pss_cons (ps_asg (pv 0) (pg_tup (n:=7) rfl (pgs_cons (pg_name (i:=1) sc_law_way.nd rfl (Or.inl rfl)) (pgs_cons (pg_name (i:=2) sc_law_way.nd rfl (Or.inl rfl)) (pgs_cons (pg_name (i:=3) sc_law_way.nd rfl (Or.inl rfl)) (pgs_cons (pg_name (i:=4) sc_law_way.nd rfl (Or.inl rfl)) (pgs_cons (pg_name (i:=5) sc_law_way.nd rfl (Or.inl rfl)) (pgs_cons (pg_name (i:=6) sc_law_way.nd rfl (Or.inl rfl)) (pgs_cons (pg_name (i:=7) sc_law_way.nd rfl (Or.inl rfl)) pgs_nil)))))))))
   (pss_cons (ps_set (i:=8) sc_law_way.nd rfl (Or.inl rfl) pe_non)
   (pss_cut (ps_if (pt_cmpR op_notN (pv 6) pe_non (nomark _)) (pss_one (ps_set (i:=8) sc_law_way.nd rfl (Or.inl rfl) (pe_mkfr (mk2 T) hr T.mg_Fraction pass0 (pa_cons (pe_ix ix_tup (pv 6) pe_int (fun _ _=>rfl)) (pa_cons (pe_ix ix_tup (pv 6) pe_int (fun _ _=>rfl)) pa_nil))))) pss_nil)
   (pss_cons (ps_set (i:=9) sc_law_way.nd rfl (Or.inl rfl) (pe_mkfr (mk2 T) hr T.mg_Fraction pass0 (pa_cons (pe_ix ix_tup (pv 7) pe_int (fun _ _=>rfl)) (pa_cons (pe_ix ix_tup (pv 7) pe_int (fun _ _=>rfl)) pa_nil))))
   (pss_cons (ps_if (pt_cmpR op_eq (pv 4) pe_int (nomark _)) (pss_one (ps_ret (pe_mk (mk_Way T) hr T.mg_Way pass0 (pa_cons (pv 1) (pa_cons (pv 2) (pa_cons (pv 3) (pa_cons (pv 8) (pa_cons (pv 9) pa_nil)))))))) pss_nil)
   (pss_cons (ps_if (pt_cmpR op_eq (pv 4) pe_int (nomark _)) (pss_one (ps_ret (pe_mk (mk_Leaking T) hr T.mg_Leaking pass0 (pa_cons (pv 1) (pa_cons (pv 2) (pa_cons (pv 3) (pa_cons (pe_mkfr (mk2 T) hr T.mg_Fraction pass0 (pa_cons (pe_op op_sub (pe_ix ix_tup (pv 5) pe_int (fun _ _=>rfl)) (pe_ix ix_tup (pv 5) pe_int (fun _ _=>rfl))) (pa_cons (pe_ix ix_tup (pv 5) pe_int (fun _ _=>rfl)) pa_nil))) (pa_cons (pv 8) (pa_cons (pv 9) pa_nil))))))))) pss_nil)
   (pss_one (ps_ret (pe_mk (mk_Growing T) hr T.mg_Growing pass0 (pa_cons (pv 1) (pa_cons (pv 2) (pa_cons (pv 3) (pa_cons (pe_mkfr (mk2 T) hr T.mg_Fraction pass0 (pa_cons (pe_ix ix_tup (pv 5) pe_int (fun _ _=>rfl)) (pa_cons (pe_ix ix_tup (pv 5) pe_int (fun _ _=>rfl)) pa_nil))) (pa_cons (pv 8) (pa_cons (pv 9) pa_nil))))))))))))))),?_⟩
  try dsimp only [cxOf,Cx.nox,Cx.wish]
  refine ⟨_,rfl,p,_,rfl,SqT.of hp,rfl,_,_,rfl,_,_,rfl,_,_,rfl,_,_,rfl,_,_,rfl,_,_,rfl,_,_,rfl,rfl,?_⟩
  refine ⟨fun σ' H'=>∃ (vb:V) (z9:Option V),σ'=[some (.ref p),some (.str r.nm),some (.str r.st),some (.str r.go),some (.int r.kd),some (.ref pg),some vh,some (.ref pc),some vb,z9]∧Same H H'∧HiOk a.Fraction H' vb∧HiT a H' vb (r.hi.map vC),?_,?_⟩
  ·cases ho:r.hi with
   | none=>
    rw [ho] at hhi
    obtain rfl:vh=.non:=hhi
    refine ⟨_,rfl,rfl,_,rfl,iteF ?_⟩
    exact ⟨V.non,_,rfl,Same.refl _,.inl rfl,rfl⟩
   | some c=>
    rw [ho] at hhi
    obtain ⟨ph,rfl,hph⟩:=hhi
    obtain ⟨h0,h1⟩:=ok.hi c ho
    have:=h1.b
    refine ⟨_,rfl,rfl,_,rfl,iteT ?_⟩
    refine ⟨_,rfl,ph,_,_,_,rfl,rfl,SqT.of hph,rfl,_,rfl,ph,_,_,_,rfl,rfl,SqT.of hph,rfl,_,_,rfl,by omega,h1.sm.2,fun q H1 nq s1 f1=>?_⟩
    exact ⟨.ref q,_,rfl,s1,.inr ⟨q,_,rfl,f1,nn_num (by omega) h0⟩,⟨q,rfl,f1⟩⟩
  rintro σ' H1 ⟨vb,z9,rfl,s1,hb,hT⟩
  obtain ⟨_,co1,_⟩:=id ok.co
  obtain ⟨ga1,ga2⟩:=ok.g1
  obtain ⟨gb1,gb2⟩:=ok.g2
  have hc1:=s1 _ _ hc
  refine ⟨_,rfl,pc,_,_,_,rfl,rfl,SqT.of hc1,rfl,_,rfl,pc,_,_,_,rfl,rfl,SqT.of hc1,rfl,_,_,rfl,by omega,ok.co.sm.2,fun qc H2 nqc s2 f2=>?_⟩
  have s12:=s1.trans s2
  have hg2:=s12 _ _ hg
  have hb2:=hb.mono s2
  have cof:∀ (H':Hp) (p:Addr) {vc':V},CoIs a.Fraction H' p (.ref qc) vc'→Same H2 H'→∃ z,vc'=.ref z∧FrAt a.Fraction H' z (vC r.co):=fun H' p vc' co ss=>by
   rcases co with ⟨_,e⟩ | ⟨e,_⟩
   ·exact ⟨qc,e,f2.mono ss⟩
   ·cases e
  refine ⟨_,rfl,rfl,_,rfl,ifV (fun h0=>?_) (fun h0=>?_)⟩
  ·refine ⟨_,rfl,_,rfl,_,rfl,_,rfl,_,rfl,?_⟩
   refine mkW (x:=0) T ok.ne hb2 fun q H' vc' q' nq ss W co=>k q H' (s12.free nq) (s12.trans ss) (by unfold W7.d;rw [if_pos h0];exact ⟨q,_,_,q',rfl,W,by nofun,cof _ _ co (ss),hT.mono (s2.trans (ss))⟩)
  refine ⟨_,rfl,rfl,_,rfl,ifV (fun h1=>?_) (fun h1=>?_)⟩
  ·have gl:=ok.k2 h1
   refine ⟨_,rfl,_,rfl,_,rfl,_,rfl,pg,_,_,_,rfl,rfl,SqT.of hg2,rfl,_,rfl,pg,_,_,_,rfl,rfl,SqT.of hg2,rfl,_,_,rfl,rfl,_,rfl,pg,_,_,_,rfl,rfl,SqT.of hg2,rfl,_,_,rfl,by omega,Sm.of_le (n:=10) (by omega) (by decide),fun q3 H3 nq3 s3 f3=>⟨_,rfl,_,rfl,?_⟩⟩
   refine mkL T ok.ne f3 ⟨nn_num (by omega) (by omega),lt_one (by omega) (by omega),(Bd.divInt (n:=10) (by omega) (by omega)).smr (by decide)⟩ (hb2.mono s3) fun q H' vc' q' nq ss W co=>k q H' (s12.free (s3.free nq)) (s12.trans (s3.trans ss)) (by unfold W7.d;rw [if_neg h0,if_pos h1];exact ⟨q,_,_,q',rfl,W,by nofun,cof _ _ co (s3.trans ss),hT.mono (s2.trans (s3.trans ss))⟩)
  ·refine ⟨_,rfl,_,rfl,_,rfl,_,rfl,pg,_,_,_,rfl,rfl,SqT.of hg2,rfl,_,rfl,pg,_,_,_,rfl,rfl,SqT.of hg2,rfl,_,_,rfl,by omega,Sm.of_le (n:=10) (by omega) (by decide),fun q3 H3 nq3 s3 f3=>⟨_,rfl,_,rfl,?_⟩⟩
   refine mkG T ok.ne f3 (pos_num (by omega) (by omega)) (hb2.mono s3) fun q H' vc' q' nq ss W co=>k q H' (s12.free (s3.free nq)) (s12.trans (s3.trans ss)) (by unfold W7.d;rw [if_neg h0,if_neg h1];exact ⟨q,_,_,q',rfl,W,by nofun,cof _ _ co (s3.trans ss),hT.mono (s2.trans (s3.trans ss))⟩)
structure Told (H:Hp) (t lp lw:Addr) (tp tw:List V) (es:List Ent) (rs:List W7):Prop where
 ht:H t=some (.tup [.ref lp,.ref lw])
 hp:H lp=some (.lst tp)
 hw:H lw=some (.lst tw)
 rp:RowAt EntIs H tp es
 rw:RowAt W7Is H tw rs
theorem Told.mono {H H':Hp} {t lp lw:Addr} {tp tw:List V} {es:List Ent} {rs:List W7} (h:Told H t lp lw tp tw es rs) (s:Same H H'):Told H' t lp lw tp tw es rs:=⟨s _ _ h.ht,s _ _ h.hp,s _ _ h.hw,h.rp.mono fun _ _ z=>z.mono s,h.rw.mono fun _ _ z=>z.mono s⟩
structure TOk (es:List Ent) (rs:List W7):Prop where
 l12:es.length≤12
 l24:rs.length≤24
 nd:(es.map (·.1)).Nodup
 nw:(rs.map (·.nm)).Nodup
 eok:∀ e∈es,N50 e.2
 rok:∀ r∈rs,W7Ok (es.map (·.1)) r
def psT (es:List Ent):List (Str × Rat):=es.map fun e=>(e.1,vC e.2)
def dsT (rs:List W7):List WD:=rs.map W7.d
theorem psT_n (es:List Ent):(psT es).map (·.1)=es.map (·.1):=by unfold psT;rw [List.map_map];rfl
theorem dsT_n (rs:List W7):(dsT rs).map (·.nm)=rs.map (·.nm):=by unfold dsT;rw [List.map_map];exact List.map_congr_left fun r _=>W7.d_nm r
theorem TOk.net {es:List Ent} {rs:List W7} (h:TOk es rs):NetOk (psT es) (dsT rs):=by
 refine ⟨by rw [psT_n];exact h.nd,by unfold psT;rw [List.length_map];exact h.l12,by rw [dsT_n];exact h.nw,by unfold dsT;rw [List.length_map];exact h.l24,fun d hd=>?_⟩
 obtain ⟨r,hr,rfl⟩:=List.mem_map.mp hd
 rw [psT_n,W7.d_st,W7.d_go]
 exact ⟨(h.rok r hr).st,(h.rok r hr).go⟩
inductive IspBuilt (a:Ad) (vs:List V) (H:Hp) (Q:VK):Prop
 | mk (t lp lw:Addr) (tp tw:List V) (es:List Ent) (rs:List W7) (h1:vs=[.ref t]) (h2:Told H t lp lw tp tw es rs) (h3:TOk es rs) (h4:∀ p H',Same H H'→NetNew a H H' p (psT es) (dsT rs)→Q (.ref p) H'):IspBuilt a vs H Q
def spBuilt (a:Ad):Sp:=fun vs H Q _=>IspBuilt a vs H Q
theorem ok_law_built (T:TX K mg a):FnB P w K mg base CX0 "_law_built" 9 ["_law_told"] (spBuilt a):=by
 refine T.d_law_built.ok sc_law_built (fun vs H Q E h=>?_) (fun f cdv A outer s H vs Q E hr h=>?_)
 ·obtain ⟨_,_,_,_,_,_,_,rfl,_⟩:=h
  rfl
 ·obtain ⟨t,lp,lw,tp,tw,es,rs,rfl,td,ok,k⟩:=h
  refine ⟨_,(pss_cut (ps_compG (i:=1) (xs:=["_law_place"]) (rest:=[]) sc_law_built.nd rfl rfl rfl (pi_list (pe_ix ix_tup (pv 0) pe_int (fun _ _=>rfl)))
   (fun pins fp C' s' H'=>(pg_name (i:=0) (show (["_law_place"]:List Str).Nodup by decide +kernel) rfl (Or.inl rfl))) (fun pins fp C' s' H'=>pts_nil)
   (fun pins fp C' s' H'=>(pe_tup (pa_cons (pe_ix (r:=rIxT K) ix_tup (pv 0) pe_int (fun _ _=>rfl)) (pa_cons (pe_mkfr (mk2 T) hr T.mg_Fraction pass0 (pa_cons (pe_ix (r:=rIxT K) ix_tup (pe_ix (r:=rIxT K) ix_tup (pv 0) pe_int (fun _ _=>rfl)) pe_int (fun _ _=>rfl)) (pa_cons (pe_ix (r:=rIxT K) ix_tup (pe_ix (r:=rIxT K) ix_tup (pv 0) pe_int (fun _ _=>rfl)) pe_int (fun _ _=>rfl)) pa_nil))) pa_nil))))
   (Clos.none (by decide +kernel) (by decide +kernel)) (Reads.many (ys:=[]) (js:=[]) True.intro))
   (pss_one (ps_ret (pe_mk (mk_Net T) hr T.mg_Net pass0 (pa_cons (pv 1) (pa_cons (pe_compG (xs:=["_law_way_here"]) (rest:=[]) rfl (pi_list (pe_ix ix_tup (pv 0) pe_int (fun _ _=>rfl)))
   (fun pins fp C' s' H'=>(pg_name (i:=0) (show (["_law_way_here"]:List Str).Nodup by decide +kernel) rfl (Or.inl rfl))) (fun pins fp C' s' H'=>pts_nil)
   (fun pins fp C' s' H'=>(pe_fn (ok_law_way T) hr pass0 (pa_cons (pv 0) pa_nil)))
   (Clos.none (by decide +kernel) (by decide +kernel)) (Reads.many (ys:=[]) (js:=[]) True.intro)) pa_nil)))))),?_⟩
  try dsimp only [cxOf,Cx.nox,Cx.wish]
  have l12:=ok.l12
  have l24:=ok.l24
  refine ⟨fun σ' H'=>∃ l1 t1,σ'=[some (.ref t),some (.ref l1)]∧Same H H'∧H' l1=some (.lst t1)∧RowAt (PlIs a) H' t1 (psT es),?_,?_⟩
  ·refine ⟨_,rfl,t,_,_,_,rfl,rfl,SqT.of td.ht,rfl,lp,rfl,⟨_,SqL.of td.hp⟩,fun l1 nl1=>?_⟩
   refine compG_list (K:=K) (a:=lp) (xs:=tp) (fun i H2=>i≤es.length∧Same H H2∧∃ t1,H2 l1=some (.lst t1)∧RowAt (PlIs a) H2 t1 (psT (es.take i))) ⟨Nat.zero_le _,same_upd nl1,[],upd_same,RowAt.nil⟩ (fun i H2 ⟨_,s2,_⟩=>SqL.of (s2 _ _ td.hp)) ?_ ?_
   ·rintro i x H2 hx ⟨_,s2,t1,h2,hv⟩
    obtain ⟨e,ee,u,vp,rfl,hu,pu,rfl,hpu⟩:=td.rp.get hx
    have hi:i<es.length:=(List.getElem?_eq_some_iff.mp ee).1
    have lt1:t1.length≤12:=by rw [hv.1];unfold psT;rw [List.length_map,List.length_take];omega
    have ne:=ok.eok e (List.mem_of_getElem? ee)
    have:=ne.b
    have squ:=SqT.of (K:=K) (s2 _ _ hu)
    have sqp:=SqT.of (K:=K) (s2 _ _ hpu)
    refine g1 ⟨⟨[_],rfl,rfl⟩,yes ?_⟩
    refine ⟨_,rfl,u,_,_,_,rfl,rfl,squ,rfl,_,rfl,u,_,_,_,rfl,rfl,squ,rfl,pu,_,_,_,rfl,rfl,sqp,rfl,_,rfl,u,_,_,_,rfl,rfl,squ,rfl,pu,_,_,_,rfl,rfl,sqp,rfl,e.2.1,e.2.2,rfl,by omega,ne.sm.2,fun q H3 nq s3 f3=>?_⟩
    refine ⟨by show 2≤sizeLine;decide,fun t3 nt3=>?_⟩
    have s4:=same_upd (o:=.tup [.str e.1,.ref q]) nt3
    have ht3:upd H3 t3 (.tup [.str e.1,.ref q]) t3=some (.tup [.str e.1,.ref q]):=upd_same
    generalize upd H3 t3 (.tup [.str e.1,.ref q])=H4 at s4 ht3 ⊢
    have s24:=s3.trans s4
    have h4:=s24 _ _ h2
    refine ⟨_,h4,small1000 (by omega),nextP (by rw [td.rp.1];exact hi) ⟨hi,same_put nl1 (s2.trans s24),_,upd_same,?_⟩⟩
    unfold psT
    rw [List.take_add_one,ee,Option.toList_some,List.map_append]
    exact RowAt.snoc (hv.mono fun v x z=>(z.mono s24).ko (.lst h4)) (PlIs.ko ⟨t3,q,rfl,ht3,f3.mono s4⟩ (.lst h4))
   ·rintro H2 ⟨_,s2,t1,h2,hv⟩
    rw [td.rp.1,List.take_length] at hv
    exact ⟨l1,t1,rfl,s2,h2,hv⟩
  rintro σ' H1 ⟨l1,t1,rfl,s1,h1,hv1⟩
  have td1:=td.mono s1
  refine ⟨_,rfl,_,rfl,t,_,_,_,rfl,rfl,SqT.of td1.ht,rfl,lw,rfl,⟨_,SqL.of td1.hw⟩,fun l2 nl2=>?_⟩
  refine compG_list (K:=K) (a:=lw) (xs:=tw) (fun i H2=>i≤rs.length∧Same H1 H2∧∃ t2,H2 l2=some (.lst t2)∧RowAt (WayIs a) H2 t2 (dsT (rs.take i))) ⟨Nat.zero_le _,same_upd nl2,[],upd_same,RowAt.nil⟩ (fun i H2 ⟨_,s2,_⟩=>SqL.of (s2 _ _ td1.hw)) ?_ ?_
  ·rintro i x H2 hx ⟨_,s2,t2,h2,hv⟩
   obtain ⟨r,er,hr7⟩:=td1.rw.get hx
   have hi:i<rs.length:=(List.getElem?_eq_some_iff.mp er).1
   have lt2:t2.length≤24:=by rw [hv.1];unfold dsT;rw [List.length_map,List.length_take];omega
   refine g1 ⟨⟨[_],rfl,rfl⟩,yes ?_⟩
   refine ⟨_,rfl,x,r,_,rfl,hr7.mono s2,ok.rok r (List.mem_of_getElem? er),fun p H3 np s3 W=>?_⟩
   have h3:=s3 _ _ h2
   refine ⟨_,h3,small1000 (by omega),nextP (by rw [td1.rw.1];exact hi) ⟨hi,same_put nl2 (s2.trans s3),_,upd_same,?_⟩⟩
   unfold dsT
   rw [List.take_add_one,er,Option.toList_some,List.map_append]
   exact RowAt.snoc (hv.mono fun v x z=>(z.mono s3).ko (.lst h3)) (W.ko (.lst h3))
  ·rintro H2 ⟨_,s2,t2,h2,hv⟩
   rw [td1.rw.1,List.take_length] at hv
   intro p dx n1 n2 n3
   have ss:=same_two (C:=a.Net) n1 n2
   exact ⟨p,dx,l1,l2,t1,t2,_,_,rfl,upd_same,ss.seq (SqL.of (s2 _ _ h1)),hv1.mono (fun v x z=>(z.mono s2).mono ss),ss.seq (SqL.of h2),hv.mono (fun v x z=>z.mono ss),ok.net,fun H' hs hn=>⟨rfl,k p H' (s1.trans (s2.trans (same_new n1 n2 hs))) (let ⟨d1,d2,d3,q1,q2,q3,q4,q5⟩:=hn;⟨d1,d2,d3,q1,q2,q3,(s1.trans (s2.trans ss)).free q4,(s1.trans (s2.trans ss)).free q5⟩)⟩⟩
structure S5 where
 nm:Str
 pl:Str
 gain:Int × Int
 hi:Option (Int × Int)
 co:Int × Int
def S5Is (H:Hp) (v:V) (r:S5):Prop:=∃ p vg vh vc,v=.ref p∧H p=some (.tup [.str r.nm,.str r.pl,vg,vh,vc])∧DueIs H vg r.gain∧OptIs H vh r.hi∧DueIs H vc r.co
theorem S5Is.mono {H H':Hp} {v:V} {r:S5} (h:S5Is H v r) (s:Same H H'):S5Is H' v r:=let ⟨p,vg,vh,vc,e,f,h1,h3,h4⟩:=h;⟨p,vg,vh,vc,e,s _ _ f,h1.mono s,h3.mono s,h4.mono s⟩
theorem S5Is.ko {H H':Hp} {v:V} {r:S5} (h:S5Is H v r) (s:KeepO H H'):S5Is H' v r:=let ⟨p,vg,vh,vc,e,f,h1,h3,h4⟩:=h;⟨p,vg,vh,vc,e,s.tup _ _ f,h1.ko s,h3.ko s,h4.ko s⟩
structure S5Ok (sp:List Str) (r:S5):Prop where
 pl:r.pl∈sp
 g1:1≤r.gain.1∧r.gain.1≤r.gain.2
 g2:r.gain.2≤9
 hi:∀ c,r.hi=some c→0≤c.1∧N50 c
 co:N50 r.co
def namesS (c:Int) (n:Nat):List Str:=(List.range n).map fun i:Nat=>nameA (20+(i:Int)) c
theorem namesS_succ (c:Int) (n:Nat):namesS c (n+1)=namesS c n++[nameA (20+(n:Int)) c]:=by unfold namesS;rw [List.range_succ,List.map_append];rfl
inductive IspStores (K:PySem.W.Frag) (vs:List V) (H:Hp) (Q:VK):Prop
 | mk (l lp:Addr) (ns:List Int) (at_ c:Nat) (tp:List V) (es:List Ent) (h1:vs=[.ref l,.int at_,.ref lp,.int c]) (h2:SqL K H l (ns.map V.int)) (h3:at_≤100) (h4:c≤4) (h5:SqL K H lp tp) (h6:RowAt EntIs H tp es) (h7:1≤es.length) (h8:es.length≤12) (h9:∀ ls H' ts (ss:List S5),H ls=none→Same H H'→H' ls=some (.lst ts)→RowAt S5Is H' ts ss→ss.length=c→ss.map (·.nm)=namesS (cellA ns 2) c→(∀ r∈ss,S5Ok (es.map (·.1)) r)→Q (.ref ls) H'):IspStores K vs H Q
def spStores (K:PySem.W.Frag):Sp:=fun vs H Q _=>IspStores K vs H Q
theorem ok_law_stores (T:TX K mg a):FnB P w K mg base CX0 "_law_stores" 3 ["_law_script","_law_at","_law_places","_law_count"] (spStores K):=by
 refine T.d_law_stores.ok sc_law_stores (fun vs H Q E h=>?_) (fun f cdv A outer s H vs Q E hr h=>?_)
 ·obtain ⟨_,_,_,_,_,_,_,rfl,_⟩:=h
  rfl
 ·obtain ⟨l,lp,ns,at_,c,tp,es,rfl,hS,a100,c4,hP,hes,l1,l12,k⟩:=h
  refine ⟨_,(pss_cons (ps_set (i:=4) sc_law_stores.nd rfl (Or.inl rfl) (pe_lst pa_nil))
   (pss_cons (ps_for PassesOwn.never rfl (pi_range1 rfl T.z_range (pa_cons (pv 3) pa_nil)) (pg_name (i:=5) sc_law_stores.nd rfl (Or.inl rfl)) (pss_cons (ps_set (i:=6) sc_law_stores.nd rfl (Or.inl rfl) (pe_ix ix_tup (pe_ix ix_list (pv 2) (pe_op op_mod (pe_fn (ok_law_cell_at T) hr pass0 (pa_cons (pv 0) (pa_cons (pe_op op_add (pv 1) (pe_op op_mulB pe_int (pv 5))) pa_nil))) (pe_callB call_lenK (by rfl) T.z_len PySem.boot_len (pa_cons (pv 2) pa_nil))) (fun _ _=>rfl)) pe_int (fun _ _=>rfl)))
   (pss_cons (ps_set (i:=7) sc_law_stores.nd rfl (Or.inl rfl) (pe_op op_fdivB (pe_fn (ok_law_cell_at T) hr pass0 (pa_cons (pv 0) (pa_cons (pe_op op_add (pv 1) (pe_op op_mulB pe_int (pv 5))) pa_nil))) (pe_callB call_lenK (by rfl) T.z_len PySem.boot_len (pa_cons (pv 2) pa_nil))))
   (pss_cons (ps_set (i:=8) sc_law_stores.nd rfl (Or.inl rfl) (pe_tup (pa_cons (pe_op op_add pe_int (pe_op op_mod (pv 7) pe_int)) (pa_cons (pe_op op_add (pe_op op_add pe_int (pe_op op_mod (pv 7) pe_int)) (pe_op op_mod (pe_op op_fdiv (pv 7) pe_int) pe_int)) pa_nil))))
   (pss_cons (ps_set (i:=9) sc_law_stores.nd rfl (Or.inl rfl) (pe_fn (ok_law_high T) hr pass0 (pa_cons (pe_fn (ok_law_cell_at T) hr pass0 (pa_cons (pv 0) (pa_cons (pe_op op_add (pe_op op_add (pv 1) (pe_op op_mulB pe_int (pv 5))) pe_int) pa_nil))) pa_nil)))
   (pss_cons (ps_set (i:=10) sc_law_stores.nd rfl (Or.inl rfl) (pe_fn (ok_law_number T) hr pass0 (pa_cons (pe_fn (ok_law_cell_at T) hr pass0 (pa_cons (pv 0) (pa_cons (pe_op op_add (pe_op op_add (pv 1) (pe_op op_mulB pe_int (pv 5))) pe_int) pa_nil))) pa_nil)))
   (pss_one (ps_expr (pe_bm PySem.F.plainAttrs_list PySem.F.slot_list_append PySem.F.type_list_append mt_append (pv 4) (pa_cons (pe_tup (pa_cons (pe_fn (ok_law_name T) hr pass0 (pa_cons (pe_op op_add pe_int (pv 5)) (pa_cons (pe_fn (ok_law_cell_at T) hr pass0 (pa_cons (pv 0) (pa_cons pe_int pa_nil))) pa_nil))) (pa_cons (pv 6) (pa_cons (pv 8) (pa_cons (pv 9) (pa_cons (pv 10) pa_nil)))))) pa_nil))))))))))
   (pss_one (ps_ret (pv 4))))),?_⟩
  try dsimp only [cxOf,Cx.nox,Cx.wish]
  have ltp:tp.length=es.length:=hes.1
  refine ⟨by decide,fun ls nls=>?_⟩
  have s1:=same_upd (o:=.lst []) nls
  have h1:upd H ls (.lst []) ls=some (.lst []):=upd_same
  generalize upd H ls (.lst [])=H1 at s1 h1 ⊢
  refine ⟨_,rfl,(c:Int),rfl,by omega,by omega,for_range (n:=c) (fun i σ H2=>i≤c∧∃ z5 z6 z7 z8 z9 z10 ts ss,σ=[some (.ref l),some (.int at_),some (.ref lp),some (.int c),some (.ref ls),z5,z6,z7,z8,z9,z10]∧Same H H2∧H2 ls=some (.lst ts)∧RowAt S5Is H2 ts ss∧ss.length=i∧ss.map (·.nm)=namesS (cellA ns 2) i∧∀ r∈ss,S5Ok (es.map (·.1)) r) ⟨Nat.zero_le _,_,_,_,_,_,_,[],[],rfl,s1,h1,RowAt.nil,rfl,rfl,fun e he=>absurd he List.not_mem_nil⟩ ?_ ?_⟩
  ·rintro i σ H2 hi ⟨_,z5,z6,z7,z8,z9,z10,ts,ss,rfl,s2,h2,hv,lss,sn,sok⟩
   have hi':i<c:=by omega
   have lts:ts.length≤4:=by rw [hv.1];omega
   have np:(0:Int)<(tp.length:Int):=by omega
   have hS2:=s2.seq hS
   have hP2:=s2.seq hP
   have mul:∀ u:Int,u=0+(i:Int)→CMulB 3 u:=fun u e=>⟨Sm.of_le (n:=20) (by decide) (by decide),Sm.of_le (n:=20) (by omega) (by decide)⟩
   have cell:∀ (j:Nat) (u:Int),u=(at_:Int)+3*(0+(i:Int))+j→[V.ref l,V.int u]=[V.ref l,V.int ((at_+3*i+j:Nat):Int)]:=fun j u e=>by rw [show u=((at_+3*i+j:Nat):Int) by omega]
   obtain ⟨a0,a1⟩:=emod_in (cellA ns (at_+3*i+0)) np
   obtain ⟨j,hj⟩:=Int.eq_ofNat_of_zero_le a0
   obtain ⟨x,ex⟩:∃ x,es[j]?=some x:=⟨_,List.getElem?_eq_getElem (by omega)⟩
   obtain ⟨tx,etx,t1,v1,rfl,ht1,_⟩:=hes.get' ex
   refine ⟨_,rfl,_,rfl,_,rfl,_,rfl,_,_,rfl,rfl,mul _ rfl,_,_,rfl,rfl,l,ns,at_+3*i+0,cell 0 _ (by omega),hS2,by omega,?_⟩
   refine ⟨_,rfl,lp,_,rfl,.inl hP2,_,_,rfl,rfl,np,lp,_,_,_,rfl,rfl,hP2,by rw [hj];exact atI_nat etx,t1,_,_,_,rfl,rfl,SqT.of (s2 _ _ ht1),rfl,?_⟩
   refine ⟨_,rfl,_,rfl,_,rfl,_,_,rfl,rfl,mul _ rfl,_,_,rfl,rfl,l,ns,at_+3*i+0,cell 0 _ (by omega),hS2,by omega,_,rfl,lp,_,rfl,.inl hP2,_,_,rfl,rfl,⟨by omega,Sm.of_le (n:=20) (by omega) (by decide)⟩,?_⟩
   obtain ⟨lo,hlo⟩:∃ lo,(cellA ns (at_+3*i+0)).fdiv (tp.length:Int)=lo:=⟨_,rfl⟩
   obtain ⟨b0,b1⟩:=emod_in lo (show (0:Int)<5 by decide)
   obtain ⟨d0,d1⟩:=emod_in (lo / 5) (show (0:Int)<5 by decide)
   refine ⟨_,rfl,_,_,rfl,rfl,by show (0:Int)<5;decide,_,_,rfl,rfl,_,rfl,_,_,rfl,rfl,by show (0:Int)<5;decide,_,_,rfl,rfl,_,rfl,_,_,rfl,rfl,⟨by decide,by decide⟩,_,_,rfl,rfl,by show (0:Int)<5;decide,_,_,rfl,rfl,by show 2≤sizeLine;decide,fun pg npg=>?_⟩
   have s3:=same_upd (o:=.tup [.int (1+(cellA ns (at_+3*i+0)).fdiv (tp.length:Int) % 5),.int (1+(cellA ns (at_+3*i+0)).fdiv (tp.length:Int) % 5+(cellA ns (at_+3*i+0)).fdiv (tp.length:Int) / 5 % 5)]) npg
   have hg:upd H2 pg (.tup [.int (1+(cellA ns (at_+3*i+0)).fdiv (tp.length:Int) % 5),.int (1+(cellA ns (at_+3*i+0)).fdiv (tp.length:Int) % 5+(cellA ns (at_+3*i+0)).fdiv (tp.length:Int) / 5 % 5)]) pg=some (.tup [.int (1+(cellA ns (at_+3*i+0)).fdiv (tp.length:Int) % 5),.int (1+(cellA ns (at_+3*i+0)).fdiv (tp.length:Int) % 5+(cellA ns (at_+3*i+0)).fdiv (tp.length:Int) / 5 % 5)]):=upd_same
   generalize upd H2 pg (.tup [.int (1+(cellA ns (at_+3*i+0)).fdiv (tp.length:Int) % 5),.int (1+(cellA ns (at_+3*i+0)).fdiv (tp.length:Int) % 5+(cellA ns (at_+3*i+0)).fdiv (tp.length:Int) / 5 % 5)])=H3 at s3 hg ⊢
   rw [hlo] at hg
   refine ⟨_,rfl,_,rfl,_,rfl,_,_,rfl,rfl,mul _ rfl,_,_,rfl,rfl,_,_,rfl,rfl,l,ns,at_+3*i+1,cell 1 _ rfl,s3.seq hS2,by omega,_,rfl,fun vh o H4 s4 hh hb=>?_⟩
   have hg4:=s4 _ _ hg
   refine ⟨_,rfl,_,rfl,_,rfl,_,_,rfl,rfl,mul _ rfl,_,_,rfl,rfl,_,_,rfl,rfl,l,ns,at_+3*i+2,cell 2 _ rfl,s4.seq (s3.seq hS2),by omega,_,rfl,fun z pz npz nz=>?_⟩
   have s5:=same_upd (o:=.tup [.int z.1,.int z.2]) npz
   have hz:upd H4 pz (.tup [.int z.1,.int z.2]) pz=some (.tup [.int z.1,.int z.2]):=upd_same
   generalize upd H4 pz (.tup [.int z.1,.int z.2])=H5 at s5 hz ⊢
   have s25:=s3.trans (s4.trans s5)
   have h5:=s25 _ _ h2
   refine ⟨_,rfl,.inl ⟨rfl,_,SqL.of h5⟩,?_⟩
   refine ⟨_,rfl,_,_,rfl,rfl,_,rfl,l,ns,2,rfl,s25.seq hS2,by decide,_,_,rfl,by omega,by omega,?_⟩
   refine ⟨_,rfl,_,rfl,_,rfl,_,rfl,by show 5≤sizeLine;decide,fun t nt=>?_⟩
   have e0:(20+(0+(i:Int)))=20+(i:Int):=by omega
   have s6:=same_upd (o:=.tup [.str (nameA (20+(0+(i:Int))) (cellA ns 2)),.str x.1,.ref pg,vh,.ref pz]) nt
   have ht:upd H5 t (.tup [.str (nameA (20+(0+(i:Int))) (cellA ns 2)),.str x.1,.ref pg,vh,.ref pz]) t=some (.tup [.str (nameA (20+(0+(i:Int))) (cellA ns 2)),.str x.1,.ref pg,vh,.ref pz]):=upd_same
   generalize upd H5 t (.tup [.str (nameA (20+(0+(i:Int))) (cellA ns 2)),.str x.1,.ref pg,vh,.ref pz])=H6 at s6 ht ⊢
   rw [e0] at ht
   have s26:=s25.trans s6
   have h6:=s26 _ _ h2
   refine ⟨ls,_,_,rfl,rfl,h6,small1000 (by omega),?_⟩
   refine ⟨hi',_,_,_,_,_,_,_,ss++[⟨nameA (20+(i:Int)) (cellA ns 2),x.1,(1+lo % 5,1+lo % 5+lo / 5 % 5),o,z⟩],rfl,same_put nls (s2.trans s26),upd_same,RowAt.snoc (hv.mono fun v x y=>(y.mono s26).ko (.lst h6)) (S5Is.ko ⟨t,.ref pg,vh,.ref pz,rfl,ht,⟨pg,rfl,s6 _ _ (s5 _ _ hg4)⟩,(hh.mono s5).mono s6,⟨pz,rfl,s6 _ _ hz⟩⟩ (.lst h6)),by rw [List.length_append,lss];rfl,by rw [List.map_append,sn,namesS_succ];rfl,fun r hr=>?_⟩
   rcases List.mem_append.mp hr with y | y
   ·exact sok r y
   ·rw [List.mem_singleton.mp y]
    exact ⟨List.mem_map.mpr ⟨x,List.mem_of_getElem? ex,rfl⟩,⟨by show 1≤1+lo % 5;omega,by show 1+lo % 5≤1+lo % 5+lo / 5 % 5;omega⟩,by show 1+lo % 5+lo / 5 % 5≤9;omega,hb,nz⟩
  ·rintro σ H2 ⟨_,z5,z6,z7,z8,z9,z10,ts,ss,rfl,s2,h2,hv,lss,sn,sok⟩
   exact ⟨_,rfl,k ls H2 ts ss nls s2 h2 hv lss sn sok⟩
theorem mk_Store (T:TX K mg a):MkB P w K mg base CX0 a.Store 6 ["self","name","place","loss","high","cost"] [] (spStoreN a):=mk_StoreN T _ (by simp)
def S5.d (r:S5):WD:=⟨r.nm,r.pl,r.pl,.sto,Rat.divInt (r.gain.2-r.gain.1) r.gain.2,r.hi.map vC,vC r.co⟩
inductive IspStore50 (a:Ad) (vs:List V) (H:Hp) (Q:VK):Prop
 | mk (v:V) (r:S5) (sp:List Str) (h1:vs=[v]) (h2:S5Is H v r) (h3:S5Ok sp r) (h4:∀ p H',H p=none→Same H H'→WayE a H' (.ref p) r.d→Q (.ref p) H'):IspStore50 a vs H Q
def spStore50 (a:Ad):Sp:=fun vs H Q _=>IspStore50 a vs H Q
theorem ok_law_store (T:TX K mg a):FnB P w K mg base CX0 "_law_store" 8 ["_law_store_here"] (spStore50 a):=by
 refine T.d_law_store.ok sc_law_store (fun vs H Q E h=>?_) (fun f cdv A outer s H vs Q E hr h=>?_)
 ·obtain ⟨_,_,_,rfl,_⟩:=h
  rfl
 ·obtain ⟨v,r,sp,rfl,⟨p,vg,vh,vc,rfl,hp,⟨pg,rfl,hg⟩,hhi,⟨pc,rfl,hc⟩⟩,ok,k⟩:=h
  refine ⟨_,(pss_cons (ps_asg (pv 0) (pg_tup (n:=5) rfl (pgs_cons (pg_name (i:=1) sc_law_store.nd rfl (Or.inl rfl)) (pgs_cons (pg_name (i:=2) sc_law_store.nd rfl (Or.inl rfl)) (pgs_cons (pg_name (i:=3) sc_law_store.nd rfl (Or.inl rfl)) (pgs_cons (pg_name (i:=4) sc_law_store.nd rfl (Or.inl rfl)) (pgs_cons (pg_name (i:=5) sc_law_store.nd rfl (Or.inl rfl)) pgs_nil)))))))
   (pss_cons (ps_set (i:=6) sc_law_store.nd rfl (Or.inl rfl) pe_non)
   (pss_cut (ps_if (pt_cmpR op_notN (pv 4) pe_non (nomark _)) (pss_one (ps_set (i:=6) sc_law_store.nd rfl (Or.inl rfl) (pe_mkfr (mk2 T) hr T.mg_Fraction pass0 (pa_cons (pe_ix ix_tup (pv 4) pe_int (fun _ _=>rfl)) (pa_cons (pe_ix ix_tup (pv 4) pe_int (fun _ _=>rfl)) pa_nil))))) pss_nil)
   (pss_one (ps_ret (pe_mk (mk_Store T) hr T.mg_Store pass0 (pa_cons (pv 1) (pa_cons (pv 2) (pa_cons (pe_mkfr (mk2 T) hr T.mg_Fraction pass0 (pa_cons (pe_op op_sub (pe_ix ix_tup (pv 3) pe_int (fun _ _=>rfl)) (pe_ix ix_tup (pv 3) pe_int (fun _ _=>rfl))) (pa_cons (pe_ix ix_tup (pv 3) pe_int (fun _ _=>rfl)) pa_nil))) (pa_cons (pv 6) (pa_cons (pe_mkfr (mk2 T) hr T.mg_Fraction pass0 (pa_cons (pe_ix ix_tup (pv 5) pe_int (fun _ _=>rfl)) (pa_cons (pe_ix ix_tup (pv 5) pe_int (fun _ _=>rfl)) pa_nil))) pa_nil))))))))))),?_⟩
  try dsimp only [cxOf,Cx.nox,Cx.wish]
  refine ⟨_,rfl,p,_,rfl,SqT.of hp,rfl,_,_,rfl,_,_,rfl,_,_,rfl,_,_,rfl,_,_,rfl,rfl,?_⟩
  refine ⟨fun σ' H'=>∃ vb:V,σ'=[some (.ref p),some (.str r.nm),some (.str r.pl),some (.ref pg),some vh,some (.ref pc),some vb]∧Same H H'∧HiOk a.Fraction H' vb∧HiT a H' vb (r.hi.map vC),?_,?_⟩
  ·cases ho:r.hi with
   | none=>
    rw [ho] at hhi
    obtain rfl:vh=.non:=hhi
    refine ⟨_,rfl,rfl,_,rfl,iteF ?_⟩
    exact ⟨V.non,rfl,Same.refl _,.inl rfl,rfl⟩
   | some c=>
    rw [ho] at hhi
    obtain ⟨ph,rfl,hph⟩:=hhi
    obtain ⟨h0,h1⟩:=ok.hi c ho
    have:=h1.b
    refine ⟨_,rfl,rfl,_,rfl,iteT ?_⟩
    refine ⟨_,rfl,ph,_,_,_,rfl,rfl,SqT.of hph,rfl,_,rfl,ph,_,_,_,rfl,rfl,SqT.of hph,rfl,_,_,rfl,by omega,h1.sm.2,fun q H1 nq s1 f1=>?_⟩
    exact ⟨.ref q,rfl,s1,.inr ⟨q,_,rfl,f1,nn_num (by omega) h0⟩,⟨q,rfl,f1⟩⟩
  rintro σ' H1 ⟨vb,rfl,s1,hb,hT⟩
  obtain ⟨_,co1,_⟩:=id ok.co
  obtain ⟨ga1,ga2⟩:=ok.g1
  have gb2:=ok.g2
  have hg1:=s1 _ _ hg
  refine ⟨_,rfl,_,rfl,_,rfl,pg,_,_,_,rfl,rfl,SqT.of hg1,rfl,_,rfl,pg,_,_,_,rfl,rfl,SqT.of hg1,rfl,_,_,rfl,rfl,_,rfl,pg,_,_,_,rfl,rfl,SqT.of hg1,rfl,_,_,rfl,by omega,Sm.of_le (n:=10) (by omega) (by decide),fun q3 H3 nq3 s3 f3=>?_⟩
  have hc3:=s3 _ _ (s1 _ _ hc)
  refine ⟨_,rfl,_,rfl,pc,_,_,_,rfl,rfl,SqT.of hc3,rfl,_,rfl,pc,_,_,_,rfl,rfl,SqT.of hc3,rfl,_,_,rfl,by omega,ok.co.sm.2,fun qc H4 nqc s4 f4=>?_⟩
  have s34:=s3.trans s4
  refine mkS T (f3.mono s4) ⟨nn_num (by omega) (by omega),lt_one (by omega) (by omega),(Bd.divInt (n:=10) (by omega) (by omega)).smr (by decide)⟩ (hb.mono s34) fun q H' vc' q' nq ss W co=>k q H' (s1.free (s34.free nq)) (s1.trans (s34.trans ss)) ⟨q,_,_,q',rfl,W,co_same co f4 ss,hT.mono (s34.trans ss)⟩
abbrev PRow:=List Str × (Str→Int × Int)
def DcpIs (H:Hp) (v:V) (r:PRow):Prop:=∃ d kvs,v=.ref d∧H d=some (.dK kvs)∧Tab DueIs H kvs r.1 r.2∧r.1.Nodup
theorem DcpIs.mono {H H':Hp} {v:V} {r:PRow} (h:DcpIs H v r) (s:Same H H'):DcpIs H' v r:=let ⟨d,kvs,e,f,t,n⟩:=h;⟨d,kvs,e,s _ _ f,t.mono fun _ _ z=>DueIs.mono z s,n⟩
structure PRowOk (sp:List Str) (r:PRow):Prop where
 sub:∀ n∈r.1,n∈sp
 ok:∀ n∈r.1,N50 (r.2 n)
 len:r.1.length≤12
inductive IspWants63 (K:PySem.W.Frag) (vs:List V) (H:Hp) (Q:VK):Prop
 | mk (l lp:Addr) (ns:List Int) (at_ n:Nat) (tp:List V) (es:List Ent) (h1:vs=[.ref l,.int at_,.ref lp,.int n]) (h2:SqL K H l (ns.map V.int)) (h3:at_≤100) (h4:n≤12) (h5:SqL K H lp tp) (h6:RowAt EntIs H tp es) (h7:es.length≤12) (h8:(es.map (·.1)).Nodup) (h9:∀ lw H' tw (ws:List PRow),H lw=none→Same H H'→H' lw=some (.lst tw)→RowAt DcpIs H' tw ws→ws.length=n→(∀ r∈ws,PRowOk (es.map (·.1)) r)→Q (.ref lw) H'):IspWants63 K vs H Q
def spWants63 (K:PySem.W.Frag):Sp:=fun vs H Q _=>IspWants63 K vs H Q
theorem ok_law_wants (T:TX K mg a):FnB P w K mg base CX0 "_law_wants" 2 ["_law_script","_law_at","_law_places","_law_turns"] (spWants63 K):=by
 refine T.d_law_wants.ok sc_law_wants (fun vs H Q E h=>?_) (fun f cdv A outer s H vs Q E hr h=>?_)
 ·obtain ⟨_,_,_,_,_,_,_,rfl,_⟩:=h
  rfl
 ·obtain ⟨l,lp,ns,at_,n,tp,es,rfl,hS,a100,n12,hP,hes,l12,nd,k⟩:=h
  refine ⟨_,(pss_cons (ps_set (i:=4) sc_law_wants.nd rfl (Or.inl rfl) (pe_lst pa_nil))
   (pss_cons (ps_for PassesOwn.never rfl (pi_range1 rfl T.z_range (pa_cons (pv 3) pa_nil)) (pg_name (i:=5) sc_law_wants.nd rfl (Or.inl rfl)) (pss_cons (ps_set (i:=6) sc_law_wants.nd rfl (Or.inl rfl) pe_dnewK)
   (pss_cons (ps_for PassesOwn.never rfl (pi_enum (by rfl) T.z_enumerate (pa_cons (pv 2) pa_nil)) (pg_tup (n:=2) rfl (pgs_cons (pg_name (i:=7) sc_law_wants.nd rfl (Or.inl rfl)) (pgs_cons (pg_name (i:=8) sc_law_wants.nd rfl (Or.inl rfl)) pgs_nil))) (pss_cons (ps_set (i:=9) sc_law_wants.nd rfl (Or.inl rfl) (pe_fn (ok_law_cell_at T) hr pass0 (pa_cons (pv 0) (pa_cons (pe_op op_add (pe_op op_add (pv 1) (pe_op op_mulB (pv 5) (pe_callB call_lenK (by rfl) T.z_len PySem.boot_len (pa_cons (pv 2) pa_nil)))) (pv 7)) pa_nil))))
   (pss_one (ps_if (pt_cmpR op_gt (pe_op op_mod (pv 9) pe_int) pe_int (nomark _)) (pss_one (ps_dput (hu_of hr) (pv 6) (pe_ix ix_tup (pv 8) pe_int (fun _ _=>rfl)) (pe_fn (ok_law_number T) hr pass0 (pa_cons (pe_op op_fdiv (pv 9) pe_int) pa_nil)) rfl)) pss_nil))))
   (pss_one (ps_expr (pe_bm PySem.F.plainAttrs_list PySem.F.slot_list_append PySem.F.type_list_append mt_append (pv 4) (pa_cons (pv 6) pa_nil)))))))
   (pss_one (ps_ret (pv 4))))),?_⟩
  try dsimp only [cxOf,Cx.nox,Cx.wish]
  have ltp:tp.length=es.length:=hes.1
  refine ⟨by decide,fun lw nlw=>?_⟩
  have s1:=same_upd (o:=.lst []) nlw
  have h1:upd H lw (.lst []) lw=some (.lst []):=upd_same
  generalize upd H lw (.lst [])=H1 at s1 h1 ⊢
  refine ⟨_,rfl,(n:Int),rfl,by omega,by omega,for_range (n:=n) (fun i σ H2=>i≤n∧∃ z5 z6 z7 z8 z9 tw ws,σ=[some (.ref l),some (.int at_),some (.ref lp),some (.int n),some (.ref lw),z5,z6,z7,z8,z9]∧Same H H2∧H2 lw=some (.lst tw)∧RowAt DcpIs H2 tw ws∧ws.length=i∧∀ r∈ws,PRowOk (es.map (·.1)) r) ⟨Nat.zero_le _,_,_,_,_,_,[],[],rfl,s1,h1,RowAt.nil,rfl,fun e he=>absurd he List.not_mem_nil⟩ ?_ ?_⟩
  ·rintro i σ H2 hi ⟨_,z5,z6,z7,z8,z9,tw,ws,rfl,s2,h2,hv,lws,wok⟩
   have hi':i<n:=by omega
   have ltw:tw.length≤12:=by rw [hv.1];omega
   intro d nd0
   have s3:=same_upd (o:=.dK []) nd0
   have hd0:upd H2 d (.dK []) d=some (.dK []):=upd_same
   generalize upd H2 d (.dK [])=H3 at s3 hd0 ⊢
   have hP2:=s2.seq hP
   have hS2:=s2.seq hS
   have mlen:i*es.length≤12*12:=Nat.mul_le_mul (by omega) l12
   refine ⟨_,rfl,lp,tp,rfl,s3.seq hP2,for_enum (K:=K) (a:=lp) (xs:=tp) (fun j σ H4=>j≤es.length∧∃ z7 z8 z9 kvs ks g,σ=[some (.ref l),some (.int at_),some (.ref lp),some (.int n),some (.ref lw),some (.int (0+(i:Int))),some (.ref d),z7,z8,z9]∧Same H2 H4∧H4 d=some (.dK kvs)∧Tab DueIs H4 kvs ks g∧ks.Nodup∧(∀ m∈ks,m∈(es.map (·.1)).take j∧N50 (g m))∧ks.length≤j) ⟨Nat.zero_le _,_,_,_,[],[],fun _=>(0,1),rfl,s3,hd0,Tab.nil,List.nodup_nil,fun m hm=>absurd hm List.not_mem_nil,Nat.zero_le _⟩ (fun j σ H4 ⟨_,_,_,_,_,_,_,_,s4,_⟩=>s4.seq hP2) ?_ ?_⟩
   ·rintro j x tt σ H4 hx ntt ⟨_,z7,z8,z9,kvs,ks,g,rfl,s4,hd4,tb,nk,kin,lks⟩
    obtain ⟨e,ee,he0⟩:=hes.get hx
    have hj:j<es.length:=(List.getElem?_eq_some_iff.mp ee).1
    obtain ⟨te,ve,rfl,hte,_⟩:=id he0
    have s5':=same_upd (o:=.tup [.int (j:Int),.ref te]) ntt
    have htt:upd H4 tt (.tup [.int (j:Int),.ref te]) tt=some (.tup [.int (j:Int),.ref te]):=upd_same
    have hd5:=s5' _ _ hd4
    have tb5:=tb.mono fun v x z=>DueIs.mono z s5'
    generalize upd H4 tt (.tup [.int (j:Int),.ref te])=H5 at s5' htt hd5 tb5 ⊢
    have s5:=s4.trans s5'
    have en:(es.map (·.1))[j]?=some e.1:=by rw [List.getElem?_map,ee];rfl
    obtain ⟨tk,nkk⟩:=take_next nd en
    have nin:¬ e.1∈ks:=fun z=>nkk (kin _ z).1
    refine ⟨tt,_,rfl,SqT.of htt,rfl,_,_,rfl,_,_,rfl,rfl,?_⟩
    refine ⟨_,rfl,_,rfl,_,rfl,_,rfl,lp,_,rfl,.inl (s5.seq hP2),_,_,rfl,rfl,?m1,_,_,rfl,rfl,_,rfl,_,_,rfl,rfl,l,ns,at_+i*tp.length+j,?c1,s5.seq hS2,?c2,?_⟩
    case m1=>exact ⟨Sm.of_le (n:=20) (by omega) (by decide),Sm.of_le (n:=20) (by omega) (by decide)⟩
    case c1=>
     show [V.ref l,V.int ((at_:Int)+(0+(i:Int))*(tp.length:Int)+(j:Int))]=_
     rw [show (at_:Int)+(0+(i:Int))*(tp.length:Int)+(j:Int)=((at_+i*tp.length+j:Nat):Int) by rw [Int.zero_add];push_cast;rfl]
    case c2=>rw [ltp];omega
    refine ⟨_,rfl,_,_,rfl,rfl,by show (0:Int)<3;decide,_,_,rfl,rfl,_,rfl,?_⟩
    generalize cellA ns (at_+i*tp.length+j)=cg
    refine ifB (fun h3=>?_) (fun h3=>?_)
    ·refine ⟨_,rfl,_,_,rfl,rfl,⟨by decide,by decide⟩,_,rfl,fun z pz npz nz=>?_⟩
     have s6:=same_upd (o:=.tup [.int z.1,.int z.2]) npz
     have hz:upd H5 pz (.tup [.int z.1,.int z.2]) pz=some (.tup [.int z.1,.int z.2]):=upd_same
     have hd6:=s6 _ _ hd5
     have tb6:=tb5.mono fun v x z=>DueIs.mono z s6
     generalize upd H5 pz (.tup [.int z.1,.int z.2])=H6 at s6 hz hd6 tb6 ⊢
     have lk:kvs.length≤900:=by rw [tb.len];omega
     refine ⟨_,rfl,_,rfl,te,_,_,_,rfl,rfl,SqT.of ((s2.trans (s5.trans s6)) _ _ hte),rfl,d,_,rfl,DPut.k (k:=Sum.inr e.1) hd6 (small1000 (by omega)),?_⟩
     have ko:KeepO H6 (upd H6 d (.dK (putK kvs (Sum.inr e.1) (.ref pz)))):=.dct hd6
     refine ⟨hj,_,_,_,_,ks++[e.1],upf g e.1 z,rfl,same_put nd0 (s5.trans s6),upd_same,?_,?_,?_,?_⟩
     ·rw [← addK_new nin]
      exact Tab.put (n:=e.1) (tb6.mono fun v x z=>DueIs.ko z ko) (DueIs.ko ⟨pz,rfl,hz⟩ ko)
     ·exact List.nodup_append.mpr ⟨nk,by simp,fun x hx y hy=>by rw [List.mem_singleton.mp hy];exact fun z=>nin (z ▸ hx)⟩
     ·intro m hm
      rw [tk]
      by_cases em:m=e.1
      ·subst em
       rw [upf_same]
       exact ⟨List.mem_append_right _ (by simp),nz⟩
      ·rw [upf_ne em]
       rcases List.mem_append.mp hm with q | q
       ·exact ⟨List.mem_append_left _ (kin m q).1,(kin m q).2⟩
       ·exact absurd (List.mem_singleton.mp q) em
     ·rw [List.length_append];show ks.length+1≤j+1;omega
    ·exact ⟨hj,_,_,_,kvs,ks,g,rfl,s5,hd5,tb5,nk,fun m hm=>⟨by rw [tk];exact List.mem_append_left _ (kin m hm).1,(kin m hm).2⟩,by omega⟩
   ·rintro σ H4 ⟨_,z7,z8,z9,kvs,ks,g,rfl,s4,hd4,tb,nk,kin,lks⟩
    have h4:=s4 _ _ h2
    have ndl:d≠lw:=fun z=>by rw [z,h2] at nd0;cases nd0
    refine ⟨_,rfl,.inl ⟨rfl,_,SqL.of h4⟩,_,rfl,lw,_,_,rfl,rfl,h4,small1000 (by omega),?_⟩
    have sq:∀ v x,DcpIs H4 v x→v≠.ref lw→DcpIs (upd H4 lw (.lst (tw++[.ref d]))) v x:=fun v x ⟨d',kv',e,f,t,q⟩ ne=>⟨d',kv',e,by rw [upd_ne (fun z=>ne (by rw [e,z]))];exact f,t.mono fun _ _ z=>DueIs.ko z (.lst h4),q⟩
    refine ⟨hi',_,_,_,_,_,_,ws++[(ks,g)],rfl,same_put nlw (s2.trans s4),upd_same,?_,by rw [List.length_append,lws];rfl,fun r hr=>?_⟩
    ·have up:RowAt DcpIs (upd H4 lw (.lst (tw++[.ref d]))) tw ws:=hv.mono fun v x z=>sq v x (z.mono s4) (by
      obtain ⟨d',kv',e,f,_⟩:=z
      intro q
      rw [e] at q
      cases q
      rw [h2] at f
      cases f)
     exact RowAt.snoc up (sq _ _ ⟨d,kvs,rfl,hd4,tb,nk⟩ (fun z=>by cases z;exact ndl rfl))
    ·rcases List.mem_append.mp hr with y | y
     ·exact wok r y
     ·rw [List.mem_singleton.mp y]
      rw [ltp,show es.length=(es.map (·.1)).length by rw [List.length_map],List.take_length] at kin
      exact ⟨fun m hm=>(kin m hm).1,fun m hm=>(kin m hm).2,by show ks.length≤12;omega⟩
  ·rintro σ H2 ⟨_,z5,z6,z7,z8,z9,tw,ws,rfl,s2,h2,hv,lws,wok⟩
   exact ⟨_,rfl,k lw H2 tw ws nlw s2 h2 hv lws wok⟩
theorem KeepO.thaw {H:Hp} {l:Addr} {o:Obj} {x o':HO} (h:H l=some (.frz o x)):KeepO H (upd H l o'):=⟨fun b ys e=>by rw [upd_ne (ne_of e h (by intro z;cases z))];exact e,fun b C dx fs e=>by rw [upd_ne (ne_of e h (by intro z;cases z))];exact e⟩
def vR (r:PRow):WRow:=(r.1,fun n=>vC (r.2 n))
inductive IspFractions (a:Ad) (vs:List V) (H:Hp) (Q:VK):Prop
 | mk (v:V) (r:PRow) (h1:vs=[v]) (h2:DcpIs H v r) (h3:(∀ n∈r.1,N50 (r.2 n))) (h4:r.1.length≤60) (h5:∀ d' H',H d'=none→Same H H'→DctIs a H' (.ref d') (vR r)→Q (.ref d') H'):IspFractions a vs H Q
def spFractions (a:Ad):Sp:=fun vs H Q _=>IspFractions a vs H Q
theorem ok_law_fractions (T:TX K mg a):FnB P w K mg base CX0 "_law_fractions" 7 ["_law_pairs"] (spFractions a):=by
 refine T.d_law_fractions.ok sc_law_fractions (fun vs H Q E h=>?_) (fun f cdv A outer s H vs Q E hr h=>?_)
 ·obtain ⟨_,_,rfl,_⟩:=h
  rfl
 ·obtain ⟨v,r,rfl,⟨d,kvs,rfl,hd,tb,nk⟩,nok,l12,k⟩:=h
  refine ⟨_,(pss_cons (ps_set (i:=1) sc_law_fractions.nd rfl (Or.inl rfl) pe_dnewK)
   (pss_cons (ps_thaw (ps_for PassesOwn.never rfl (pi_dict (pv 0)) (pg_name (i:=2) sc_law_fractions.nd rfl (Or.inl rfl)) (pss_one (ps_dput (hu_of hr) (pv 1) (pv 2) (pe_mkfr (mk2 T) hr T.mg_Fraction pass0 (pa_cons (pe_ix ix_tup (pe_dget (hu_of hr) (pv 0) (pv 2) (fun _ _=>rfl)) pe_int (fun _ _=>rfl)) (pa_cons (pe_ix ix_tup (pe_dget (hu_of hr) (pv 0) (pv 2) (fun _ _=>rfl)) pe_int (fun _ _=>rfl)) pa_nil))) rfl))))
   (pss_one (ps_ret (pv 1))))),?_⟩
  try dsimp only [cxOf,Cx.nox,Cx.wish]
  intro d' nd'
  have s1:=same_upd (o:=.dK []) nd'
  have hd':upd H d' (.dK []) d'=some (.dK []):=upd_same
  generalize upd H d' (.dK [])=H1 at s1 hd' ⊢
  have ndd:d'≠d:=fun z=>by rw [z,hd] at nd';cases nd'
  have hd1:=s1 _ _ hd
  refine ⟨d,.dK kvs,hd1,(by intro o z e;cases e),_,rfl,d,kvs,rfl,hd1,fun o=>?_⟩
  refine for_dict (a:=d) (o:=o) (kvs:=kvs) (fun j σ H3=>j≤r.1.length∧∃ z2 kv',σ=[some (.ref d),some (.ref d'),z2]∧H3 d=some (.frz o (.dK kvs))∧(∀ b ob,H b=some ob→b≠d→H3 b=some ob)∧H3 d'=some (.dK kv')∧Tab (FrIs a) H3 kv' (r.1.take j) (vR r).2)
   ⟨Nat.zero_le _,_,[],rfl,upd_same,(fun b ob e ne=>by rw [upd_ne ne];exact s1 _ _ e),by rw [upd_ne ndd];exact hd',Tab.nil⟩ (fun j σ H3 _ ⟨_,_,_,_,h,_⟩=>h) ?_ ?_
  ·rintro j kv σ H3 hkv ⟨_,z2,kv',rfl,hf,k3,hd3,tb3⟩
   obtain ⟨n,en,e1,ev,t,et,ht⟩:=tb.at_ nk hkv
   have hj:j<r.1.length:=(List.getElem?_eq_some_iff.mp en).1
   have ekv:kV kv.1=.str n:=by rw [e1];rfl
   rw [ekv]
   have ht3:=k3 _ _ ht (ne_of ht hd (by intro z;cases z))
   have ne:=nok n (List.mem_of_getElem? en)
   have:=ne.b
   obtain ⟨tk,nkk⟩:=take_next nk en
   have lk:kv'.length≤900:=by rw [tb3.len,List.length_take];omega
   have rd:DGet H3 d (kV (Sum.inr n)) (some (.ref t)):=.inl ⟨kvs,Sum.inr n,.inr ⟨o,hf⟩,rfl,by rw [ev,et]⟩
   refine ⟨_,rfl,_,rfl,d,.ref t,rfl,rd,t,_,_,_,rfl,rfl,SqT.of ht3,rfl,_,rfl,_,rfl,d,.ref t,rfl,rd,t,_,_,_,rfl,rfl,SqT.of ht3,rfl,(r.2 n).1,(r.2 n).2,rfl,by omega,ne.sm.2,fun q H4 nq s4 f4=>?_⟩
   have hd4:=s4 _ _ hd3
   refine ⟨_,rfl,_,rfl,d',_,rfl,DPut.k (k:=Sum.inr n) hd4 (small1000 (by omega)),?_⟩
   have ko:KeepO H4 (upd H4 d' (.dK (putK kv' (Sum.inr n) (.ref q)))):=.dct hd4
   refine ⟨hj,_,_,rfl,by rw [upd_ne ndd.symm];exact s4 _ _ hf,fun b ob e nb=>by rw [upd_ne (fun z=>by rw [z,nd'] at e;cases e)];exact s4 _ _ (k3 _ _ e nb),upd_same,?_⟩
   rw [tk,← addK_new nkk]
   exact (Tab.put (n:=n) (y:=vC (r.2 n)) (tb3.mono fun v x z=>(FrIs.mono z s4).ko ko) (FrIs.ko ⟨q,rfl,f4⟩ ko)).congr fun m hm=>by
    by_cases em:m=n
    ·subst em
     rw [upf_same]
     rfl
    ·rw [upf_ne em]
  ·rintro σ H3 ⟨_,z2,kv',rfl,hf,k3,hd3,tb3⟩
   rw [tb.len,List.take_length] at tb3
   have ko:KeepO H3 (upd H3 d (.dK kvs)):=KeepO.thaw hf
   refine ⟨o,hf,_,rfl,k d' _ nd' (fun b ob e=>?_) ⟨d',kv',rfl,by rw [upd_ne ndd];exact hd3,tb3.mono fun v x z=>FrIs.ko z ko,nk⟩⟩
   by_cases hb:b=d
   ·subst hb
    rw [upd_same,← hd,e]
   ·rw [upd_ne hb]
    exact k3 _ _ e hb
theorem split46 {l1 l2 d1 d2:List Nat} (h1:¬ 46∈d1) (h2:¬ 46∈d2) (h:(l1++[46])++d1=(l2++[46])++d2):l1=l2∧d1=d2:=by
 rw [List.append_assoc,List.append_assoc] at h
 rcases List.append_eq_append_iff.mp h with ⟨as,e1,e2⟩ | ⟨as,e1,e2⟩
 ·cases as with
  | nil=>exact ⟨by rw [e1,List.append_nil],List.cons.inj e2 |>.2⟩
  | cons b bs=>
   have:d1=bs++46::d2:=(List.cons.inj e2).2
   exact absurd (by rw [this];simp) h1
 ·cases as with
  | nil=>exact ⟨by rw [e1,List.append_nil],(List.cons.inj e2).2.symm⟩
  | cons b bs=>
   have:d2=bs++46::d1:=(List.cons.inj e2).2
   exact absurd (by rw [this];simp) h2
theorem dig_nodot {t:Nat} (h:t≤13):¬ 46∈(Str.ofString (toString (t:Int))).cps.toList:=by
 have:∀ t:Fin 14,¬ 46∈(Str.ofString (toString ((t.val:Nat):Int))).cps.toList:=by decide +kernel
 exact this ⟨t,by omega⟩
theorem dig_inj {t u:Nat} (h:t≤13) (h':u≤13) (e:Str.ofString (toString (t:Int))=Str.ofString (toString (u:Int))):t=u:=by
 have:∀ t u:Fin 14,Str.ofString (toString ((t.val:Nat):Int))=Str.ofString (toString ((u.val:Nat):Int))→t.val=u.val:=by decide +kernel
 exact this ⟨t,by omega⟩ ⟨u,by omega⟩ e
theorem atT_inj {x y:Str} {t u:Nat} (ht:t≤13) (hu:u≤13) (h:atT x (t:Int)=atT y (u:Int)):x=y∧t=u:=by
 have h1:=congrArg (fun u:Str=>u.cps.toList) h
 unfold atT at h1
 simp only [cps_app] at h1
 obtain ⟨e1,e2⟩:=split46 (dig_nodot ht) (dig_nodot hu) h1
 exact ⟨str_ext e1,dig_inj ht hu (str_ext e2)⟩
theorem psN_nm (ps:List (Str × Rat)) (ws:List WRow) (i:Nat):(psN ps ws (i+1)).map (·.1)=(psN ps ws i).map (·.1)++(ps.map (·.1)).map (fun x=>atT x ((i+1:Nat):Int)):=by
 show (psN ps ws i++ps.map _).map _=_
 rw [List.map_append,List.map_map,List.map_map]
 rfl
theorem psN_in {ps:List (Str × Rat)} {ws:List WRow}:∀ {i:Nat} {n:Str},n∈(psN ps ws i).map (·.1)→∃ x j,x∈ps.map (·.1)∧1≤j∧j≤i∧n=atT x ((j:Nat):Int)
 | 0,n,h=>absurd h List.not_mem_nil
 | i+1,n,h=>by
  rw [psN_nm] at h
  rcases List.mem_append.mp h with h | h
  ·obtain ⟨x,j,a,b,c,d⟩:=psN_in h
   exact ⟨x,j,a,b,by omega,d⟩
  ·obtain ⟨x,hx,e⟩:=List.mem_map.mp h
   exact ⟨x,i+1,hx,by omega,Nat.le_refl _,e.symm⟩
theorem psN_mem {ps:List (Str × Rat)} {ws:List WRow} {x:Str} {j:Nat} (hx:x∈ps.map (·.1)) (h1:1≤j):∀ {i:Nat},j≤i→atT x ((j:Nat):Int)∈(psN ps ws i).map (·.1)
 | 0,h=>by omega
 | i+1,h=>by
  rw [psN_nm]
  by_cases e:j=i+1
  ·subst e
   exact List.mem_append_right _ (List.mem_map.mpr ⟨x,hx,rfl⟩)
  ·exact List.mem_append_left _ (psN_mem hx h1 (by omega))
theorem map_nd {xs:List Str} (t:Int) (nd:xs.Nodup):(xs.map fun x=>atT x t).Nodup:=List.Pairwise.map _ (fun _ _ h=>atT_ne h) nd
theorem psN_nd {ps:List (Str × Rat)} {ws:List WRow} (nd:(ps.map (·.1)).Nodup):∀ {i:Nat},i≤13→((psN ps ws i).map (·.1)).Nodup
 | 0,_=>List.nodup_nil
 | i+1,h=>by
  rw [psN_nm]
  refine List.nodup_append.mpr ⟨psN_nd nd (by omega),map_nd _ nd,fun n hn m hm e=>?_⟩
  obtain ⟨x,j,_,_,c,d⟩:=psN_in hn
  obtain ⟨y,_,e2⟩:=List.mem_map.mp hm
  have:=(atT_inj (by omega) h (d.symm.trans (e.trans e2.symm))).2
  omega
theorem dsN_nm (ds ss:List WD) (n i:Nat):(dsN ds ss n (i+1)).map (·.nm)=(dsN ds ss n i).map (·.nm)++((ds.map (·.nm)++(if i+1<n then ss.map (·.nm) else [])).map (fun x=>atT x ((i+1:Nat):Int))):=by
 show (dsN ds ss n i++ds.map _++_).map _=_
 rw [List.map_append,List.map_append,List.map_append,List.append_assoc,List.map_map,List.map_map]
 congr 2
 split
 ·rw [List.map_map,List.map_map]
  rfl
 ·rfl
theorem dsN_in {ds ss:List WD} {m:Nat}:∀ {i:Nat} {n:Str},n∈(dsN ds ss m i).map (·.nm)→∃ x j,1≤j∧j≤i∧n=atT x ((j:Nat):Int)
 | 0,n,h=>absurd h List.not_mem_nil
 | i+1,n,h=>by
  rw [dsN_nm] at h
  rcases List.mem_append.mp h with h | h
  ·obtain ⟨x,j,b,c,d⟩:=dsN_in h
   exact ⟨x,j,b,by omega,d⟩
  ·obtain ⟨x,hx,e⟩:=List.mem_map.mp h
   exact ⟨x,i+1,by omega,Nat.le_refl _,e.symm⟩
theorem dsN_nd {ds ss:List WD} {m:Nat} (nd:(ds.map (·.nm)++ss.map (·.nm)).Nodup):∀ {i:Nat},i≤13→((dsN ds ss m i).map (·.nm)).Nodup
 | 0,_=>List.nodup_nil
 | i+1,h=>by
  rw [dsN_nm]
  refine List.nodup_append.mpr ⟨dsN_nd nd (by omega),map_nd _ ?_,fun n hn m hm e=>?_⟩
  ·split
   ·exact nd
   ·rw [List.append_nil]
    exact (List.nodup_append.mp nd).1
  ·obtain ⟨x,j,_,c,d⟩:=dsN_in hn
   obtain ⟨y,_,e2⟩:=List.mem_map.mp hm
   have:=(atT_inj (by omega) h (d.symm.trans (e.trans e2.symm))).2
   omega
theorem hi_num {o:Option (Int × Int)} (h:∀ c,o=some c→0≤c.1∧N50 c):∀ x,o.map vC=some x→0≤x.num:=fun x e=>by
 cases o with
 | none=>cases e
 | some c=>
  cases e
  obtain ⟨h0,h1⟩:=h c rfl
  have:=h1.b
  exact nn_num (by omega) h0
theorem leak_ok {g:Int × Int} (h1:1≤g.1) (h2:g.1≤g.2) (h3:g.2≤997):leakOk (Rat.divInt (g.2-g.1) g.2):=⟨nn_num (by omega) (by omega),lt_one (by omega) (by omega),(Bd.divInt (n:=10) (by omega) (by omega)).smr (by decide)⟩
theorem nameA_len (k c:Int):(nameA k c).length≤50:=by
 obtain ⟨q1,q2⟩:=emod_in (c / 37) (show (0:Int)<4 by decide)
 obtain ⟨r1,r2⟩:=emod_in (c / 5) (show (0:Int)<9 by decide)
 obtain ⟨v1,v2⟩:=emod_in (c / 7) (show (0:Int)<3 by decide)
 have d1:0≤c / 5 % 9 / 8∧c / 5 % 9 / 8≤1:=by omega
 have e1:0≤c / 37 % 4*(1+c / 5 % 9 / 8*12)∧c / 37 % 4*(1+c / 5 % 9 / 8*12)≤39:=by
  have g1:0≤1+c / 5 % 9 / 8*12:=by omega
  have g2:1+c / 5 % 9 / 8*12≤13:=by omega
  refine ⟨Int.mul_nonneg q1 g1,Int.le_trans (Int.mul_le_mul (show c / 37 % 4≤3 by omega) g2 g1 (by decide)) (by decide)⟩
 have l1:(Txt.mul (⟨#[sgAt (c % 37)]⟩:Str) (c / 37 % 4*(1+c / 5 % 9 / 8*12))).length≤39:=by rw [len_cps,mul_cps,List.length_replicate];omega
 have l2:(Txt.mul (⟨#[sgAt (c / 11 % 37)]⟩:Str) (c / 7 % 3)).length≤3:=by rw [len_cps,mul_cps,List.length_replicate];omega
 unfold nameA
 rw [PySem.strLen_append,PySem.strLen_append,one_len]
 omega
theorem NetAt.apn {H H':Hp} {p d:Addr} {ps:List (Str × Rat)} {ds:List WD} (h:NetAt a H p ps ds) (s:Same H H') (hd:H d=none):NetAp a H' p d ps ds:=by
 obtain ⟨dx,dw,dy,h1,hw,hy⟩:=h
 obtain ⟨kw,w1,_⟩:=id hw
 obtain ⟨ky,y1,_⟩:=id hy
 exact ⟨dx,dw,dy,s _ _ h1,hw.mono s,hy.mono s,(fun z=>by rw [← z,w1] at hd;cases hd),(fun z=>by rw [← z,y1] at hd;cases hd)⟩
theorem gain_sto {g:Int × Int} (h:1≤g.2):gainOf .sto (Rat.divInt (g.2-g.1) g.2)=vC g:=by
 show 1-Rat.divInt (g.2-g.1) g.2=Rat.divInt g.1 g.2
 rw [Rat.divInt_eq_div,Rat.divInt_eq_div]
 have:(g.2:Rat)≠0:=fun z=>by
  have:g.2=0:=by exact_mod_cast z
  omega
 push_cast
 rw [Rat.div_def,Rat.div_def]
 have e:=Rat.mul_inv_cancel _ this
 generalize ((g.2:Int):Rat)⁻¹=y at *
 generalize ((g.2:Int):Rat)=x at *
 generalize ((g.1:Int):Rat)=z at *
 grind
theorem dsN_ln (ds ss:List WD) (n:Nat):∀ i,(dsN ds ss n i).length=i*ds.length+min i (n-1)*ss.length
 | 0=>by rw [Nat.zero_mul,Nat.zero_min,Nat.zero_mul];rfl
 | i+1=>by
  have ih:=dsN_ln ds ss n i
  show (dsN ds ss n i++_++_).length=_
  rw [List.length_append,List.length_append,List.length_map,Nat.succ_mul,ih]
  split
  ·rw [List.length_map,show min (i+1) (n-1)=min i (n-1)+1 by omega,Nat.succ_mul]
   omega
  ·rw [List.length_nil,show min (i+1) (n-1)=min i (n-1) by omega]
   omega
theorem dsN_ok {ps:List (Str × Rat)} {ds ss:List WD} {ws:List WRow} {m:Nat} (hd:∀ d∈ds,d.kd≠.sto∧d.st∈ps.map (·.1)∧d.go∈ps.map (·.1)) (hs:∀ s∈ss,s.kd=.sto∧s.st=s.go∧s.st∈ps.map (·.1)):∀ {i:Nat},i≤m→∀ d∈dsN ds ss m i,d.st∈(psN ps ws m).map (·.1)∧d.go∈(psN ps ws m).map (·.1)
 | 0,_=>fun e h=>absurd h List.not_mem_nil
 | i+1,h=>fun r hr=>by
  rcases List.mem_append.mp hr with z | z
  ·rcases List.mem_append.mp z with z | z
   ·exact dsN_ok hd hs (by omega) r z
   ·obtain ⟨r0,h0,rfl⟩:=List.mem_map.mp z
    obtain ⟨k,s1,s2⟩:=hd r0 h0
    refine ⟨psN_mem s1 (by omega) h,?_⟩
    have e:(atD ((i+1:Nat):Int) r0).go=atT r0.go ((i+1:Nat):Int):=by
     unfold atD
     dsimp only
     cases e:r0.kd with
     | sto=>exact absurd e k
     | _=>rfl
    rw [e]
    exact psN_mem s2 (by omega) h
  ·by_cases hi:i+1<m
   ·rw [if_pos hi] at z
    obtain ⟨r0,h0,rfl⟩:=List.mem_map.mp z
    obtain ⟨k,e1,s1⟩:=hs r0 h0
    refine ⟨psN_mem s1 (by omega) h,?_⟩
    have e:(atD ((i+1:Nat):Int) r0).go=atT r0.st ((i+2:Nat):Int):=by
     unfold atD
     dsimp only
     rw [k,← e1]
     rfl
    rw [e]
    exact psN_mem (j:=i+2) s1 (by omega) hi
   ·rw [if_neg hi] at z
    exact absurd z List.not_mem_nil
theorem netN {ps:List (Str × Rat)} {ds ss:List WD} {ws:List WRow} (np:(ps.map (·.1)).Nodup) (nd:(ds.map (·.nm)++ss.map (·.nm)).Nodup) (hd:∀ d∈ds,d.kd≠.sto∧d.st∈ps.map (·.1)∧d.go∈ps.map (·.1)) (hs:∀ s∈ss,s.kd=.sto∧s.st=s.go∧s.st∈ps.map (·.1)) (p1:1≤ps.length) (few:fewN ps ds ss ws=true):NetOk (psN ps ws ws.length) (dsN ds ss ws.length ws.length):=by
 obtain ⟨f1,f2⟩:=of_decide_eq_true few
 have w12:ws.length≤12:=by
  rw [psN_len] at f1
  exact Nat.le_trans (Nat.le_mul_of_pos_right _ p1) f1
 exact ⟨psN_nd np (by omega),f1,dsN_nd nd (by omega),f2,dsN_ok hd hs (Nat.le_refl _)⟩
theorem dueS_none {pl:List Str}:∀ {l:List (Str × Str)} {kn:List Str},dueS pl kn l=none→(∀ x∈l,x.2∈pl)∧(kn.Nodup→(kn++l.map (·.1)).Nodup)
 | [],kn,_=>⟨fun x h=>absurd h List.not_mem_nil,fun h=>by rw [List.map_nil,List.append_nil];exact h⟩
 | x::l,kn,h=>by
  unfold dueS at h
  split at h
  ·cases h
  ·rename_i h1
   split at h
   ·rename_i h2
    obtain ⟨a1,a2⟩:=dueS_none h
    refine ⟨fun y hy=>?_,fun nd=>?_⟩
    ·rcases List.mem_cons.mp hy with rfl | hy
     ·exact h2
     ·exact a1 y hy
    ·have:=a2 (List.nodup_append.mpr ⟨nd,by simp,fun u hu v hv e=>h1 (by rw [List.mem_singleton.mp hv] at e;rw [← e];exact hu)⟩)
     rw [List.append_assoc] at this
     exact this
   ·cases h
theorem dueT_none {pl kn:List Str} {ss:List (Str × Str)} {ws:List (List Str)} {few:Bool} (h:dueT pl kn ss ws few=none):dueS pl kn ss=none∧few=true:=by
 unfold dueT at h
 split at h
 ·cases h
 ·rename_i h1
  refine ⟨h1,?_⟩
  split at h
  ·cases h
  ·split at h
   ·assumption
   ·cases h
structure S5W (r:S5):Prop where
 ok:S5Ok [r.pl] r
 l1:r.nm.length≤700
 l2:r.pl.length≤700
structure PRW (r:PRow) (m:Nat):Prop where
 ok:∀ n∈r.1,N50 (r.2 n)
 len:r.1.length≤m
 ln:∀ n∈r.1,n.length≤700
structure T64 (es:List Ent) (rs:List W7):Prop where
 tok:TOk es rs
 l1:1≤es.length
 l4:es.length≤4
 r4:rs.length≤4
 le:∀ x∈es.map (·.1),x.length≤700
 lr:∀ r∈rs,r.nm.length≤700
def fewP (es:List Ent) (rs:List W7) (ss:List S5) (ws:List PRow):Bool:=decide (es.length*ws.length≤12∧rs.length*ws.length+ss.length*(ws.length-1)≤24)
def dueP (es:List Ent) (rs:List W7) (ss:List S5) (ws:List PRow):Option (Nat × Str):=dueT (es.map (·.1)) (rs.map (·.nm)) (ss.map fun s=>(s.nm,s.pl)) (ws.map (·.1)) (fewP es rs ss ws)
def wordOf:Option (Nat × Str)→Str × Str
 | none=>("","")
 | some (0,n)=>("Twice",n)
 | some (1,n)=>("NoPlace",n)
 | some _=>("TooMany","")
theorem dueP_eq (es:List Ent) (rs:List W7) (ss:List S5) (ws:List PRow):dueN' (psT es) (dsT rs) (ss.map S5.d) (ws.map vR)=dueP es rs ss ws:=by
 unfold dueN' dueP
 rw [psT_n,dsT_n]
 have e1:nmst (ss.map S5.d)=ss.map fun s=>(s.nm,s.pl):=by unfold nmst;rw [List.map_map];rfl
 have e2:(ws.map vR).map (·.1)=ws.map (·.1):=by rw [List.map_map];rfl
 have e3:fewN (psT es) (dsT rs) (ss.map S5.d) (ws.map vR)=fewP es rs ss ws:=by
  unfold fewN fewP
  rw [decide_eq_decide,psN_len,dsN_ln]
  unfold psT dsT
  rw [List.length_map,List.length_map,List.length_map,List.length_map,Nat.min_eq_right (Nat.sub_le _ _),Nat.mul_comm ws.length es.length,Nat.mul_comm ws.length rs.length,Nat.mul_comm (ws.length-1)]
 rw [e1,e2,e3]
theorem net64 {es:List Ent} {rs:List W7} {ss:List S5} {ws:List PRow} (T:T64 es rs) (h:dueN' (psT es) (dsT rs) (ss.map S5.d) (ws.map vR)=none):NetOk (psN (psT es) (ws.map vR) (ws.map vR).length) (dsN (dsT rs) (ss.map S5.d) (ws.map vR).length (ws.map vR).length):=by
 obtain ⟨h1,few⟩:=dueT_none h
 obtain ⟨a1,a2⟩:=dueS_none h1
 have n0:=T.tok.net
 have nm:(nmst (ss.map S5.d)).map (·.1)=(ss.map S5.d).map (·.nm):=by unfold nmst;rw [List.map_map];rfl
 refine netN n0.np (by rw [← nm];exact a2 n0.nd) (fun d hd=>⟨?_,n0.5 d hd⟩) (fun s hs=>?_) (by unfold psT;rw [List.length_map];exact T.l1) few
 ·unfold dsT at hd
  obtain ⟨r,_,rfl⟩:=List.mem_map.mp hd
  unfold W7.d
  split
  ·nofun
  ·split <;> nofun
 ·have:=a1 (s.nm,s.st) (by unfold nmst;exact List.mem_map.mpr ⟨s,hs,rfl⟩)
  obtain ⟨r,_,rfl⟩:=List.mem_map.mp hs
  exact ⟨rfl,rfl,this⟩
theorem tr_d {es:List Ent} {rs:List W7} (T:T64 es rs):∀ x∈dsT rs,∀ t:Nat,t≤31→TrnOk x (t:Int):=fun x hx t ht=>by
 unfold dsT at hx
 obtain ⟨r,hr,rfl⟩:=List.mem_map.mp hx
 have o:=T.tok.6 r hr
 obtain ⟨a1,a2⟩:=o.g1
 obtain ⟨b1,b2⟩:=o.g2
 refine ⟨fun _=>by rw [W7.d_st,W7.d_go];exact o.ne,fun e=>?_,?_,by rw [W7.d_hi];exact hi_num o.hi,by rw [W7.d_nm];exact T.lr r hr,by rw [W7.d_st];exact T.le _ o.st,by rw [W7.d_go];exact T.le _ o.go,tn_nat (by omega),by rw [show (t:Int)+1=((t+1:Nat):Int) by omega];exact tn_nat (by omega)⟩
 ·exfalso
  unfold W7.d at e
  split at e
  ·cases e
  ·split at e <;> cases e
 ·unfold W7.d
  split
  ·trivial
  ·split
   ·rename_i h2
    exact leak_ok a1 (o.k2 h2) b2
   ·exact pos_num (by omega) (by omega)
theorem tr_s {ss:List S5} (h:∀ r∈ss,S5W r):∀ x∈ss.map S5.d,∀ t:Nat,t≤31→TrnOk x (t:Int):=fun x hx t ht=>by
 obtain ⟨r,hr,rfl⟩:=List.mem_map.mp hx
 obtain ⟨o,l1,l2⟩:=h r hr
 have g2:=o.g2
 exact ⟨fun e=>absurd rfl e,fun _=>rfl,leak_ok o.g1.1 o.g1.2 (by omega),hi_num o.hi,l1,l2,l2,tn_nat (by omega),by rw [show (t:Int)+1=((t+1:Nat):Int) by omega];exact tn_nat (by omega)⟩
theorem inV_str (x:Str):∀ ts:List Str,inV (.str x) (ts.map V.str)=decide (x∈ts)
 | []=>rfl
 | t::ts=>by
  have ih:=inV_str x ts
  unfold inV at ih ⊢
  rw [List.map_cons,List.any_cons,ih,eqV_str,Bool.eq_iff_iff]
  rw [Bool.or_eq_true,decide_eq_true_iff,decide_eq_true_iff,decide_eq_true_iff,List.mem_cons]
  exact ⟨fun h=>h.imp Eq.symm id,fun h=>h.imp Eq.symm id⟩
inductive IspDue64 (K:PySem.W.Frag) (vs:List V) (H:Hp) (Q:VK):Prop
 | mk (t lp lw ls lq:Addr) (tp tw ts tq:List V) (es:List Ent) (rs:List W7) (ss:List S5) (ws:List PRow) (h1:vs=[.ref t,.ref ls,.ref lq]) (h2:Told H t lp lw tp tw es rs) (h3:SqL K H ls ts) (h4:RowAt S5Is H ts ss) (h5:SqL K H lq tq) (h6:RowAt DcpIs H tq ws) (h7:es.length≤30) (h8:rs.length≤30) (h9:ss.length≤30) (h10:ws.length≤30) (h11:∀ q H',Same H H'→H' q=some (.tup [.str (wordOf (dueP es rs ss ws)).1,.str (wordOf (dueP es rs ss ws)).2])→Q (.ref q) H'):IspDue64 K vs H Q
def spDue64 (K:PySem.W.Frag):Sp:=fun vs H Q _=>IspDue64 K vs H Q
theorem ok_law_due (T:TX K mg a):FnB P w K mg base CX0 "_law_due" 1 ["_law_told","_law_stores_here","_law_wants_here"] (spDue64 K):=by
 refine T.d_law_due.ok sc_law_due (fun vs H Q E h=>?_) (fun f cdv A outer s H vs Q E hr h=>?_)
 ·obtain ⟨_,_,_,_,_,_,_,_,_,_,_,_,_,rfl,_⟩:=h
  rfl
 ·obtain ⟨t,lp,lw,ls,lq,tp,tw,ts,tq,es,rs,ss,ws,rfl,td,hs,rS,hq,rQ,l1,l2,l3,l4,k⟩:=h
  refine ⟨_,(pss_cut (ps_compG (i:=3) (xs:=["_law_place"]) (rest:=[]) sc_law_due.nd rfl rfl rfl (pi_list (pe_ix ix_tup (pv 0) pe_int (fun _ _=>rfl)))
   (fun pins fp C' s' H'=>(pg_name (i:=0) (show (["_law_place"]:List Str).Nodup by decide +kernel) rfl (Or.inl rfl))) (fun pins fp C' s' H'=>pts_nil)
   (fun pins fp C' s' H'=>(pe_ix (r:=rIxT K) ix_tup (pv 0) pe_int (fun _ _=>rfl)))
   (Clos.none (by decide +kernel) (by decide +kernel)) (Reads.many (ys:=[]) (js:=[]) True.intro))
   (pss_cut (ps_compG (i:=4) (xs:=["_law_way_here"]) (rest:=[]) sc_law_due.nd rfl rfl rfl (pi_list (pe_ix ix_tup (pv 0) pe_int (fun _ _=>rfl)))
   (fun pins fp C' s' H'=>(pg_name (i:=0) (show (["_law_way_here"]:List Str).Nodup by decide +kernel) rfl (Or.inl rfl))) (fun pins fp C' s' H'=>pts_nil)
   (fun pins fp C' s' H'=>(pe_ix (r:=rIxT K) ix_tup (pv 0) pe_int (fun _ _=>rfl)))
   (Clos.none (by decide +kernel) (by decide +kernel)) (Reads.many (ys:=[]) (js:=[]) True.intro))
   (pss_cut (ps_for PassesOwn.never rfl (pi_list (pv 1)) (pg_name (i:=5) sc_law_due.nd rfl (Or.inl rfl)) (pss_cons (ps_if (pt_cmpR op_in_seq (pe_ix ix_tup (pv 5) pe_int (fun _ _=>rfl)) (pv 4) (by with_unfolding_all rfl)) (pss_one (ps_ret (pe_tup (pa_cons pe_str (pa_cons (pe_ix ix_tup (pv 5) pe_int (fun _ _=>rfl)) pa_nil))))) pss_nil)
   (pss_cons (ps_if (pt_cmpR op_notIn_seq (pe_ix ix_tup (pv 5) pe_int (fun _ _=>rfl)) (pv 3) (by with_unfolding_all rfl)) (pss_one (ps_ret (pe_tup (pa_cons pe_str (pa_cons (pe_ix ix_tup (pv 5) pe_int (fun _ _=>rfl)) pa_nil))))) pss_nil)
   (pss_one (ps_expr (pe_bm PySem.F.plainAttrs_list PySem.F.slot_list_append PySem.F.type_list_append mt_append (pv 4) (pa_cons (pe_ix ix_tup (pv 5) pe_int (fun _ _=>rfl)) pa_nil)))))))
   (pss_cut (ps_for PassesOwn.never rfl (pi_list (pv 2)) (pg_name (i:=6) sc_law_due.nd rfl (Or.inl rfl)) (pss_one (ps_thaw (ps_for PassesOwn.never rfl (pi_dict (pv 6)) (pg_name (i:=7) sc_law_due.nd rfl (Or.inl rfl)) (pss_one (ps_if (pt_cmpR op_notIn_seq (pv 7) (pv 3) (by with_unfolding_all rfl)) (pss_one (ps_ret (pe_tup (pa_cons pe_str (pa_cons (pv 7) pa_nil))))) pss_nil))))))
   (pss_cut (ps_set (i:=8) sc_law_due.nd rfl (Or.inl rfl) (pe_op op_add (pe_op op_mulB (pe_callB call_lenK (by rfl) T.z_len PySem.boot_len (pa_cons (pe_ix ix_tup (pv 0) pe_int (fun _ _=>rfl)) pa_nil)) (pe_callB call_lenK (by rfl) T.z_len PySem.boot_len (pa_cons (pv 2) pa_nil))) (pe_op op_mulB (pe_callB call_lenK (by rfl) T.z_len PySem.boot_len (pa_cons (pv 1) pa_nil)) (pe_callB (call_max2 rfl) (by rfl) T.z_max PyProof.Rows.boot_max (pa_cons pe_int (pa_cons (pe_op op_sub (pe_callB call_lenK (by rfl) T.z_len PySem.boot_len (pa_cons (pv 2) pa_nil)) pe_int) pa_nil))))))
   (pss_cons (ps_if (PW.pt (pw_or (pt_cmpR op_gt (pe_op op_mulB (pe_callB call_lenK (by rfl) T.z_len PySem.boot_len (pa_cons (pv 3) pa_nil)) (pe_callB call_lenK (by rfl) T.z_len PySem.boot_len (pa_cons (pv 2) pa_nil))) pe_int (nomark _)) (pw_or1 (pt_cmpR op_gt (pv 8) pe_int (nomark _))))) (pss_one (ps_ret (pe_tup (pa_cons pe_str (pa_cons pe_str pa_nil))))) pss_nil)
   (pss_one (ps_ret (pe_tup (pa_cons pe_str (pa_cons pe_str pa_nil))))))))))),?_⟩
  try dsimp only [cxOf,Cx.nox,Cx.wish]
  have fin:∀ {H':Hp} {x:Option (Nat × Str)} {q:Addr} {u v:Str},Same H H'→dueP es rs ss ws=x→(wordOf x).1=u→(wordOf x).2=v→H' q=none→Q (.ref q) (upd H' q (.tup [.str u,.str v])):=fun s' e e1 e2 nq=>k _ _ (s'.trans (same_upd nq)) (by rw [upd_same,e,e1,e2])
  refine ⟨fun σ' H'=>∃ p1,σ'=[some (.ref t),some (.ref ls),some (.ref lq),some (.ref p1),none,none,none,none,none]∧Same H H'∧H' p1=some (.lst ((es.map (·.1)).map V.str)),?_,?_⟩
  ·refine ⟨_,rfl,t,_,_,_,rfl,rfl,SqT.of td.ht,rfl,lp,rfl,⟨_,SqL.of td.hp⟩,fun p1 np1=>?_⟩
   refine compG_list (K:=K) (a:=lp) (xs:=tp) (fun i H2=>i≤es.length∧Same H H2∧H2 p1=some (.lst (((es.take i).map (·.1)).map V.str))) ⟨Nat.zero_le _,same_upd np1,upd_same⟩ (fun i H2 ⟨_,s2,_⟩=>SqL.of (s2 _ _ td.hp)) ?_ ?_
   ·rintro i x H2 hx ⟨_,s2,h2⟩
    obtain ⟨e,ee,he⟩:=td.rp.get hx
    have hi:=(List.getElem?_eq_some_iff.mp ee).1
    obtain ⟨te,ve,rfl,hte,_⟩:=he.mono s2
    refine g1 ⟨⟨[_],rfl,rfl⟩,yes ?_⟩
    refine ⟨_,rfl,te,_,_,_,rfl,rfl,SqT.of hte,rfl,_,h2,small1000 (by rw [List.length_map,List.length_map,List.length_take];omega),nextP (by rw [td.rp.1];exact hi) ⟨hi,same_put np1 s2,?_⟩⟩
    rw [upd_same,List.take_add_one,ee,Option.toList_some,List.map_append,List.map_append]
    rfl
   ·rintro H2 ⟨_,s2,h2⟩
    rw [td.rp.1,List.take_length] at h2
    exact ⟨p1,rfl,s2,h2⟩
  rintro σ' H1 ⟨p1,rfl,s1,hp1⟩
  have td1:=td.mono s1
  refine ⟨fun σ' H'=>∃ k1,σ'=[some (.ref t),some (.ref ls),some (.ref lq),some (.ref p1),some (.ref k1),none,none,none,none]∧H k1=none∧k1≠p1∧Same H1 H'∧H' k1=some (.lst ((rs.map (·.nm)).map V.str)),?_,?_⟩
  ·refine ⟨_,rfl,t,_,_,_,rfl,rfl,SqT.of td1.ht,rfl,lw,rfl,⟨_,SqL.of td1.hw⟩,fun k1 nk1=>?_⟩
   have nkp:k1≠p1:=fun z=>by rw [z,hp1] at nk1;cases nk1
   refine compG_list (K:=K) (a:=lw) (xs:=tw) (fun i H2=>i≤rs.length∧Same H1 H2∧H2 k1=some (.lst (((rs.take i).map (·.nm)).map V.str))) ⟨Nat.zero_le _,same_upd nk1,upd_same⟩ (fun i H2 ⟨_,s2,_⟩=>SqL.of (s2 _ _ td1.hw)) ?_ ?_
   ·rintro i x H2 hx ⟨_,s2,h2⟩
    obtain ⟨e,ee,he⟩:=td1.rw.get hx
    have hi:=(List.getElem?_eq_some_iff.mp ee).1
    obtain ⟨te,vg,vh,vc,rfl,hte,_⟩:=he.mono s2
    refine g1 ⟨⟨[_],rfl,rfl⟩,yes ?_⟩
    refine ⟨_,rfl,te,_,_,_,rfl,rfl,SqT.of hte,rfl,_,h2,small1000 (by rw [List.length_map,List.length_map,List.length_take];omega),nextP (by rw [td1.rw.1];exact hi) ⟨hi,same_put nk1 s2,?_⟩⟩
    rw [upd_same,List.take_add_one,ee,Option.toList_some,List.map_append,List.map_append]
    rfl
   ·rintro H2 ⟨_,s2,h2⟩
    rw [td1.rw.1,List.take_length] at h2
    exact ⟨k1,rfl,s1.free nk1,nkp,s2,h2⟩
  rintro σ' H2 ⟨k1,rfl,nk1,nkp,s12,hk1⟩
  have s2:=s1.trans s12
  have hp2:=s12 _ _ hp1
  refine ⟨fun σ' H'=>∃ z5,σ'=[some (.ref t),some (.ref ls),some (.ref lq),some (.ref p1),some (.ref k1),z5,none,none,none]∧Same H H'∧H' p1=some (.lst ((es.map (·.1)).map V.str))∧dueS (es.map (·.1)) (rs.map (·.nm)) (ss.map fun s=>(s.nm,s.pl))=none,?_,?_⟩
  ·refine ⟨_,rfl,ls,rfl,⟨_,s2.seq hs⟩,for_list (K:=K) (a:=ls) (xs:=ts) (fun i σ H3=>i≤ss.length∧∃ z5,σ=[some (.ref t),some (.ref ls),some (.ref lq),some (.ref p1),some (.ref k1),z5,none,none,none]∧Same H H3∧H3 p1=some (.lst ((es.map (·.1)).map V.str))∧H3 k1=some (.lst ((rs.map (·.nm)++(ss.map (·.nm)).take i).map V.str))∧dueS (es.map (·.1)) (rs.map (·.nm)) (ss.map fun s=>(s.nm,s.pl))=dueS (es.map (·.1)) (rs.map (·.nm)++(ss.map (·.nm)).take i) ((ss.drop i).map fun s=>(s.nm,s.pl))) ⟨Nat.zero_le _,_,rfl,s2,hp2,by rw [List.take_zero,List.append_nil];exact hk1,by rw [List.take_zero,List.append_nil,List.drop_zero]⟩ (fun i σ H3 _ ⟨_,_,_,s3,_⟩=>s3.seq hs) ?_ ?_⟩
   ·rintro i x σ H3 hx ⟨_,z5,rfl,s3,hp3,hk3,ed⟩
    obtain ⟨y,ey,hy⟩:=rS.get hx
    have hi:=(List.getElem?_eq_some_iff.mp ey).1
    obtain ⟨ty,vg,vh,vc,rfl,hty,_⟩:=hy.mono s3
    have tk:(ss.map (·.nm)).take (i+1)=(ss.map (·.nm)).take i++[y.nm]:=by rw [List.take_add_one,List.getElem?_map,ey];rfl
    have dr:ss.drop i=y::ss.drop (i+1):=by
     rw [List.drop_eq_getElem_cons hi]
     congr 1
     exact (List.getElem?_eq_some_iff.mp ey).2
    have ed2:dueS (es.map (·.1)) (rs.map (·.nm)) (ss.map fun s=>(s.nm,s.pl))=if y.nm∈rs.map (·.nm)++(ss.map (·.nm)).take i then some (0,y.nm) else if y.pl∈es.map (·.1) then dueS (es.map (·.1)) (rs.map (·.nm)++(ss.map (·.nm)).take i++[y.nm]) ((ss.drop (i+1)).map fun s=>(s.nm,s.pl)) else some (1,y.pl):=by rw [ed,dr];rfl
    refine ⟨_,rfl,ty,_,_,_,rfl,rfl,SqT.of hty,rfl,_,rfl,k1,_,rfl,.inl (SqL.of hk3),rfl,flat_strs _,_,rfl,?_⟩
    by_cases h1:y.nm∈rs.map (·.nm)++(ss.map (·.nm)).take i
    ·refine iteC (by rw [inV_str];exact decide_eq_true h1) ?_
     rw [if_pos h1] at ed2
     exact ⟨_,rfl,ty,_,_,_,rfl,rfl,SqT.of hty,rfl,by show 2≤sizeLine;decide,fun q nq=>fin s3 (by unfold dueP dueT;rw [ed2]) rfl rfl nq⟩
    ·refine iteD (by rw [inV_str];exact decide_eq_false h1) ?_
     rw [if_neg h1] at ed2
     refine ⟨_,rfl,ty,_,_,_,rfl,rfl,SqT.of hty,rfl,_,rfl,p1,_,rfl,.inl (SqL.of hp3),rfl,flat_strs _,_,rfl,?_⟩
     by_cases h2:y.pl∈es.map (·.1)
     ·refine iteD (show (!inV _ _)=false by rw [inV_str,decide_eq_true h2];rfl) ?_
      rw [if_pos h2] at ed2
      refine ⟨_,rfl,.inl ⟨rfl,_,SqL.of hk3⟩,_,rfl,ty,_,_,_,rfl,rfl,SqT.of hty,rfl,k1,_,_,rfl,rfl,hk3,small1000 (by rw [List.length_map,List.length_append,List.length_take,List.length_map,List.length_map];omega),?_⟩
      refine ⟨hi,_,rfl,same_put nk1 s3,by rw [upd_ne nkp.symm];exact hp3,by rw [upd_same,tk,← List.append_assoc,List.map_append (l₂:=[y.nm])];rfl,by rw [ed2,tk,List.append_assoc]⟩
     ·refine iteC (show (!inV _ _)=true by rw [inV_str,decide_eq_false h2];rfl) ?_
      rw [if_neg h2] at ed2
      exact ⟨_,rfl,ty,_,_,_,rfl,rfl,SqT.of hty,rfl,by show 2≤sizeLine;decide,fun q nq=>fin s3 (by unfold dueP dueT;rw [ed2]) rfl rfl nq⟩
   ·rintro σ H3 ⟨_,z5,rfl,s3,hp3,hk3,ed⟩
    rw [rS.1,List.drop_length] at ed
    exact ⟨_,rfl,s3,hp3,ed⟩
  rintro σ' H3 ⟨z5,rfl,s3,hp3,eS⟩
  refine ⟨fun σ' H'=>∃ z6 z7,σ'=[some (.ref t),some (.ref ls),some (.ref lq),some (.ref p1),some (.ref k1),z5,z6,z7,none]∧Same H H'∧H' p1=some (.lst ((es.map (·.1)).map V.str))∧dueW (es.map (·.1)) (ws.map (·.1))=none,?_,?_⟩
  ·refine ⟨_,rfl,lq,rfl,⟨_,s3.seq hq⟩,for_list (K:=K) (a:=lq) (xs:=tq) (fun i σ H4=>∃ z6 z7,σ=[some (.ref t),some (.ref ls),some (.ref lq),some (.ref p1),some (.ref k1),z5,z6,z7,none]∧Same H H4∧H4 p1=some (.lst ((es.map (·.1)).map V.str))∧dueW (es.map (·.1)) (ws.map (·.1))=dueW (es.map (·.1)) ((ws.drop i).map (·.1))) ⟨_,_,rfl,s3,hp3,by rw [List.drop_zero]⟩ (fun i σ H4 _ ⟨_,_,_,s4,_⟩=>s4.seq hq) ?_ ?_⟩
   ·rintro i x σ H4 hx ⟨z6,z7,rfl,s4,hp4,ed⟩
    obtain ⟨r,er,hr0⟩:=rQ.get hx
    have hi:=(List.getElem?_eq_some_iff.mp er).1
    have dr:ws.drop i=r::ws.drop (i+1):=by
     rw [List.drop_eq_getElem_cons hi]
     congr 1
     exact (List.getElem?_eq_some_iff.mp er).2
    rw [dr] at ed
    obtain ⟨d,kvs,rfl,hd,tb,nk⟩:=hr0.mono s4
    have npd:p1≠d:=fun z=>by rw [z,hd] at hp4;cases hp4
    refine ⟨d,.dK kvs,hd,(by intro o z e;cases e),_,rfl,d,kvs,rfl,hd,fun o=>?_⟩
    have thaw:∀ {H5:Hp},(∀ b ob,H4 b=some ob→b≠d→H5 b=some ob)→Same H4 (upd H5 d (.dK kvs)):=fun k5 b ob e=>by
     by_cases hb:b=d
     ·subst hb
      rw [upd_same,← hd,e]
     ·rw [upd_ne hb]
      exact k5 _ _ e hb
    refine for_dict (a:=d) (o:=o) (kvs:=kvs) (fun j σ H5=>∃ z7,σ=[some (.ref t),some (.ref ls),some (.ref lq),some (.ref p1),some (.ref k1),z5,some (.ref d),z7,none]∧H5 d=some (.frz o (.dK kvs))∧(∀ b ob,H4 b=some ob→b≠d→H5 b=some ob)∧dueN (es.map (·.1)) r.1=dueN (es.map (·.1)) (r.1.drop j))
     ⟨_,rfl,upd_same,(fun b ob e ne=>by rw [upd_ne ne];exact e),by rw [List.drop_zero]⟩ (fun j σ H5 _ ⟨_,_,h,_⟩=>h) ?_ ?_
    ·rintro j kv σ H5 hkv ⟨z7',rfl,hf,k5,en⟩
     obtain ⟨n,e0,e1,ev,_⟩:=tb.at_ nk hkv
     have ekv:kV kv.1=.str n:=by rw [e1];rfl
     rw [ekv]
     rw [dueN_drop e0] at en
     have hp5:=k5 _ _ hp4 npd
     refine ⟨_,rfl,_,rfl,p1,_,rfl,.inl (SqL.of hp5),rfl,flat_strs _,_,rfl,?_⟩
     by_cases hin:n∈es.map (·.1)
     ·refine iteD (show (!inV _ _)=false by rw [inV_str,decide_eq_true hin];rfl) ?_
      rw [if_pos hin] at en
      exact ⟨_,rfl,hf,k5,en⟩
     ·refine iteC (show (!inV _ _)=true by rw [inV_str,decide_eq_false hin];rfl) ?_
      rw [if_neg hin] at en
      have ed2:dueW (es.map (·.1)) (ws.map (·.1))=some n:=by
       rw [ed]
       show (match dueN (es.map (·.1)) r.1 with | some n=>some n | none=>_)=_
       rw [en]
      refine ⟨_,rfl,by show 2≤sizeLine;decide,fun q nq=>?_⟩
      have nqd:q≠d:=fun z=>by rw [z,hf] at nq;cases nq
      refine ⟨o,by rw [upd_ne nqd.symm];exact hf,k q _ (s4.trans (thaw fun b ob e ne=>by rw [upd_ne (fun z=>by rw [z] at ne e;have:=k5 _ _ e ne;rw [nq] at this;cases this)];exact k5 _ _ e ne)) ?_⟩
      rw [upd_ne nqd,upd_same,show dueP es rs ss ws=some (1,n) by unfold dueP dueT;rw [eS];dsimp only;rw [ed2]]
      rfl
    ·rintro σ H5 ⟨z7',rfl,hf,k5,en⟩
     rw [tb.len,List.drop_length] at en
     refine ⟨o,hf,_,_,rfl,s4.trans (thaw k5),by rw [upd_ne npd];exact k5 _ _ hp4 npd,?_⟩
     rw [ed]
     show (match dueN (es.map (·.1)) r.1 with | some n=>some n | none=>_)=_
     rw [en]
     rfl
   ·rintro σ H4 ⟨z6,z7,rfl,s4,hp4,ed⟩
    rw [rQ.1,List.drop_length] at ed
    exact ⟨_,_,rfl,s4,hp4,ed⟩
  rintro σ' H4 ⟨z6,z7,rfl,s4,hp4,eW⟩
  have sm:∀ n:Nat,n≤30→Sm (n:Int):=fun n h=>Sm.of_le (n:=10) (by omega) (by decide)
  have ltq:tq.length=ws.length:=rQ.1
  have lts:ts.length=ss.length:=rS.1
  have ltw:tw.length=rs.length:=td.rw.1
  refine ⟨fun σ' H'=>σ'=[some (.ref t),some (.ref ls),some (.ref lq),some (.ref p1),some (.ref k1),z5,z6,z7,some (.int ((rs.length*ws.length+ss.length*(ws.length-1):Nat):Int))]∧H'=H4,?_,?_⟩
  ·have td4:=td.mono s4
   have em:(if (tq.length:Int)-1 > 0 then (tq.length:Int)-1 else 0)=((ws.length-1:Nat):Int):=by
    rw [ltq]
    by_cases h:(ws.length:Int)-1 > 0
    ·rw [if_pos h];omega
    ·rw [if_neg h];omega
   refine ⟨_,rfl,t,_,_,_,rfl,rfl,SqT.of td4.ht,rfl,lw,_,rfl,.inl (SqL.of td4.hw),_,rfl,lq,_,rfl,.inl (s4.seq hq),_,_,rfl,rfl,⟨sm _ (by omega),sm _ (by omega)⟩,_,rfl,ls,_,rfl,.inl (s4.seq hs),_,rfl,lq,_,rfl,.inl (s4.seq hq),_,_,rfl,rfl,_,_,rfl,_,_,rfl,rfl,?_,_,_,rfl,rfl,?_⟩
   ·refine ⟨sm _ (by omega),?_⟩
    show Sm (if (tq.length:Int)-1 > 0 then (tq.length:Int)-1 else 0)
    rw [em]
    exact sm _ (by omega)
   ·have ev:(tw.length:Int)*(tq.length:Int)+(ts.length:Int)*(if (tq.length:Int)-1 > 0 then (tq.length:Int)-1 else 0)=((rs.length*ws.length+ss.length*(ws.length-1):Nat):Int):=by
     rw [em,ltw,ltq,lts]
     rfl
    rw [← ev]
    exact ⟨rfl,rfl⟩
  rintro σ' H5 ⟨rfl,rfl⟩
  have ed:dueP es rs ss ws=if fewP es rs ss ws=true then none else some (2,("":Str)):=by
   unfold dueP dueT
   rw [eS]
   dsimp only
   rw [eW]
  refine ⟨_,rfl,p1,_,rfl,.inl (SqL.of hp4),_,rfl,lq,_,rfl,.inl (s4.seq hq),_,_,rfl,rfl,⟨by rw [List.length_map,List.length_map];exact sm _ (by omega),sm _ (by omega)⟩,_,_,rfl,rfl,_,rfl,?_⟩
  have e12:((((es.map (·.1)).map V.str).length:Int)*(tq.length:Int))=((es.length*ws.length:Nat):Int):=by rw [List.length_map,List.length_map,ltq];rfl
  dsimp only
  rw [e12]
  by_cases c1:es.length*ws.length≤12
  ·refine iteD (decide_eq_false (by omega)) ?_
   refine ⟨_,rfl,_,_,rfl,rfl,_,rfl,?_⟩
   by_cases c2:rs.length*ws.length+ss.length*(ws.length-1)≤24
   ·refine iteD (decide_eq_false (by omega)) ?_
    exact ⟨by show 2≤sizeLine;decide,fun q nq=>fin s4 (x:=none) (by rw [ed];exact if_pos (decide_eq_true ⟨c1,c2⟩)) rfl rfl nq⟩
   ·refine iteC (decide_eq_true (by omega)) ?_
    exact ⟨by show 2≤sizeLine;decide,fun q nq=>fin s4 (x:=some (2,"")) (by rw [ed];exact if_neg (fun z=>c2 (of_decide_eq_true z).2)) rfl rfl nq⟩
  ·refine iteC (decide_eq_true (by omega)) (iteC rfl ?_)
   exact ⟨by show 2≤sizeLine;decide,fun q nq=>fin s4 (x:=some (2,"")) (by rw [ed];exact if_neg (fun z=>c1 (of_decide_eq_true z).1)) rfl rfl nq⟩
structure Hand (K:PySem.W.Frag) (a:Ad) (H:Hp) (p ls lw:Addr) (es:List Ent) (rs:List W7) (ss:List S5) (ws:List PRow) (ts tw:List V):Prop where
 tu:TuI0 K a H p ls lw (psT es) (dsT rs) (ss.map S5.d) (ws.map vR) ts tw
 t64:T64 es rs
 sw:∀ r∈ss,S5W r
theorem Hand.mono {H H':Hp} {p ls lw:Addr} {es:List Ent} {rs:List W7} {ss:List S5} {ws:List PRow} {ts tw:List V} (h:Hand K a H p ls lw es rs ss ws ts tw) (s:Same H H'):Hand K a H' p ls lw es rs ss ws ts tw:=⟨h.tu.mono s,h.t64,h.sw⟩
theorem sto_bd {ss:List S5} (h:∀ r∈ss,S5W r):∀ x∈ss.map S5.d,Bd 20 x.x∧Bd 20 (gainOf x.kd x.x):=fun x hx=>by
 obtain ⟨s,hs,rfl⟩:=List.mem_map.mp hx
 have o:=(h s hs).ok
 have g1:=o.g1
 have g2:=o.g2
 refine ⟨Bd.divInt (n:=20) (by omega) (by omega),?_⟩
 show Bd 20 (gainOf .sto (Rat.divInt (s.gain.2-s.gain.1) s.gain.2))
 rw [gain_sto (by omega)]
 exact Bd.divInt (n:=20) (by omega) (by omega)
theorem FrzOk.back {H H':Hp} (f:FrzOk H H'):Same H H'∨∃ (d:Addr) (o:Obj) (u:HO),H' d=some (.frz o u)∧(∀ o' u',H d≠some (.frz o' u'))∧Same H (upd H' d u):=by
 rcases f with f | ⟨d,o,kvs,h1,h2,h3⟩
 ·exact .inl f
 ·refine .inr ⟨d,o,.dK kvs,h2,(fun o' u' z=>by rw [h1] at z;cases z),fun b u e=>?_⟩
  by_cases hb:b=d
  ·subst hb
   rw [upd_same,← h1,e]
  ·rw [upd_ne hb]
   exact h3 b u e hb
theorem FrzOk.up {H H1 H2:Hp} (f:FrzOk H H1) (s:Same H1 H2):FrzOk H H2:=by
 rcases f with f | ⟨d,o,kvs,h1,h2,h3⟩
 ·exact .inl (f.trans s)
 ·exact .inr ⟨d,o,kvs,h1,s _ _ h2,fun b u e ne=>s _ _ (h3 b u e ne)⟩
inductive IspRef64 (K:PySem.W.Frag) (a:Ad) (vs:List V) (H:Hp) (Q:VK):Prop
 | mk (p ls lw d:Addr) (pl:Bool) (es:List Ent) (rs:List W7) (ss:List S5) (ws:List PRow) (ts tw:List V) (r:WRow) (h1:vs=[.ref p,.ref ls,.ref lw,.bl pl,.ref d]) (h2:Hand K a H p ls lw es rs ss ws ts tw) (h3:DctIs a H (.ref d) r) (h4:(∀ n,Bd 30 (amtOf r.1 r.2 n))) (h5:(dueP es rs ss ws=none→r.1=[])) (h6:∀ q H',Same H H'→H' q=some (.tup [.str (wordOf (dueP es rs ss ws)).1,.str (wordOf (dueP es rs ss ws)).2])→Q (.ref q) H'):IspRef64 K a vs H Q
def spRef64 (K:PySem.W.Frag) (a:Ad):Sp:=fun vs H Q _=>IspRef64 K a vs H Q
theorem ok_law_refused (T:TX K mg a):FnB P w K mg base CX0 "_law_refused" 11 ["_law_net_here","_law_stores_here","_law_wants_here","_law_plain","_law_plan"] (spRef64 K a):=by
 refine T.d_law_refused.ok sc_law_refused (fun vs H Q E h=>?_) (fun f cdv A outer s H vs Q E hr h=>?_)
 ·obtain ⟨_,_,_,_,_,_,_,_,_,_,_,_,rfl,_⟩:=h
  rfl
 ·obtain ⟨p,ls,lw,d,pl,es,rs,ss,ws,ts,tw,r,rfl,D,hd,ba,r0,k⟩:=h
  refine ⟨_,(pss_cons (ps_set (i:=5) sc_law_refused.nd rfl (Or.inl rfl) (pe_tup (pa_cons pe_str (pa_cons pe_str pa_nil))))
   (pss_cut (ps_try (pssx_one (psx_if (pt_val (pv 3)) (pssx_one (psx_expr (px_fn (ok_turnedX T) hr (pa_cons (pv 0) (pa_cons (pv 1) (pa_cons (pv 2) pa_nil)))))) (pssx_one (psx_expr (px_fn (ok_by_turnsX T) hr (pa_cons (pv 0) (pa_cons (pv 1) (pa_cons (pv 2) (pa_cons (pv 4) pa_nil))))))))) (ph_as (i:=6) (by rfl) T.mg_Twice ⟨T.ca1_Twice,T.ca2_Twice,T.ca3_Twice⟩ sc_law_refused.nd rfl rfl (fun x=>(pss_one (ps_set (i:=5) sc_law_refused.nd rfl (Or.inl rfl) (pe_tup (pa_cons pe_str (pa_cons (pe_xfldK (K:=K) rfl (pv 6) rfl) pa_nil)))))) (ph_as (i:=6) (by rfl) T.mg_NoPlace ⟨T.ca1_NoPlace,T.ca2_NoPlace,T.ca3_NoPlace⟩ sc_law_refused.nd rfl rfl (fun x=>(pss_one (ps_set (i:=5) sc_law_refused.nd rfl (Or.inl rfl) (pe_tup (pa_cons pe_str (pa_cons (pe_xfldK (K:=K) rfl (pv 6) rfl) pa_nil)))))) (ph_bare (by rfl) T.mg_TooMany ⟨T.ca1_TooMany,T.ca2_TooMany,T.ca3_TooMany⟩ (fun x=>(pss_one (ps_set (i:=5) sc_law_refused.nd rfl (Or.inl rfl) (pe_tup (pa_cons pe_str (pa_cons pe_str pa_nil)))))) ph_never))))
   (pss_one (ps_free? (ps_ret (pv 5)))))),?_⟩
  try dsimp only [cxOf,Cx.nox,Cx.wish]
  refine ⟨by show 2≤sizeLine;decide,fun t0 nt0=>?_⟩
  have s0:=same_upd (o:=.tup [.str "",.str ""]) nt0
  have ht0:upd H t0 (.tup [.str "",.str ""]) t0=some (.tup [.str "",.str ""]):=upd_same
  generalize upd H t0 (.tup [.str "",.str ""])=H0 at s0 ht0 ⊢
  have D0:=D.mono s0
  have eP:=dueP_eq es rs ss ws
  refine ⟨fun σ' H'=>∃ q z6,σ'=[some (.ref p),some (.ref ls),some (.ref lw),some (.bl pl),some (.ref d),some (.ref q),z6]∧FrzOk H H'∧H' q=some (.tup [.str (wordOf (dueP es rs ss ws)).1,.str (wordOf (dueP es rs ss ws)).2]),?_,?_⟩
  ·have good:∀ H',Same H0 H'→dueP es rs ss ws=none→FrzOk H H'∧H' t0=some (.tup [.str (wordOf (dueP es rs ss ws)).1,.str (wordOf (dueP es rs ss ws)).2]):=fun H' s' e=>⟨.inl (s0.trans s'),by rw [e];exact s' _ _ ht0⟩
   refine ⟨_,rfl,_,rfl,?_⟩
   cases pl with
   | true=>
   refine iteT ⟨_,rfl,_,rfl,_,rfl,p,ls,lw,psT es,dsT rs,ss.map S5.d,ws.map vR,ts,tw,rfl,D0.tu,net64 D.t64,fun e q H' nq s' hn=>⟨t0,none,rfl,good H' s' (by rw [← eP];exact e)⟩,?_⟩
   ·rintro ⟨kk,nn⟩ ee
    rw [eP] at ee
    refine ⟨fun e0 H' dx fz hx=>?_,fun e0 H' dx fz hx=>?_,fun e0 H' fz=>?_⟩
    ·obtain rfl:kk=0:=e0
     refine ⟨_,_,rfl,T.su_Twice_Twice,iteT fun x' nx=>?_⟩
     have s1:=same_upd (o:=XO x' a.Twice (some dx)) nx
     have hx':upd H' x' (XO x' a.Twice (some dx)) x'=some (XO x' a.Twice (some dx)):=upd_same
     have hd1:=s1 _ _ hx
     generalize upd H' x' (XO x' a.Twice (some dx))=H1 at s1 hx' hd1 ⊢
     refine ⟨_,rfl,x',a.Twice,dx,_,.str nn,rfl,hx',hd1,T.exa_Twice,T.hd_Twice,T.na_Twice_name,rfl,by show 2≤sizeLine;decide,fun t nt=>?_⟩
     exact ⟨t,none,rfl,((fz.pre s0).up s1).up (same_upd nt),by rw [upd_same,ee];rfl⟩
    ·obtain rfl:kk=1:=e0
     refine ⟨_,_,rfl,T.su_NoPlace_Twice,iteF ?_⟩
     refine ⟨_,_,rfl,T.su_NoPlace_NoPlace,iteT fun x' nx=>?_⟩
     have s1:=same_upd (o:=XO x' a.NoPlace (some dx)) nx
     have hx':upd H' x' (XO x' a.NoPlace (some dx)) x'=some (XO x' a.NoPlace (some dx)):=upd_same
     have hd1:=s1 _ _ hx
     generalize upd H' x' (XO x' a.NoPlace (some dx))=H1 at s1 hx' hd1 ⊢
     refine ⟨_,rfl,x',a.NoPlace,dx,_,.str nn,rfl,hx',hd1,T.exa_NoPlace,T.hd_NoPlace,T.na_NoPlace_place,rfl,by show 2≤sizeLine;decide,fun t nt=>?_⟩
     exact ⟨t,none,rfl,((fz.pre s0).up s1).up (same_upd nt),by rw [upd_same,ee];rfl⟩
    ·obtain rfl:kk=2:=e0
     refine ⟨_,_,rfl,T.su_TooMany_Twice,iteF ?_⟩
     refine ⟨_,_,rfl,T.su_TooMany_NoPlace,iteF ?_⟩
     refine ⟨_,_,rfl,T.su_TooMany_TooMany,iteT ?_⟩
     refine ⟨by show 2≤sizeLine;decide,fun t nt=>?_⟩
     exact ⟨t,none,rfl,(fz.pre s0).up (same_upd nt),by rw [upd_same,ee];rfl⟩
   | false=>
   refine iteF ⟨_,rfl,_,rfl,_,rfl,_,rfl,p,ls,lw,d,psT es,dsT rs,ss.map S5.d,ws.map vR,ts,tw,r,rfl,D0.tu,hd.mono s0,sto_bd D.sw,ba,fun e=>⟨net64 D.t64 e,r0 (by rw [← eP];exact e)⟩,fun e q H' s'=>⟨t0,none,rfl,good H' s' (by rw [← eP];exact e)⟩,?_⟩
   ·rintro ⟨kk,nn⟩ ee
    rw [eP] at ee
    refine ⟨fun e0 H' dx fz hx=>?_,fun e0 H' dx fz hx=>?_,fun e0 H' fz=>?_⟩
    ·obtain rfl:kk=0:=e0
     refine ⟨_,_,rfl,T.su_Twice_Twice,iteT fun x' nx=>?_⟩
     have s1:=same_upd (o:=XO x' a.Twice (some dx)) nx
     have hx':upd H' x' (XO x' a.Twice (some dx)) x'=some (XO x' a.Twice (some dx)):=upd_same
     have hd1:=s1 _ _ hx
     generalize upd H' x' (XO x' a.Twice (some dx))=H1 at s1 hx' hd1 ⊢
     refine ⟨_,rfl,x',a.Twice,dx,_,.str nn,rfl,hx',hd1,T.exa_Twice,T.hd_Twice,T.na_Twice_name,rfl,by show 2≤sizeLine;decide,fun t nt=>?_⟩
     exact ⟨t,none,rfl,((fz.pre s0).up s1).up (same_upd nt),by rw [upd_same,ee];rfl⟩
    ·obtain rfl:kk=1:=e0
     refine ⟨_,_,rfl,T.su_NoPlace_Twice,iteF ?_⟩
     refine ⟨_,_,rfl,T.su_NoPlace_NoPlace,iteT fun x' nx=>?_⟩
     have s1:=same_upd (o:=XO x' a.NoPlace (some dx)) nx
     have hx':upd H' x' (XO x' a.NoPlace (some dx)) x'=some (XO x' a.NoPlace (some dx)):=upd_same
     have hd1:=s1 _ _ hx
     generalize upd H' x' (XO x' a.NoPlace (some dx))=H1 at s1 hx' hd1 ⊢
     refine ⟨_,rfl,x',a.NoPlace,dx,_,.str nn,rfl,hx',hd1,T.exa_NoPlace,T.hd_NoPlace,T.na_NoPlace_place,rfl,by show 2≤sizeLine;decide,fun t nt=>?_⟩
     exact ⟨t,none,rfl,((fz.pre s0).up s1).up (same_upd nt),by rw [upd_same,ee];rfl⟩
    ·obtain rfl:kk=2:=e0
     refine ⟨_,_,rfl,T.su_TooMany_Twice,iteF ?_⟩
     refine ⟨_,_,rfl,T.su_TooMany_NoPlace,iteF ?_⟩
     refine ⟨_,_,rfl,T.su_TooMany_TooMany,iteT ?_⟩
     refine ⟨by show 2≤sizeLine;decide,fun t nt=>?_⟩
     exact ⟨t,none,rfl,(fz.pre s0).up (same_upd nt),by rw [upd_same,ee];rfl⟩
  rintro σ' H1 ⟨q,z6,rfl,fz,hq⟩
  rcases fz.back with s1 | ⟨d',o,u,h1,h2,s1⟩
  ·exact .inl ⟨_,rfl,k q H1 s1 hq⟩
  ·refine .inr ⟨d',o,u,h1,h2,_,rfl,k q _ s1 ?_⟩
   rw [upd_ne (fun z=>by rw [z,h1] at hq;cases hq)]
   exact hq
theorem call_isXK {X:Cx} {K:PySem.W.Frag} {c:Value} (hK:X.K=K):CallR X (.builtin "isinstance") (rIsX K c):=by
 subst hK
 exact call_isX
def clsOf:Option (Nat × Str)→Bool × Bool × Bool
 | none=>(false,false,false)
 | some (0,_)=>(true,false,false)
 | some (1,_)=>(false,true,false)
 | some _=>(false,false,true)
inductive IspCls64 (K:PySem.W.Frag) (a:Ad) (vs:List V) (H:Hp) (Q:VK):Prop
 | mk (p ls lw:Addr) (pl:Bool) (es:List Ent) (rs:List W7) (ss:List S5) (ws:List PRow) (ts tw:List V) (h1:vs=[.ref p,.ref ls,.ref lw,.bl pl]) (h2:Hand K a H p ls lw es rs ss ws ts tw) (h3:∀ q H',Same H H'→H' q=some (.tup [.bl (clsOf (dueP es rs ss ws)).1,.bl (clsOf (dueP es rs ss ws)).2.1,.bl (clsOf (dueP es rs ss ws)).2.2,.bl true])→Q (.ref q) H'):IspCls64 K a vs H Q
def spCls64 (K:PySem.W.Frag) (a:Ad):Sp:=fun vs H Q _=>IspCls64 K a vs H Q
theorem ok_law_class (T:TX K mg a):FnB P w K mg base CX0 "_law_class" 11 ["_law_net_here","_law_stores_here","_law_wants_here","_law_plain"] (spCls64 K a):=by
 refine T.d_law_class.ok sc_law_class (fun vs H Q E h=>?_) (fun f cdv A outer s H vs Q E hr h=>?_)
 ·obtain ⟨_,_,_,_,_,_,_,_,_,_,rfl,_⟩:=h
  rfl
 ·obtain ⟨p,ls,lw,pl,es,rs,ss,ws,ts,tw,rfl,D,k⟩:=h
  refine ⟨_,(pss_cons (ps_set (i:=4) sc_law_class.nd rfl (Or.inl rfl) (pe_tup (pa_cons pe_bl (pa_cons pe_bl (pa_cons pe_bl (pa_cons pe_bl pa_nil))))))
   (pss_cut (ps_try (pssx_one (psx_if (pt_val (pv 3)) (pssx_one (psx_expr (px_fn (ok_turnedX T) hr (pa_cons (pv 0) (pa_cons (pv 1) (pa_cons (pv 2) pa_nil)))))) (pssx_one (psx_expr (px_fn (ok_by_turnsX T) hr (pa_cons (pv 0) (pa_cons (pv 1) (pa_cons (pv 2) (pa_cons pe_dnewK pa_nil))))))))) (ph_as (i:=5) (by rfl) T.mg_GainError ⟨T.ca1_GainError,T.ca2_GainError,T.ca3_GainError⟩ sc_law_class.nd rfl rfl (fun x=>(pss_cons (ps_set (i:=6) sc_law_class.nd rfl (Or.inl rfl) (pe_alt (pe_callB (call_isXDK (K:=K) (c:=.ref a.Twice) rfl) (by rfl) T.z_isinstance PyProof.Rows.boot_isinstance (pa_cons (pv 5) (pa_cons (pe_glob (v:=.ref a.Twice) (by rfl) T.mg_Twice rfl) pa_nil))) (pe_callB (call_isXK (K:=K) (c:=.ref a.Twice) rfl) (by rfl) T.z_isinstance PyProof.Rows.boot_isinstance (pa_cons (pv 5) (pa_cons (pe_glob (v:=.ref a.Twice) (by rfl) T.mg_Twice rfl) pa_nil)))))
   (pss_cons (ps_set (i:=7) sc_law_class.nd rfl (Or.inl rfl) (pe_alt (pe_callB (call_isXDK (K:=K) (c:=.ref a.NoPlace) rfl) (by rfl) T.z_isinstance PyProof.Rows.boot_isinstance (pa_cons (pv 5) (pa_cons (pe_glob (v:=.ref a.NoPlace) (by rfl) T.mg_NoPlace rfl) pa_nil))) (pe_callB (call_isXK (K:=K) (c:=.ref a.NoPlace) rfl) (by rfl) T.z_isinstance PyProof.Rows.boot_isinstance (pa_cons (pv 5) (pa_cons (pe_glob (v:=.ref a.NoPlace) (by rfl) T.mg_NoPlace rfl) pa_nil)))))
   (pss_one (ps_set (i:=4) sc_law_class.nd rfl (Or.inl rfl) (pe_tup (pa_cons (pv 6) (pa_cons (pv 7) (pa_cons (pe_alt (pe_callB (call_isXDK (K:=K) (c:=.ref a.TooMany) rfl) (by rfl) T.z_isinstance PyProof.Rows.boot_isinstance (pa_cons (pv 5) (pa_cons (pe_glob (v:=.ref a.TooMany) (by rfl) T.mg_TooMany rfl) pa_nil))) (pe_callB (call_isXK (K:=K) (c:=.ref a.TooMany) rfl) (by rfl) T.z_isinstance PyProof.Rows.boot_isinstance (pa_cons (pv 5) (pa_cons (pe_glob (v:=.ref a.TooMany) (by rfl) T.mg_TooMany rfl) pa_nil)))) (pa_cons (pe_alt (pe_callB (call_isXDK (K:=K) (c:=.type "ValueError") rfl) (by rfl) T.z_isinstance PyProof.Rows.boot_isinstance (pa_cons (pv 5) (pa_cons (pe_bltn (v:=.ty "ValueError") (by rfl) T.z_ValueError boot_ValueError rfl) pa_nil))) (pe_callB (call_isXK (K:=K) (c:=.type "ValueError") rfl) (by rfl) T.z_isinstance PyProof.Rows.boot_isinstance (pa_cons (pv 5) (pa_cons (pe_bltn (v:=.ty "ValueError") (by rfl) T.z_ValueError boot_ValueError rfl) pa_nil)))) pa_nil)))))))))) ph_never))
   (pss_one (ps_free? (ps_ret (pv 4)))))),?_⟩
  try dsimp only [cxOf,Cx.nox,Cx.wish]
  refine ⟨by show 4≤sizeLine;decide,fun t0 nt0=>?_⟩
  have s0:=same_upd (o:=.tup [.bl false,.bl false,.bl false,.bl true]) nt0
  have ht0:upd H t0 (.tup [.bl false,.bl false,.bl false,.bl true]) t0=some (.tup [.bl false,.bl false,.bl false,.bl true]):=upd_same
  generalize upd H t0 (.tup [.bl false,.bl false,.bl false,.bl true])=H0 at s0 ht0 ⊢
  have D0:=D.mono s0
  have eP:=dueP_eq es rs ss ws
  refine ⟨fun σ' H'=>∃ q z5 z6 z7,σ'=[some (.ref p),some (.ref ls),some (.ref lw),some (.bl pl),some (.ref q),z5,z6,z7]∧FrzOk H H'∧H' q=some (.tup [.bl (clsOf (dueP es rs ss ws)).1,.bl (clsOf (dueP es rs ss ws)).2.1,.bl (clsOf (dueP es rs ss ws)).2.2,.bl true]),?_,?_⟩
  ·have good:∀ H',Same H0 H'→dueP es rs ss ws=none→FrzOk H H'∧H' t0=some (.tup [.bl (clsOf (dueP es rs ss ws)).1,.bl (clsOf (dueP es rs ss ws)).2.1,.bl (clsOf (dueP es rs ss ws)).2.2,.bl true]):=fun H' s' e=>⟨.inl (s0.trans s'),by rw [e];exact s' _ _ ht0⟩
   refine ⟨_,rfl,_,rfl,?_⟩
   cases pl with
   | true=>
   refine iteT ⟨_,rfl,_,rfl,_,rfl,p,ls,lw,psT es,dsT rs,ss.map S5.d,ws.map vR,ts,tw,rfl,D0.tu,net64 D.t64,fun e q H' nq s' hn=>⟨t0,none,none,none,rfl,good H' s' (by rw [← eP];exact e)⟩,?_⟩
   ·rintro ⟨kk,nn⟩ ee
    rw [eP] at ee
    refine ⟨fun e0 H' dx fz hx=>?_,fun e0 H' dx fz hx=>?_,fun e0 H' fz=>?_⟩
    ·obtain rfl:kk=0:=e0
     refine ⟨_,_,rfl,T.su_Twice_GainError,iteT fun x' nx=>?_⟩
     have s1:=same_upd (o:=XO x' a.Twice (some dx)) nx
     have hx':upd H' x' (XO x' a.Twice (some dx)) x'=some (XO x' a.Twice (some dx)):=upd_same
     have hd1:=s1 _ _ hx
     generalize upd H' x' (XO x' a.Twice (some dx))=H1 at s1 hx' hd1 ⊢
     refine .inl ⟨_,rfl,x',a.Twice,.ref a.Twice,true,_,rfl,(fun u h=>h),⟨dx,hx',hd1⟩,T.exa_Twice,T.k_Twice_Twice,?_⟩
     refine .inl ⟨_,rfl,x',a.Twice,.ref a.NoPlace,false,_,rfl,(fun u h=>h),⟨dx,hx',hd1⟩,T.exa_Twice,T.k_Twice_NoPlace,?_⟩
     refine ⟨_,rfl,_,rfl,.inl ⟨_,rfl,x',a.Twice,.ref a.TooMany,false,_,rfl,(fun u h=>h),⟨dx,hx',hd1⟩,T.exa_Twice,T.k_Twice_TooMany,?_⟩⟩
     refine .inl ⟨_,rfl,x',a.Twice,.ty "ValueError",true,_,rfl,(fun u h=>h),⟨dx,hx',hd1⟩,T.exa_Twice,T.k_Twice_ValueError,?_⟩
     refine ⟨by show 4≤sizeLine;decide,fun t nt=>?_⟩
     exact ⟨t,none,_,_,rfl,((fz.pre s0).up s1).up (same_upd nt),by rw [upd_same,ee];rfl⟩
    ·obtain rfl:kk=1:=e0
     refine ⟨_,_,rfl,T.su_NoPlace_GainError,iteT fun x' nx=>?_⟩
     have s1:=same_upd (o:=XO x' a.NoPlace (some dx)) nx
     have hx':upd H' x' (XO x' a.NoPlace (some dx)) x'=some (XO x' a.NoPlace (some dx)):=upd_same
     have hd1:=s1 _ _ hx
     generalize upd H' x' (XO x' a.NoPlace (some dx))=H1 at s1 hx' hd1 ⊢
     refine .inl ⟨_,rfl,x',a.NoPlace,.ref a.Twice,false,_,rfl,(fun u h=>h),⟨dx,hx',hd1⟩,T.exa_NoPlace,T.k_NoPlace_Twice,?_⟩
     refine .inl ⟨_,rfl,x',a.NoPlace,.ref a.NoPlace,true,_,rfl,(fun u h=>h),⟨dx,hx',hd1⟩,T.exa_NoPlace,T.k_NoPlace_NoPlace,?_⟩
     refine ⟨_,rfl,_,rfl,.inl ⟨_,rfl,x',a.NoPlace,.ref a.TooMany,false,_,rfl,(fun u h=>h),⟨dx,hx',hd1⟩,T.exa_NoPlace,T.k_NoPlace_TooMany,?_⟩⟩
     refine .inl ⟨_,rfl,x',a.NoPlace,.ty "ValueError",true,_,rfl,(fun u h=>h),⟨dx,hx',hd1⟩,T.exa_NoPlace,T.k_NoPlace_ValueError,?_⟩
     refine ⟨by show 4≤sizeLine;decide,fun t nt=>?_⟩
     exact ⟨t,none,_,_,rfl,((fz.pre s0).up s1).up (same_upd nt),by rw [upd_same,ee];rfl⟩
    ·obtain rfl:kk=2:=e0
     refine ⟨_,_,rfl,T.su_TooMany_GainError,iteT fun x' nx=>?_⟩
     have s1:=same_upd (o:=XO x' a.TooMany none) nx
     have hx':upd H' x' (XO x' a.TooMany none) x'=some (XO x' a.TooMany none):=upd_same
     generalize upd H' x' (XO x' a.TooMany none)=H1 at s1 hx' ⊢
     refine .inr ⟨_,rfl,x',a.TooMany,.ref a.Twice,false,rfl,(fun u h=>h),hx',T.exa_TooMany,T.k_TooMany_Twice,?_⟩
     refine .inr ⟨_,rfl,x',a.TooMany,.ref a.NoPlace,false,rfl,(fun u h=>h),hx',T.exa_TooMany,T.k_TooMany_NoPlace,?_⟩
     refine ⟨_,rfl,_,rfl,.inr ⟨_,rfl,x',a.TooMany,.ref a.TooMany,true,rfl,(fun u h=>h),hx',T.exa_TooMany,T.k_TooMany_TooMany,?_⟩⟩
     refine .inr ⟨_,rfl,x',a.TooMany,.ty "ValueError",true,rfl,(fun u h=>h),hx',T.exa_TooMany,T.k_TooMany_ValueError,?_⟩
     refine ⟨by show 4≤sizeLine;decide,fun t nt=>?_⟩
     exact ⟨t,none,_,_,rfl,((fz.pre s0).up s1).up (same_upd nt),by rw [upd_same,ee];rfl⟩
   | false=>
   refine iteF ⟨_,rfl,_,rfl,_,rfl,fun d nd=>?_⟩
   have sd:=same_upd (o:=.dK []) nd
   have hd:DctIs a (upd H0 d (.dK [])) (.ref d) ([],fun _=>0):=⟨d,[],rfl,upd_same,Tab.nil,List.nodup_nil⟩
   generalize upd H0 d (.dK [])=Hd at sd hd ⊢
   refine ⟨p,ls,lw,d,psT es,dsT rs,ss.map S5.d,ws.map vR,ts,tw,([],fun _=>0),rfl,D0.tu.mono sd,hd,sto_bd D.sw,fun n=>by show Bd 30 (amtOf [] _ n);unfold amtOf;rw [if_neg List.not_mem_nil];exact Bd.zero.mono (Nat.zero_le _),fun e=>⟨net64 D.t64 e,rfl⟩,fun e q H' s'=>⟨t0,none,none,none,rfl,good H' (sd.trans s') (by rw [← eP];exact e)⟩,?_⟩
   ·rintro ⟨kk,nn⟩ ee
    rw [eP] at ee
    refine ⟨fun e0 H' dx fz hx=>?_,fun e0 H' dx fz hx=>?_,fun e0 H' fz=>?_⟩
    ·obtain rfl:kk=0:=e0
     refine ⟨_,_,rfl,T.su_Twice_GainError,iteT fun x' nx=>?_⟩
     have s1:=same_upd (o:=XO x' a.Twice (some dx)) nx
     have hx':upd H' x' (XO x' a.Twice (some dx)) x'=some (XO x' a.Twice (some dx)):=upd_same
     have hd1:=s1 _ _ hx
     generalize upd H' x' (XO x' a.Twice (some dx))=H1 at s1 hx' hd1 ⊢
     refine .inl ⟨_,rfl,x',a.Twice,.ref a.Twice,true,_,rfl,(fun u h=>h),⟨dx,hx',hd1⟩,T.exa_Twice,T.k_Twice_Twice,?_⟩
     refine .inl ⟨_,rfl,x',a.Twice,.ref a.NoPlace,false,_,rfl,(fun u h=>h),⟨dx,hx',hd1⟩,T.exa_Twice,T.k_Twice_NoPlace,?_⟩
     refine ⟨_,rfl,_,rfl,.inl ⟨_,rfl,x',a.Twice,.ref a.TooMany,false,_,rfl,(fun u h=>h),⟨dx,hx',hd1⟩,T.exa_Twice,T.k_Twice_TooMany,?_⟩⟩
     refine .inl ⟨_,rfl,x',a.Twice,.ty "ValueError",true,_,rfl,(fun u h=>h),⟨dx,hx',hd1⟩,T.exa_Twice,T.k_Twice_ValueError,?_⟩
     refine ⟨by show 4≤sizeLine;decide,fun t nt=>?_⟩
     exact ⟨t,none,_,_,rfl,((fz.pre (s0.trans sd)).up s1).up (same_upd nt),by rw [upd_same,ee];rfl⟩
    ·obtain rfl:kk=1:=e0
     refine ⟨_,_,rfl,T.su_NoPlace_GainError,iteT fun x' nx=>?_⟩
     have s1:=same_upd (o:=XO x' a.NoPlace (some dx)) nx
     have hx':upd H' x' (XO x' a.NoPlace (some dx)) x'=some (XO x' a.NoPlace (some dx)):=upd_same
     have hd1:=s1 _ _ hx
     generalize upd H' x' (XO x' a.NoPlace (some dx))=H1 at s1 hx' hd1 ⊢
     refine .inl ⟨_,rfl,x',a.NoPlace,.ref a.Twice,false,_,rfl,(fun u h=>h),⟨dx,hx',hd1⟩,T.exa_NoPlace,T.k_NoPlace_Twice,?_⟩
     refine .inl ⟨_,rfl,x',a.NoPlace,.ref a.NoPlace,true,_,rfl,(fun u h=>h),⟨dx,hx',hd1⟩,T.exa_NoPlace,T.k_NoPlace_NoPlace,?_⟩
     refine ⟨_,rfl,_,rfl,.inl ⟨_,rfl,x',a.NoPlace,.ref a.TooMany,false,_,rfl,(fun u h=>h),⟨dx,hx',hd1⟩,T.exa_NoPlace,T.k_NoPlace_TooMany,?_⟩⟩
     refine .inl ⟨_,rfl,x',a.NoPlace,.ty "ValueError",true,_,rfl,(fun u h=>h),⟨dx,hx',hd1⟩,T.exa_NoPlace,T.k_NoPlace_ValueError,?_⟩
     refine ⟨by show 4≤sizeLine;decide,fun t nt=>?_⟩
     exact ⟨t,none,_,_,rfl,((fz.pre (s0.trans sd)).up s1).up (same_upd nt),by rw [upd_same,ee];rfl⟩
    ·obtain rfl:kk=2:=e0
     refine ⟨_,_,rfl,T.su_TooMany_GainError,iteT fun x' nx=>?_⟩
     have s1:=same_upd (o:=XO x' a.TooMany none) nx
     have hx':upd H' x' (XO x' a.TooMany none) x'=some (XO x' a.TooMany none):=upd_same
     generalize upd H' x' (XO x' a.TooMany none)=H1 at s1 hx' ⊢
     refine .inr ⟨_,rfl,x',a.TooMany,.ref a.Twice,false,rfl,(fun u h=>h),hx',T.exa_TooMany,T.k_TooMany_Twice,?_⟩
     refine .inr ⟨_,rfl,x',a.TooMany,.ref a.NoPlace,false,rfl,(fun u h=>h),hx',T.exa_TooMany,T.k_TooMany_NoPlace,?_⟩
     refine ⟨_,rfl,_,rfl,.inr ⟨_,rfl,x',a.TooMany,.ref a.TooMany,true,rfl,(fun u h=>h),hx',T.exa_TooMany,T.k_TooMany_TooMany,?_⟩⟩
     refine .inr ⟨_,rfl,x',a.TooMany,.ty "ValueError",true,rfl,(fun u h=>h),hx',T.exa_TooMany,T.k_TooMany_ValueError,?_⟩
     refine ⟨by show 4≤sizeLine;decide,fun t nt=>?_⟩
     exact ⟨t,none,_,_,rfl,((fz.pre (s0.trans sd)).up s1).up (same_upd nt),by rw [upd_same,ee];rfl⟩
  rintro σ' H1 ⟨q,z5,z6,z7,rfl,fz,hq⟩
  rcases fz.back with s1 | ⟨d',o,u,h1,h2,s1⟩
  ·exact .inl ⟨_,rfl,k q H1 s1 hq⟩
  ·refine .inr ⟨d',o,u,h1,h2,_,rfl,k q _ s1 ?_⟩
   rw [upd_ne (fun z=>by rw [z,h1] at hq;cases hq)]
   exact hq
theorem cls_word (x:Option (Nat × Str)):([V.bl (clsOf x).1,V.bl (clsOf x).2.1,V.bl (clsOf x).2.2,V.bl true]:List V)=[V.bl (decide (V.str (wordOf x).1=V.str "Twice")),V.bl (decide (V.str (wordOf x).1=V.str "NoPlace")),V.bl (decide (V.str (wordOf x).1=V.str "TooMany")),V.bl true]:=by
 rcases x with _ | ⟨k,n⟩
 ·decide +kernel
 ·match k with
  | 0=>show ([V.bl true,V.bl false,V.bl false,V.bl true]:List V)=[V.bl (decide (V.str "Twice"=V.str "Twice")),V.bl (decide (V.str "Twice"=V.str "NoPlace")),V.bl (decide (V.str "Twice"=V.str "TooMany")),V.bl true];decide +kernel
  | 1=>show ([V.bl false,V.bl true,V.bl false,V.bl true]:List V)=[V.bl (decide (V.str "NoPlace"=V.str "Twice")),V.bl (decide (V.str "NoPlace"=V.str "NoPlace")),V.bl (decide (V.str "NoPlace"=V.str "TooMany")),V.bl true];decide +kernel
  | k+2=>show ([V.bl false,V.bl false,V.bl true,V.bl true]:List V)=[V.bl (decide (V.str "TooMany"=V.str "Twice")),V.bl (decide (V.str "TooMany"=V.str "NoPlace")),V.bl (decide (V.str "TooMany"=V.str "TooMany")),V.bl true];decide +kernel
theorem eqVs_bls:∀ bs:List Bool,eqVs (bs.map V.bl) (bs.map V.bl)=true
 | []=>rfl
 | b::bs=>by
  show (eqV (.bl b) (.bl b) && eqVs (bs.map V.bl) (bs.map V.bl))=true
  rw [eqVs_bls bs]
  cases b <;> rfl
structure Ask (K:PySem.W.Frag) (a:Ad) (H:Hp) (p t lp lw ls lq:Addr) (es:List Ent) (rs:List W7) (ss:List S5) (ws:List PRow) (tp tw ts tq:List V):Prop where
 net:NetAt a H p (psT es) (dsT rs)
 td:Told H t lp lw tp tw es rs
 hs:H ls=some (.lst ts)
 rS:RowAt S5Is H ts ss
 hq:H lq=some (.lst tq)
 rQ:RowAt DcpIs H tq ws
 t64:T64 es rs
 sw:∀ r∈ss,S5W r
 pw:∀ r∈ws,PRW r 14
 ls4:ss.length≤4
 lw30:ws.length≤30
inductive IspAsk64 (K:PySem.W.Frag) (a:Ad) (vs:List V) (H:Hp) (Q:VK):Prop
 | mk (p t lp lw ls lq:Addr) (pl:Bool) (es:List Ent) (rs:List W7) (ss:List S5) (ws:List PRow) (tp tw ts tq:List V) (h1:vs=[.ref p,.ref t,.ref ls,.ref lq,.bl pl]) (h2:Ask K a H p t lp lw ls lq es rs ss ws tp tw ts tq) (h3:∀ H',Same H H'→Q (.bl true) H'):IspAsk64 K a vs H Q
def spAsk64 (K:PySem.W.Frag) (a:Ad):Sp:=fun vs H Q _=>IspAsk64 K a vs H Q
theorem ok_law_asked (T:TX K mg a):FnB P w K mg base CX0 "_law_asked" 12 ["_law_net_here","_law_told","_law_stores_here","_law_wants_here","_law_plain"] (spAsk64 K a):=by
 refine T.d_law_asked.ok sc_law_asked (fun vs H Q E h=>?_) (fun f cdv A outer s H vs Q E hr h=>?_)
 ·obtain ⟨_,_,_,_,_,_,_,_,_,_,_,_,_,_,_,rfl,_⟩:=h
  rfl
 ·obtain ⟨p,t,lp,lw,ls,lq,pl,es,rs,ss,ws,tp,tw,ts,tq,rfl,A,k⟩:=h
  refine ⟨_,(pss_cut (ps_set (i:=5) sc_law_asked.nd rfl (Or.inl rfl) (pe_fn (ok_law_due T) hr pass0 (pa_cons (pv 1) (pa_cons (pv 2) (pa_cons (pv 3) pa_nil)))))
   (pss_cut (ps_compG (i:=6) (xs:=["_law_store_here"]) (rest:=[]) sc_law_asked.nd rfl rfl rfl (pi_list (pv 2))
   (fun pins fp C' s' H'=>(pg_name (i:=0) (show (["_law_store_here"]:List Str).Nodup by decide +kernel) rfl (Or.inl rfl))) (fun pins fp C' s' H'=>pts_nil)
   (fun pins fp C' s' H'=>(pe_fn (ok_law_store T) hr pass0 (pa_cons (pv 0) pa_nil)))
   (Clos.none (by decide +kernel) (by decide +kernel)) (Reads.many (ys:=[]) (js:=[]) True.intro))
   (pss_cut (ps_compG (i:=7) (xs:=["_law_row"]) (rest:=[]) sc_law_asked.nd rfl rfl rfl (pi_list (pv 3))
   (fun pins fp C' s' H'=>(pg_name (i:=0) (show (["_law_row"]:List Str).Nodup by decide +kernel) rfl (Or.inl rfl))) (fun pins fp C' s' H'=>pts_nil)
   (fun pins fp C' s' H'=>(pe_fn (ok_law_fractions T) hr pass0 (pa_cons (pv 0) pa_nil)))
   (Clos.none (by decide +kernel) (by decide +kernel)) (Reads.many (ys:=[]) (js:=[]) True.intro))
   (pss_cons (ps_set (i:=8) sc_law_asked.nd rfl (Or.inl rfl) (pe_ix ix_tup (pv 5) pe_int (fun _ _=>rfl)))
   (pss_cons (ps_set (i:=9) sc_law_asked.nd rfl (Or.inl rfl) pe_dnewK)
   (pss_cut (ps_if (pt_cmpR op_ne (pv 8) pe_str (nomark _)) (pss_one (ps_dput (hu_of hr) (pv 9) pe_str (pe_mkfr (mk1 T) hr T.mg_Fraction pass0 (pa_cons pe_int pa_nil)) rfl)) pss_nil)
   (pss_cons (ps_if (pt_cmpR (op_neT hr.units0) (pe_fn (ok_law_refused T) hr pass0 (pa_cons (pv 0) (pa_cons (pv 6) (pa_cons (pv 7) (pa_cons (pv 4) (pa_cons (pv 9) pa_nil)))))) (pv 5) (nomark _)) (pss_one (ps_ret pe_bl)) pss_nil)
   (pss_one (ps_ret (pe_cmpR (op_eqT hr.units0) (pe_fn (ok_law_class T) hr pass0 (pa_cons (pv 0) (pa_cons (pv 6) (pa_cons (pv 7) (pa_cons (pv 4) pa_nil))))) (pe_tup (pa_cons (pe_cmpR op_eq (pv 8) pe_str (nomark _)) (pa_cons (pe_cmpR op_eq (pv 8) pe_str (nomark _)) (pa_cons (pe_cmpR op_eq (pv 8) pe_str (nomark _)) (pa_cons pe_bl pa_nil))))) (nomark _))))))))))),?_⟩
  try dsimp only [cxOf,Cx.nox,Cx.wish]
  have l4:=A.ls4
  have l30:=A.lw30
  have e4:=A.t64.l4
  have r4:=A.t64.r4
  have lts:ts.length=ss.length:=A.rS.1
  have ltq:tq.length=ws.length:=A.rQ.1
  refine ⟨fun σ' H'=>∃ q0,σ'=[some (.ref p),some (.ref t),some (.ref ls),some (.ref lq),some (.bl pl),some (.ref q0),none,none,none,none]∧Same H H'∧H' q0=some (.tup [.str (wordOf (dueP es rs ss ws)).1,.str (wordOf (dueP es rs ss ws)).2]),?_,?_⟩
  ·exact ⟨_,rfl,_,rfl,_,rfl,t,lp,lw,ls,lq,tp,tw,ts,tq,es,rs,ss,ws,rfl,A.td,SqL.of A.hs,A.rS,SqL.of A.hq,A.rQ,by omega,by omega,by omega,by omega,fun q H' s' hq=>⟨q,rfl,s',hq⟩⟩
  rintro σ' H1 ⟨q0,rfl,s1,hq0⟩
  refine ⟨fun σ' H'=>∃ l9 t9,σ'=[some (.ref p),some (.ref t),some (.ref ls),some (.ref lq),some (.bl pl),some (.ref q0),some (.ref l9),none,none,none]∧Same H1 H'∧H' l9=some (.lst t9)∧RowAt (WayE a) H' t9 (ss.map S5.d),?_,?_⟩
  ·have hs1:=s1 _ _ A.hs
   refine ⟨_,rfl,ls,rfl,⟨_,SqL.of hs1⟩,fun l7 nl7=>?_⟩
   refine compG_list (K:=K) (a:=ls) (xs:=ts) (fun i H7=>i≤ss.length∧Same H1 H7∧∃ t7,H7 l7=some (.lst t7)∧RowAt (WayE a) H7 t7 ((ss.take i).map S5.d)) ⟨Nat.zero_le _,same_upd nl7,[],upd_same,RowAt.nil⟩ (fun i H7 ⟨_,s7,_⟩=>SqL.of (s7 _ _ hs1)) ?_ ?_
   ·rintro i x H7 hx ⟨_,s7,t7,h7,hv⟩
    obtain ⟨r,er,hr0⟩:=A.rS.get hx
    have hi:i<ss.length:=(List.getElem?_eq_some_iff.mp er).1
    have so:=(A.sw r (List.mem_of_getElem? er)).ok
    have lt7:t7.length≤12:=by rw [hv.1,List.length_map,List.length_take];omega
    refine g1 ⟨⟨[_],rfl,rfl⟩,yes ?_⟩
    refine ⟨_,rfl,x,r,_,rfl,hr0.mono (s1.trans s7),so,fun p H8 np s8 hp=>?_⟩
    have h8:=s8 _ _ h7
    have sy:Stays a H8 (upd H8 l7 (.lst (t7++[.ref p]))):=.put h8 (fun _ _ _ z=>by cases z)
    refine ⟨_,h8,small1000 (by omega),nextP (by rw [lts];exact hi) ⟨hi,same_put nl7 (s7.trans s8),_,upd_same,?_⟩⟩
    rw [List.take_add_one,er,Option.toList_some,List.map_append]
    exact RowAt.snoc (hv.mono fun v x z=>(z.mono s8).keep sy) (hp.keep sy)
   ·rintro H7 ⟨_,s7,t7,h7,hv⟩
    rw [lts,List.take_length] at hv
    exact ⟨l7,t7,rfl,s7,h7,hv⟩
  rintro σ' H2 ⟨l9,t9,rfl,s2',h9,hv9⟩
  have s2:=s1.trans s2'
  have hq02:=s2' _ _ hq0
  have hn2:=A.net.mono s2
  refine ⟨fun σ' H'=>∃ l10 t10,σ'=[some (.ref p),some (.ref t),some (.ref ls),some (.ref lq),some (.bl pl),some (.ref q0),some (.ref l9),some (.ref l10),none,none]∧Same H2 H'∧Hand K a H' p l9 l10 es rs ss ws t9 t10,?_,?_⟩
  ·have hq2:=s2 _ _ A.hq
   refine ⟨_,rfl,lq,rfl,⟨_,SqL.of hq2⟩,fun l6 nl6=>?_⟩
   refine compG_list (K:=K) (a:=lq) (xs:=tq) (fun i H6=>i≤ws.length∧Same H2 H6∧∃ t6,H6 l6=some (.lst t6)∧RowAt (DctIs a) H6 t6 ((ws.take i).map vR)∧∀ d,V.ref d∈t6→H2 d=none∧d≠l6) ⟨Nat.zero_le _,same_upd nl6,[],upd_same,RowAt.nil,fun d hd=>absurd hd List.not_mem_nil⟩ (fun i H6 ⟨_,s6,_⟩=>SqL.of (s6 _ _ hq2)) ?_ ?_
   ·rintro i x H6 hx ⟨_,s6,t6,h6,hv,nw⟩
    obtain ⟨r,er,hr0⟩:=A.rQ.get hx
    have hi:i<ws.length:=(List.getElem?_eq_some_iff.mp er).1
    have wo:=A.pw r (List.mem_of_getElem? er)
    have wl12:=wo.len
    have lt6:t6.length≤30:=by rw [hv.1,List.length_map,List.length_take];omega
    refine g1 ⟨⟨[_],rfl,rfl⟩,yes ?_⟩
    refine ⟨_,rfl,x,r,rfl,hr0.mono (s2.trans s6),wo.ok,by omega,fun d' H7 nd' s7 hd'=>?_⟩
    have h7:=s7 _ _ h6
    have ndl:d'≠l6:=fun z=>by rw [z,h6] at nd';cases nd'
    refine ⟨_,h7,small1000 (by omega),nextP (by rw [ltq];exact hi) ⟨hi,same_put nl6 (s6.trans s7),_,upd_same,?_,fun d hd=>?_⟩⟩
    ·rw [List.take_add_one,er,Option.toList_some,List.map_append]
     have up:∀ v x,DctIs a H7 v x→v≠.ref l6→DctIs a (upd H7 l6 (.lst (t6++[.ref d']))) v x:=fun v x ⟨d2,kv2,e,f,t,q⟩ ne=>⟨d2,kv2,e,by rw [upd_ne (fun z=>ne (by rw [e,z]))];exact f,t.mono fun _ _ z=>FrIs.ko z (.lst h7),q⟩
     refine RowAt.snoc ⟨hv.1,fun j u y e1 e2=>up _ _ ((hv.2 j u y e1 e2).mono s7) fun z=>?_⟩ (up _ _ hd' (fun z=>by cases z;exact ndl rfl))
     subst z
     exact (nw l6 (List.mem_of_getElem? e1)).2 rfl
    ·rcases List.mem_append.mp hd with z | z
     ·exact nw d z
     ·cases List.mem_singleton.mp z
      exact ⟨s6.free nd',ndl⟩
   rintro H6 ⟨_,s6,t6,h6,hv6,nw6⟩
   rw [ltq,List.take_length] at hv6
   refine ⟨l6,t6,rfl,s6,⟨⟨hn2.mono s6,by rw [psT_n];exact A.t64.tok.nd,SqL.of (s6 _ _ h9),hv9.mono fun v x z=>z.mono s6,SqL.of h6,hv6,fun d hd=>hn2.apn s6 (nw6 d hd).1,?_,?_,?_,?_,fun z hz=>?_,by rw [dsT_n];exact A.t64.tok.nw,fun x hx=>?_,fun r hr n hn=>?_,tr_d A.t64,tr_s A.sw⟩,A.t64,A.sw⟩⟩
   ·unfold psT;rw [List.length_map];omega
   ·unfold dsT;rw [List.length_map];omega
   ·rw [List.length_map];omega
   ·rw [List.length_map];omega
   ·exact A.t64.le _ (by rw [← psT_n];exact List.mem_map.mpr ⟨z,hz,rfl⟩)
   ·obtain ⟨r0,h0,rfl⟩:=List.mem_map.mp hx
    obtain ⟨_,l1,l2⟩:=A.sw r0 h0
    exact ⟨Nat.le_trans l1 (by decide),Nat.le_trans l2 (by decide)⟩
   ·obtain ⟨r0,h0,rfl⟩:=List.mem_map.mp hr
    exact Nat.le_trans ((A.pw r0 h0).ln n hn) (by decide)
  rintro σ' H3 ⟨l10,t10,rfl,s3',D⟩
  have s3:=s2.trans s3'
  have hq03:=s3' _ _ hq02
  clear hv9 h9 hn2 hq02 hq0 s3' s2' s2 s1
  refine ⟨_,rfl,q0,_,_,_,rfl,rfl,SqT.of hq03,rfl,?_⟩
  intro d nd
  have s4:=same_upd (o:=.dK []) nd
  have hd4:upd H3 d (.dK []) d=some (.dK []):=upd_same
  have hq04:=s4 _ _ hq03
  have D4:=D.mono s4
  have nd':=s3.free nd
  have s14:=s3.trans s4
  generalize upd H3 d (.dK [])=H4 at s4 s14 hd4 hq04 D4 ⊢
  refine ⟨fun σ' H'=>∃ r:WRow,σ'=[some (.ref p),some (.ref t),some (.ref ls),some (.ref lq),some (.bl pl),some (.ref q0),some (.ref l9),some (.ref l10),some (.str (wordOf (dueP es rs ss ws)).1),some (.ref d)]∧Same H H'∧H' q0=some (.tup [.str (wordOf (dueP es rs ss ws)).1,.str (wordOf (dueP es rs ss ws)).2])∧Hand K a H' p l9 l10 es rs ss ws t9 t10∧DctIs a H' (.ref d) r∧(∀ n,Bd 30 (amtOf r.1 r.2 n))∧(dueP es rs ss ws=none→r.1=[]),?_,?_⟩
  ·refine ⟨_,rfl,rfl,_,rfl,?_⟩
   split
   ·rename_i hne
    refine ⟨1,1,rfl,by decide,sm1,fun q H5 nq s5 f5=>?_⟩
    have hd5:=s5 _ _ hd4
    refine ⟨_,rfl,d,_,rfl,DPut.k (k:=Sum.inr "no.way.of.these") hd5 (small1000 (by decide)),?_⟩
    have s36:Same H3 (upd H5 d (.dK (putK [] (Sum.inr "no.way.of.these") (.ref q)))):=same_put nd (s4.trans s5)
    have kp:KeepD H5 (upd H5 d (.dK (putK [] (Sum.inr "no.way.of.these") (.ref q)))):=KeepD.put hd5
    refine ⟨(["no.way.of.these"],fun _=>1),rfl,s3.trans s36,s36 _ _ hq03,D.mono s36,⟨d,_,rfl,upd_same,?_,by simp⟩,fun n=>?_,fun e=>?_⟩
    ·have:=Tab.put (n:=("no.way.of.these":Str)) (R:=FrIs a) (H:=upd H5 d (.dK (putK [] (Sum.inr "no.way.of.these") (.ref q)))) (f:=fun _=>1) Tab.nil (y:=1) (FrIs.keep ⟨q,rfl,f5⟩ kp)
     rw [addK_new List.not_mem_nil] at this
     exact this.congr fun m _=>by unfold upf;split <;> rfl
    ·show Bd 30 (amtOf ["no.way.of.these"] _ n)
     unfold amtOf
     split
     ·exact Bd.one.mono (Nat.zero_le _)
     ·exact Bd.zero.mono (Nat.zero_le _)
    ·rw [e] at hne
     exact absurd hne (by decide +kernel)
   ·exact ⟨([],fun _=>0),rfl,s14,hq04,D4,⟨d,[],rfl,hd4,Tab.nil,List.nodup_nil⟩,(fun n=>by show Bd 30 (amtOf [] _ n);unfold amtOf;rw [if_neg List.not_mem_nil];exact Bd.zero.mono (Nat.zero_le _)),fun _=>rfl⟩
  rintro σ' H5 ⟨r,rfl,s5,hq05,D5,hd5,ba,r0⟩
  refine ⟨_,rfl,_,rfl,_,rfl,_,rfl,_,rfl,p,l9,l10,d,pl,es,rs,ss,ws,t9,t10,r,rfl,D5,hd5,ba,r0,fun q H6 s6 hq6=>?_⟩
  refine ⟨_,rfl,q,q0,_,_,rfl,rfl,SqT.of hq6,SqT.of (s6 _ _ hq05),rfl,rfl,_,rfl,?_⟩
  refine iteD (show (!eqVs ([(wordOf (dueP es rs ss ws)).1,(wordOf (dueP es rs ss ws)).2].map V.str) ([(wordOf (dueP es rs ss ws)).1,(wordOf (dueP es rs ss ws)).2].map V.str))=false by rw [eqVs_strs];rfl) ?_
  refine ⟨_,rfl,_,rfl,_,rfl,_,rfl,p,l9,l10,pl,es,rs,ss,ws,t9,t10,rfl,D5.mono s6,fun q2 H7 s7 hq7=>?_⟩
  refine ⟨_,rfl,rfl,_,rfl,rfl,_,rfl,rfl,by show 4≤sizeLine;decide,fun q3 nq3=>?_⟩
  have s8:=same_upd (o:=.tup [.bl (decide (V.str (wordOf (dueP es rs ss ws)).1=V.str "Twice")),.bl (decide (V.str (wordOf (dueP es rs ss ws)).1=V.str "NoPlace")),.bl (decide (V.str (wordOf (dueP es rs ss ws)).1=V.str "TooMany")),.bl true]) nq3
  refine ⟨q2,q3,_,_,rfl,rfl,SqT.of (s8 _ _ hq7),SqT.of upd_same,rfl,rfl,?_⟩
  rw [← cls_word]
  show Q (.bl (eqVs ([(clsOf (dueP es rs ss ws)).1,(clsOf (dueP es rs ss ws)).2.1,(clsOf (dueP es rs ss ws)).2.2,true].map V.bl) ([(clsOf (dueP es rs ss ws)).1,(clsOf (dueP es rs ss ws)).2.1,(clsOf (dueP es rs ss ws)).2.2,true].map V.bl))) _
  rw [eqVs_bls]
  exact k _ (s5.trans (s6.trans (s7.trans (same_upd nq3))))
theorem DcpIs.lst {H:Hp} {l:Addr} {ts us:List V} {v:V} {r:PRow} (h:DcpIs H v r) (hl:H l=some (.lst ts)):DcpIs (upd H l (.lst us)) v r:=by
 obtain ⟨d,kvs,e,f,t,n⟩:=h
 exact ⟨d,kvs,e,by rw [upd_ne (ne_of f hl (by intro z;cases z))];exact f,t.mono fun _ _ z=>DueIs.ko z (.lst hl),n⟩
theorem RowAt.set {α:Type} {R:Hp→V→α→Prop} {H:Hp} {ts:List V} {xs:List α} {t:V} {x:α} (d:RowAt R H ts xs) (j:Nat) (h:R H t x):RowAt R H (ts.set j t) (xs.set j x):=by
 refine ⟨by rw [List.length_set,List.length_set,d.1],fun i u y h1 h2=>?_⟩
 by_cases hj:j=i
 ·subst hj
  have hi:=(List.getElem?_eq_some_iff.mp h1).1
  have hi2:=(List.getElem?_eq_some_iff.mp h2).1
  rw [List.length_set] at hi hi2
  rw [List.getElem?_set_self hi] at h1
  rw [List.getElem?_set_self hi2] at h2
  cases h1
  cases h2
  exact h
 ·rw [List.getElem?_set_ne hj] at h1 h2
  exact d.2 i u y h1 h2
theorem ifC {c:Bool} {A B:Prop} (h1:c=true→A) (h2:c=false→B):if c=true then A else B:=by
 cases c with
 | true=>exact h1 rfl
 | false=>exact h2 rfl
theorem ifN {A B:Prop} (h:B):if false=true then A else B:=h
theorem ixN_n4 {n j:Nat} (h:j<n):ixN n (j:Int)=some j:=by
 unfold ixN
 rw [if_pos (by omega),if_pos (by omega)]
 rfl
theorem addK_le (ks:List Str) (n:Str):(addK ks n).length≤ks.length+1:=by unfold addK;split;omega;rw [List.length_append];exact Nat.le_refl _
theorem PRW.put {r:PRow} {m:Nat} (h:PRW r m) {n:Str} (hn:n.length≤700):PRW (addK r.1 n,upf r.2 n (1,1)) (m+1):=by
 refine ⟨fun x hx=>?_,Nat.le_trans (addK_le _ _) (Nat.succ_le_succ h.len),fun x hx=>?_⟩
 ·show N50 (upf r.2 n (1,1) x)
  by_cases e:x=n
  ·rw [e,upf_same]
   exact ⟨by decide,by decide,by decide⟩
  ·rw [upf_ne e]
   exact h.ok x ((mem_addK.mp hx).resolve_right e)
 ·rcases mem_addK.mp hx with z | z
  ·exact h.ln x z
  ·rw [z]
   exact hn
theorem S5W.put {r:S5} (h:S5W r) {n q:Str} (h1:n.length≤700) (h2:q.length≤700):S5W ⟨n,q,r.gain,r.hi,r.co⟩:=⟨⟨List.mem_singleton.mpr rfl,h.ok.g1,h.ok.g2,h.ok.hi,h.ok.co⟩,h1,h2⟩
theorem DcpIs.put {H:Hp} {t3:List V} {ws:List PRow} {j:Nat} {d q:Addr} {kvs:List (Key × V)} {r:PRow} {n:Str} (h:RowAt DcpIs H t3 ws) (nd:t3.Nodup) (ej:t3[j]?=some (.ref d)) (hd:H d=some (.dK kvs)) (tb:Tab DueIs H kvs r.1 r.2) (nk:r.1.Nodup) (hq:H q=some (.tup [.int 1,.int 1])):RowAt DcpIs (upd H d (.dK (putK kvs (Sum.inr n) (.ref q)))) t3 (ws.set j (addK r.1 n,upf r.2 n (1,1))):=by
 have ko:KeepO H (upd H d (.dK (putK kvs (Sum.inr n) (.ref q)))):=.dct hd
 refine ⟨by rw [List.length_set,h.1],fun i u y h1 h2=>?_⟩
 by_cases hj:j=i
 ·subst hj
  have hi2:=(List.getElem?_eq_some_iff.mp h2).1
  rw [List.length_set] at hi2
  rw [List.getElem?_set_self hi2] at h2
  rw [ej] at h1
  cases h1
  cases h2
  exact ⟨d,_,rfl,upd_same,Tab.put (n:=n) (tb.mono fun v x z=>DueIs.ko z ko) (DueIs.ko (c:=(1,1)) ⟨q,rfl,hq⟩ ko),nodup_addK nk⟩
 ·rw [List.getElem?_set_ne hj] at h2
  obtain ⟨d',kv',rfl,f',tb',nk'⟩:=h.2 i u y h1 h2
  have ne:d'≠d:=fun e=>by
   subst e
   obtain ⟨a1,b1⟩:=List.getElem?_eq_some_iff.mp h1
   obtain ⟨a2,b2⟩:=List.getElem?_eq_some_iff.mp ej
   exact hj ((List.getElem?_inj a2 nd).mp (ej.trans h1.symm))
  exact ⟨d',kv',rfl,by rw [upd_ne ne];exact f',tb'.mono fun v x z=>DueIs.ko z ko,nk'⟩
theorem PRW.more {r:PRow} {m n:Nat} (h:PRW r m) (hn:m≤n):PRW r n:=⟨h.ok,Nat.le_trans h.len hn,h.ln⟩
structure Flt (K:PySem.W.Frag) (H:Hp) (l t lp lw ls lq:Addr) (ns:List Int) (es:List Ent) (rs:List W7) (ss:List S5) (ws:List PRow) (tp tw ts tq:List V) (m:Nat):Prop where
 hS:SqL K H l (ns.map V.int)
 td:Told H t lp lw tp tw es rs
 hs:H ls=some (.lst ts)
 rS:RowAt S5Is H ts ss
 hq:H lq=some (.lst tq)
 rQ:RowAt DcpIs H tq ws
 sw:∀ r∈ss,S5W r
 pw:∀ r∈ws,PRW r m
 lr:∀ r∈rs,r.nm.length≤700
 r4:rs.length≤4
 s4:ss.length≤4
 w17:ws.length≤17
 m11:m≤13
structure FOut (H:Hp) (ls lq:Addr) (ss:List S5) (ws:List PRow) (ts tq:List V) (m n1 n2:Nat):Prop where
 hs:H ls=some (.lst ts)
 rS:RowAt S5Is H ts ss
 hq:H lq=some (.lst tq)
 rQ:RowAt DcpIs H tq ws
 sw:∀ r∈ss,S5W r
 pw:∀ r∈ws,PRW r (m+1)
 l1:ss.length=n1
 l2:ws.length≤n2+13
inductive IspFaulty (K:PySem.W.Frag) (vs:List V) (H:Hp) (Q:VK):Prop
 | mk (l t lp lw ls lq:Addr) (ns:List Int) (at_:Nat) (es:List Ent) (rs:List W7) (ss:List S5) (ws:List PRow) (tp tw ts tq:List V) (m:Nat) (h1:vs=[.ref l,.ref t,.ref ls,.ref lq,.int at_]) (h2:at_≤60) (h3:Flt K H l t lp lw ls lq ns es rs ss ws tp tw ts tq m) (h4:∀ q ls' lq' H' ss' ws' ts' tq',Same H H'→H' q=some (.tup [.ref ls',.ref lq'])→FOut H' ls' lq' ss' ws' ts' tq' m ss.length ws.length→Q (.ref q) H'):IspFaulty K vs H Q
def spFaulty (K:PySem.W.Frag):Sp:=fun vs H Q _=>IspFaulty K vs H Q
theorem ok_law_faulty (T:TX K mg a):FnB P w K mg base CX0 "_law_faulty" 2 ["_law_script","_law_told","_law_stores_here","_law_wants_here","_law_at"] (spFaulty K):=by
 refine T.d_law_faulty.ok sc_law_faulty (fun vs H Q E h=>?_) (fun f cdv A outer s H vs Q E hr h=>?_)
 ·obtain ⟨_,_,_,_,_,_,_,_,_,_,_,_,_,_,_,_,_,rfl,_⟩:=h
  rfl
 ·obtain ⟨l,t,lp,lw,ls,lq,ns,at_,es,rs,ss,ws,tp,tw,ts,tq,m,rfl,a60,D,k⟩:=h
  refine' ⟨_,pss_cons ?s0 ?r0,?kk⟩
  case s0=>exact (ps_set (i:=5) sc_law_faulty.nd rfl (Or.inl rfl) (pe_op op_mod (pe_fn (ok_law_cell_at T) hr pass0 (pa_cons (pv 0) (pa_cons (pv 4) pa_nil))) pe_int))
  case' r0=>refine' pss_cut ?s1 ?r1
  case s1=>exact (ps_set (i:=6) sc_law_faulty.nd rfl (Or.inl rfl) (pe_fn (ok_law_name T) hr pass0 (pa_cons (pe_op op_add pe_int (pe_op op_mod (pe_fn (ok_law_cell_at T) hr pass0 (pa_cons (pv 0) (pa_cons (pe_op op_add (pv 4) pe_int) pa_nil))) pe_int)) (pa_cons (pe_fn (ok_law_cell_at T) hr pass0 (pa_cons (pv 0) (pa_cons pe_int pa_nil))) pa_nil))))
  case' r1=>refine' pss_cons ?s2 ?r2
  case s2=>exact (ps_set (i:=2) sc_law_faulty.nd rfl (Or.inl rfl) (pe_callTy call_list_of (by rfl) T.z_list PyProof.Rows.boot_list (pa_cons (pv 2) pa_nil)))
  case' r2=>refine' pss_cut ?s3 ?r3
  case s3=>exact (ps_compG (i:=3) (xs:=["_law_row"]) (rest:=[]) sc_law_faulty.nd rfl rfl rfl (pi_list (pv 3))
   (fun pins fp C' s' H'=>(pg_name (i:=0) (show (["_law_row"]:List Str).Nodup by decide +kernel) rfl (Or.inl rfl))) (fun pins fp C' s' H'=>pts_nil)
   (fun pins fp C' s' H'=>(pe_callTy call_dict_copy (by rfl) T.z_dict PyProof.Rows.boot_dict (pa_cons (pv 0) pa_nil)))
   (Clos.none (by decide +kernel) (by decide +kernel)) (Reads.many (ys:=[]) (js:=[]) True.intro))
  case' r3=>refine' pss_cut ?s4 ?r4
  case' s4=>refine' (ps_if (PW.pt (pw_and (pt_cmpR op_lt (pv 5) pe_int (nomark _)) (pw_and1 (pt_cmpR (op_neN hr.units0) (pv 2) (pe_lst pa_nil) (nomark _))))) (pss_cut (ps_set (i:=7) sc_law_faulty.nd rfl (Or.inl rfl) (pe_op op_mod (pe_fn (ok_law_cell_at T) hr pass0 (pa_cons (pv 0) (pa_cons (pe_op op_add (pv 4) pe_int) pa_nil))) (pe_callB call_lenK (by rfl) T.z_len PySem.boot_len (pa_cons (pv 2) pa_nil))))
   (pss_cons (ps_asg (pe_ix ix_list (pv 2) (pv 7) (fun _ _=>rfl)) (pg_tup (n:=5) rfl (pgs_cons (pg_name (i:=8) sc_law_faulty.nd rfl (Or.inl rfl)) (pgs_cons (pg_name (i:=9) sc_law_faulty.nd rfl (Or.inl rfl)) (pgs_cons (pg_name (i:=10) sc_law_faulty.nd rfl (Or.inl rfl)) (pgs_cons (pg_name (i:=11) sc_law_faulty.nd rfl (Or.inl rfl)) (pgs_cons (pg_name (i:=12) sc_law_faulty.nd rfl (Or.inl rfl)) pgs_nil)))))))
   (pss_cut (ps_if (pt_cmpR op_eq (pv 5) pe_int (nomark _)) (pss_one (ps_set (i:=9) sc_law_faulty.nd rfl (Or.inl rfl) (pv 6))) (pss_one (ps_if (PW.pt (pw_and (pt_cmpR op_eq (pv 5) pe_int (nomark _)) (pw_and1 (pt_cmpR (op_neN hr.units0) (pe_ix ix_tup (pv 1) pe_int (fun _ _=>rfl)) (pe_lst pa_nil) (nomark _))))) (pss_one (ps_set (i:=8) sc_law_faulty.nd rfl (Or.inl rfl) (pe_ix ix_tup (pe_ix ix_list (pe_ix ix_tup (pv 1) pe_int (fun _ _=>rfl)) (pe_op op_mod (pe_fn (ok_law_cell_at T) hr pass0 (pa_cons (pv 0) (pa_cons (pe_op op_add (pv 4) pe_int) pa_nil))) (pe_callB call_lenK (by rfl) T.z_len PySem.boot_len (pa_cons (pe_ix ix_tup (pv 1) pe_int (fun _ _=>rfl)) pa_nil))) (fun _ _=>rfl)) pe_int (fun _ _=>rfl)))) (pss_one (ps_if (pt_cmpR op_eq (pv 5) pe_int (nomark _)) (pss_one (ps_set (i:=8) sc_law_faulty.nd rfl (Or.inl rfl) (pe_ix ix_tup (pe_ix ix_list (pv 2) pe_int (fun _ _=>rfl)) pe_int (fun _ _=>rfl)))) pss_nil)))))
   (pss_one (ps_asg (pe_tup (pa_cons (pv 8) (pa_cons (pv 9) (pa_cons (pv 10) (pa_cons (pv 11) (pa_cons (pv 12) pa_nil)))))) (pg_sub (pv 2) (pv 7) set_list)))))) (pss_one (ps_if (PW.pt (pw_and (pt_cmpR op_eq (pv 5) pe_int (nomark _)) (pw_and1 (pt_cmpR (op_neN hr.units0) (pv 3) (pe_lst pa_nil) (nomark _))))) (pss_one (ps_dput (hu_of hr) (pe_ix ix_list (pv 3) (pe_op op_mod (pe_fn (ok_law_cell_at T) hr pass0 (pa_cons (pv 0) (pa_cons (pe_op op_add (pv 4) pe_int) pa_nil))) (pe_callB call_lenK (by rfl) T.z_len PySem.boot_len (pa_cons (pv 3) pa_nil))) (fun _ _=>rfl)) (pv 6) (pe_tup (pa_cons pe_int (pa_cons pe_int pa_nil))) rfl)) (pss_one (ps_if (pt_cmpR op_eq (pv 5) pe_int (nomark _)) (pss_one (ps_set (i:=3) sc_law_faulty.nd rfl (Or.inl rfl) (pe_op op_cat (pv 3) ?y4))) pss_nil)))))
  case y4=>
   refine' pe_dl 13 ?_ ?_
   ·decide +kernel
   ·decide +kernel
  case r4=>exact pss_one (ps_ret (pe_tup (pa_cons (pv 2) (pa_cons (pv 3) pa_nil))))
  try dsimp only [cxOf,Cx.nox,Cx.wish]
  have s4:=D.s4
  have w17:=D.w17
  have ltq:tq.length=ws.length:=D.rQ.1
  have lts:ts.length=ss.length:=D.rS.1
  refine ⟨_,rfl,_,rfl,l,ns,at_,rfl,D.hS,by omega,_,_,rfl,rfl,by show (0:Int)<6;decide,?_⟩
  refine ⟨fun σ' H'=>∃ (dd:Int) (sg:Str),σ'=[some (.ref l),some (.ref t),some (.ref ls),some (.ref lq),some (.int at_),some (.int dd),some (.str sg),none,none,none,none,none,none]∧H'=H∧sg.length≤700,?_,?_⟩
  ·obtain ⟨g0,g1'⟩:=emod_in (cellA ns (at_+1)) (show (0:Int)<3 by decide)
   refine ⟨_,rfl,_,rfl,_,_,rfl,rfl,l,ns,at_+1,rfl,D.hS,by omega,?_⟩
   refine ⟨_,_,rfl,rfl,by show (0:Int)<3;decide,_,_,rfl,rfl,_,rfl,l,ns,1,rfl,D.hS,by decide,_,_,rfl,by omega,by omega,?_⟩
   exact ⟨_,_,rfl,rfl,Nat.le_trans (nameA_len _ _) (by decide)⟩
  rintro σ' H' ⟨dd,sg,rfl,eH,lsg⟩
  rw [eH]
  clear eH H'
  refine ⟨_,rfl,ls,_,rfl,.inl (SqL.of D.hs),fun l2 nl2=>?_⟩
  have s1:=same_upd (o:=.lst ts) nl2
  have h12:upd H l2 (.lst ts) l2=some (.lst ts):=upd_same
  generalize upd H l2 (.lst ts)=H1 at s1 h12 ⊢
  refine ⟨fun σ' H'=>∃ l3 t3,σ'=[some (.ref l),some (.ref t),some (.ref l2),some (.ref l3),some (.int at_),some (.int dd),some (.str sg),none,none,none,none,none,none]∧Same H H'∧l3≠l2∧H' l2=some (.lst ts)∧H' l3=some (.lst t3)∧RowAt DcpIs H' t3 ws∧t3.Nodup∧(∀ d,V.ref d∈t3→H d=none),?_,?_⟩
  ·have hq1:=s1 _ _ D.hq
   refine ⟨_,rfl,lq,rfl,⟨_,SqL.of hq1⟩,fun l3 nl3=>?_⟩
   refine compG_list (K:=K) (a:=lq) (xs:=tq) (fun i H2=>i≤ws.length∧Same H1 H2∧∃ t6,H2 l3=some (.lst t6)∧RowAt DcpIs H2 t6 (ws.take i)∧t6.Nodup∧∀ d,V.ref d∈t6→H1 d=none) ⟨Nat.zero_le _,same_upd nl3,[],upd_same,RowAt.nil,List.nodup_nil,fun d hd=>absurd hd List.not_mem_nil⟩ (fun i H2 ⟨_,s2,_⟩=>SqL.of (s2 _ _ hq1)) ?_ ?_
   ·rintro i x H2 hx ⟨_,s2,t6,h6,hv,nd6,nw6⟩
    obtain ⟨r,er,hr0⟩:=D.rQ.get hx
    have hi:i<ws.length:=(List.getElem?_eq_some_iff.mp er).1
    obtain ⟨d0,kvs,rfl,hd0,tb,nk⟩:=hr0.mono (s1.trans s2)
    have lt6:t6.length≤30:=by rw [hv.1,List.length_take];omega
    refine g1 ⟨⟨[_],rfl,rfl⟩,yes ?_⟩
    refine ⟨_,rfl,d0,kvs,rfl,.inl hd0,fun d' nd'=>?_⟩
    have s3:=same_upd (o:=.dK kvs) nd'
    have hd':upd H2 d' (.dK kvs) d'=some (.dK kvs):=upd_same
    have tb3:=tb.mono fun v x z=>DueIs.mono z s3
    generalize upd H2 d' (.dK kvs)=H3 at s3 hd' tb3 ⊢
    have h63:=s3 _ _ h6
    refine ⟨_,h63,small1000 (by omega),nextP (by rw [ltq];exact hi) ⟨hi,same_put nl3 (s2.trans s3),_,upd_same,?_,?_,fun d hd=>?_⟩⟩
    ·rw [List.take_add_one,er,Option.toList_some]
     exact RowAt.snoc (hv.mono fun v x z=>(z.mono s3).lst h63) (DcpIs.lst ⟨d',kvs,rfl,hd',tb3,nk⟩ h63)
    ·refine List.nodup_append.mpr ⟨nd6,by simp,fun u hu v hv' e=>?_⟩
     rw [List.mem_singleton.mp hv'] at e
     subst e
     obtain ⟨jj,hjj⟩:=List.mem_iff_getElem?.mp hu
     obtain ⟨_,_,d2,kv2,e2,f2,_⟩:=hv.get hjj
     cases e2
     rw [nd'] at f2
     cases f2
    ·rcases List.mem_append.mp hd with z | z
     ·exact nw6 d z
     ·cases List.mem_singleton.mp z
      exact s2.free nd'
   ·rintro H2 ⟨_,s2,t6,h6,hv,nd6,nw6⟩
    rw [ltq,List.take_length] at hv
    exact ⟨l3,t6,rfl,s1.trans s2,fun e=>(by rw [e,h12] at nl3;cases nl3),s2 _ _ h12,h6,hv,nd6,fun d hd=>s1.free (nw6 d hd)⟩
  rintro σ' H2 ⟨l3,t3,rfl,s2,n32,hl2,hl3,rQ,nd3,new3⟩
  clear h12 s1 H1
  have lt3:t3.length=ws.length:=rQ.1
  have rS2:=D.rS.mono fun v x z=>z.mono s2
  refine ⟨fun σ' H'=>∃ z7 z8 z9 z10 z11 z12 l3' ss' ws' ts' t3',σ'=[some (.ref l),some (.ref t),some (.ref l2),some (.ref l3'),some (.int at_),some (.int dd),some (.str sg),z7,z8,z9,z10,z11,z12]∧Same H H'∧FOut H' l2 l3' ss' ws' ts' t3' m ss.length ws.length,?_,?_⟩
  ·have same:∀ H',Same H2 H'→FOut H' l2 l3 ss ws ts t3 m ss.length ws.length:=fun H' s'=>⟨s' _ _ hl2,rS2.mono fun v x z=>z.mono s',s' _ _ hl3,rQ.mono fun v x z=>z.mono s',D.sw,fun r hr=>(D.pw r hr).more (by omega),rfl,by omega⟩
   have none_:∀ H',Same H2 H'→∃ z7 z8 z9 z10 z11 z12 l3' ss' ws' ts' t3',([some (.ref l),some (.ref t),some (.ref l2),some (.ref l3),some (.int at_),some (.int dd),some (.str sg),none,none,none,none,none,none]:St)=[some (.ref l),some (.ref t),some (.ref l2),some (.ref l3'),some (.int at_),some (.int dd),some (.str sg),z7,z8,z9,z10,z11,z12]∧Same H H'∧FOut H' l2 l3' ss' ws' ts' t3' m ss.length ws.length:=fun H' s'=>⟨_,_,_,_,_,_,l3,ss,ws,ts,t3,rfl,s2.trans s',same H' s'⟩
   refine ⟨_,rfl,_,_,rfl,rfl,_,rfl,ifC (fun hd=>?_) (fun hd=>ifN ?_)⟩
   ·have hd3:dd<3:=of_decide_eq_true hd
    refine ⟨_,rfl,by show 0≤sizeLine;decide,fun p np=>?_⟩
    have s3:=same_upd (o:=.lst []) np
    have hp:upd H2 p (.lst []) p=some (.lst []):=upd_same
    generalize upd H2 p (.lst [])=H3 at s3 hp ⊢
    refine ⟨l2,p,ts,rfl,rfl,SqL.of (s3 _ _ hl2),SqL.of hp,_,rfl,ifC (fun he=>?_) (fun he=>?_)⟩
    ·have lpos:0<ts.length:=by
      cases ts with
      | nil=>cases he
      | cons x y=>exact Nat.succ_pos _
     refine ⟨fun σ' H'=>∃ j:Nat,j<ts.length∧σ'=[some (.ref l),some (.ref t),some (.ref l2),some (.ref l3),some (.int at_),some (.int dd),some (.str sg),some (.int (j:Int)),none,none,none,none,none]∧H'=H3,?_,?_⟩
     ·obtain ⟨g0,g1'⟩:=emod_in (cellA ns (at_+2)) (show (0:Int)<(ts.length:Int) by omega)
      refine ⟨_,rfl,_,rfl,_,_,rfl,rfl,l,ns,at_+2,rfl,(s2.trans s3).seq D.hS,by omega,?_⟩
      refine ⟨_,rfl,l2,ts,rfl,.inl (SqL.of (s3 _ _ hl2)),_,_,rfl,rfl,by show (0:Int)<(ts.length:Int);omega,?_⟩
      refine ⟨(cellA ns (at_+2) % (ts.length:Int)).toNat,by omega,?_,rfl⟩
      rw [Int.toNat_of_nonneg g0]
      rfl
     rintro σ' H' ⟨j,hj,rfl,eH⟩
     rw [eH]
     clear eH H'
     obtain ⟨v,hv⟩:∃ v,ts[j]?=some v:=⟨_,List.getElem?_eq_getElem hj⟩
     have rS3:=rS2.mono fun v x z=>S5Is.mono z s3
     have hl23:=s3 _ _ hl2
     obtain ⟨r,er,p5,vg,vh,vc,rfl,hp5,dg,dh,dc⟩:=rS3.get hv
     have hr:=List.mem_of_getElem? er
     refine ⟨_,rfl,_,rfl,l2,ts,_,_,rfl,rfl,SqL.of hl23,atI_nat hv,p5,_,rfl,SqT.of hp5,rfl,?_⟩
     refine ⟨_,_,rfl,_,_,rfl,_,_,rfl,_,_,rfl,_,_,rfl,rfl,?_⟩
     refine ⟨fun σ' H'=>∃ nm' pl':Str,nm'.length≤700∧pl'.length≤700∧σ'=[some (.ref l),some (.ref t),some (.ref l2),some (.ref l3),some (.int at_),some (.int dd),some (.str sg),some (.int (j:Int)),some (.str nm'),some (.str pl'),some vg,some vh,some vc]∧Same H3 H',?_,?_⟩
     ·have w:=D.sw r hr
      refine ⟨_,rfl,rfl,_,rfl,ifV (fun _=>?_) (fun n0=>?_)⟩
      ·exact ⟨_,rfl,r.nm,sg,w.l1,lsg,rfl,fun _ _ e=>e⟩
      refine ⟨_,rfl,rfl,_,rfl,ifV (fun e1=>?_) (fun n1=>ifN ?_)⟩
      ·have td3:=D.td.mono (s2.trans s3)
       refine ⟨_,rfl,t,_,_,_,rfl,rfl,SqT.of td3.ht,rfl,by show 0≤sizeLine;decide,fun p6 np6=>?_⟩
       have s6:=same_upd (o:=.lst []) np6
       have hp6:upd H3 p6 (.lst []) p6=some (.lst []):=upd_same
       generalize upd H3 p6 (.lst [])=H6 at s6 hp6 ⊢
       have td6:=td3.mono s6
       refine ⟨lw,p6,tw,rfl,rfl,SqL.of td6.hw,SqL.of hp6,_,rfl,ifC (fun hw=>?_) (fun hw=>?_)⟩
       ·have wpos:0<tw.length:=by
         cases tw with
         | nil=>cases hw
         | cons x y=>exact Nat.succ_pos _
        obtain ⟨g0,g1'⟩:=emod_in (cellA ns (at_+1)) (show (0:Int)<(tw.length:Int) by omega)
        obtain ⟨i,hi⟩:∃ i:Nat,cellA ns (at_+1) % (tw.length:Int)=(i:Int):=⟨_,(Int.toNat_of_nonneg g0).symm⟩
        have il:i<tw.length:=by omega
        obtain ⟨v7,hv7⟩:∃ v,tw[i]?=some v:=⟨_,List.getElem?_eq_getElem il⟩
        obtain ⟨r7,er7,p7,vg7,vh7,vc7,rfl,hp7,_⟩:=td6.rw.get hv7
        refine ⟨_,rfl,t,_,_,_,rfl,rfl,SqT.of td6.ht,rfl,_,rfl,_,rfl,_,_,rfl,rfl,l,ns,at_+1,rfl,(s2.trans (s3.trans s6)).seq D.hS,by omega,?_⟩
        refine ⟨_,rfl,t,_,_,_,rfl,rfl,SqT.of td6.ht,rfl,lw,tw,rfl,.inl (SqL.of td6.hw),_,_,rfl,rfl,by show (0:Int)<(tw.length:Int);omega,lw,tw,_,_,rfl,rfl,SqL.of td6.hw,by rw [hi];exact atI_nat hv7,p7,_,_,_,rfl,rfl,SqT.of hp7,rfl,r7.nm,r.pl,D.lr r7 (List.mem_of_getElem? er7),w.l2,rfl,s6⟩
       ·exact ⟨_,rfl,rfl,_,rfl,ifV (fun e=>by omega) (fun _=>⟨r.nm,r.pl,w.l1,w.l2,rfl,s6⟩)⟩
      refine ⟨_,rfl,rfl,_,rfl,ifV (fun _=>?_) (fun _=>⟨r.nm,r.pl,w.l1,w.l2,rfl,fun _ _ e=>e⟩)⟩
      obtain ⟨v0,hv0⟩:∃ v,ts[0]?=some v:=⟨_,List.getElem?_eq_getElem lpos⟩
      obtain ⟨r0,er0,p0,vg0,vh0,vc0,rfl,hp0,_⟩:=rS3.get hv0
      exact ⟨_,rfl,l2,ts,_,_,rfl,rfl,SqL.of hl23,atI_nat (j:=0) hv0,p0,_,_,_,rfl,rfl,SqT.of hp0,rfl,r0.nm,r.pl,(D.sw r0 (List.mem_of_getElem? er0)).l1,w.l2,rfl,fun _ _ e=>e⟩
     rintro σ' H4 ⟨nm',pl',ln,lpl,rfl,s4'⟩
     refine ⟨_,rfl,_,rfl,_,rfl,_,rfl,_,rfl,by show 5≤sizeLine;decide,fun q nq=>?_⟩
     have s5:=s4'.trans (same_upd (o:=.tup [.str nm',.str pl',vg,vh,vc]) nq)
     have hq:upd H4 q (.tup [.str nm',.str pl',vg,vh,vc]) q=some (.tup [.str nm',.str pl',vg,vh,vc]):=upd_same
     generalize upd H4 q (.tup [.str nm',.str pl',vg,vh,vc])=H5 at s5 hq ⊢
     have hl25:=s5 _ _ hl23
     have s35:=s3.trans s5
     refine ⟨_,rfl,_,rfl,l2,ts,_,j,rfl,rfl,hl25,ixN_n4 hj,?_⟩
     have ko:KeepO H5 (upd H5 l2 (.lst (ts.set j (.ref q)))):=.lst hl25
     refine ⟨_,_,_,_,_,_,l3,ss.set j ⟨nm',pl',r.gain,r.hi,r.co⟩,ws,ts.set j (.ref q),t3,rfl,same_put nl2 (s2.trans s35),⟨upd_same,RowAt.set (rS3.mono fun v x z=>(z.mono s5).ko ko) j ⟨q,vg,vh,vc,rfl,ko.tup _ _ hq,(dg.mono s5).ko ko,(dh.mono s5).ko ko,(dc.mono s5).ko ko⟩,by rw [upd_ne n32];exact s35 _ _ hl3,rQ.mono fun v x z=>(z.mono s35).lst hl25,fun x hx=>?_,fun x hx=>(D.pw x hx).more (by omega),List.length_set,by omega⟩⟩
     rcases List.mem_or_eq_of_mem_set hx with z | z
     ·exact D.sw x z
     ·rw [z]
      exact (D.sw r hr).put ln lpl
    ·refine ⟨_,rfl,rfl,_,rfl,ifV (fun e=>by omega) (fun _=>ifN ?_)⟩
     exact ⟨_,rfl,rfl,_,rfl,ifV (fun e=>by omega) (fun _=>none_ _ s3)⟩
   ·refine ⟨_,rfl,rfl,_,rfl,ifV (fun e3=>?_) (fun n3=>ifN ?_)⟩
    ·refine ⟨_,rfl,by show 0≤sizeLine;decide,fun p np=>?_⟩
     have s3:=same_upd (o:=.lst []) np
     have hp:upd H2 p (.lst []) p=some (.lst []):=upd_same
     generalize upd H2 p (.lst [])=H3 at s3 hp ⊢
     refine ⟨l3,p,t3,rfl,rfl,SqL.of (s3 _ _ hl3),SqL.of hp,_,rfl,ifC (fun he=>?_) (fun he=>?_)⟩
     ·have lpos:0<t3.length:=by
       cases t3 with
       | nil=>cases he
       | cons x y=>exact Nat.succ_pos _
      refine ⟨by show 2≤sizeLine;decide,fun q nq=>?_⟩
      have s4':=s3.trans (same_upd (o:=.tup [.int 1,.int 1]) nq)
      have hq:upd H3 q (.tup [.int 1,.int 1]) q=some (.tup [.int 1,.int 1]):=upd_same
      generalize upd H3 q (.tup [.int 1,.int 1])=H4 at s4' hq ⊢
      obtain ⟨g0,g1'⟩:=emod_in (cellA ns (at_+2)) (show (0:Int)<(t3.length:Int) by omega)
      obtain ⟨j,hj⟩:∃ j:Nat,cellA ns (at_+2) % (t3.length:Int)=(j:Int):=⟨_,(Int.toNat_of_nonneg g0).symm⟩
      have jl:j<t3.length:=by omega
      obtain ⟨v,hv⟩:∃ v,t3[j]?=some v:=⟨_,List.getElem?_eq_getElem jl⟩
      have rQ4:=rQ.mono fun v x z=>DcpIs.mono z s4'
      obtain ⟨r,er,d,kvs,rfl,hdd,tb,nk⟩:=rQ4.get hv
      have hr:=List.mem_of_getElem? er
      have lk:kvs.length≤900:=by rw [tb.len];have:=(D.pw r hr).len;have:=D.m11;omega
      refine ⟨_,rfl,_,rfl,_,rfl,_,_,rfl,rfl,l,ns,at_+2,rfl,(s2.trans s4').seq D.hS,by omega,?_⟩
      refine ⟨_,rfl,l3,t3,rfl,.inl (SqL.of (s4' _ _ hl3)),_,_,rfl,rfl,by show (0:Int)<(t3.length:Int);omega,l3,t3,_,_,rfl,rfl,SqL.of (s4' _ _ hl3),by rw [hj];exact atI_nat hv,_,rfl,d,_,rfl,DPut.k (k:=Sum.inr sg) hdd (small1000 (by omega)),?_⟩
      have ko:KeepO H4 (upd H4 d (.dK (putK kvs (Sum.inr sg) (.ref q)))):=.dct hdd
      refine ⟨_,_,_,_,_,_,l3,ss,_,ts,t3,rfl,same_put (new3 d (List.mem_of_getElem? hv)) (s2.trans s4'),⟨?_,rS2.mono fun v x z=>(z.mono s4').ko ko,?_,DcpIs.put rQ4 nd3 hv hdd tb nk hq,D.sw,fun x hx=>?_,rfl,by rw [List.length_set];omega⟩⟩
      ·rw [upd_ne (ne_of (s4' _ _ hl2) hdd (by intro z;cases z))]
       exact s4' _ _ hl2
      ·rw [upd_ne (ne_of (s4' _ _ hl3) hdd (by intro z;cases z))]
       exact s4' _ _ hl3
      ·rcases List.mem_or_eq_of_mem_set hx with z | z
       ·exact (D.pw x z).more (by omega)
       ·rw [z]
        exact (D.pw r hr).put lsg
     ·exact ⟨_,rfl,rfl,_,rfl,ifV (fun e=>by omega) (fun _=>none_ _ s3)⟩
    ·refine ⟨_,rfl,rfl,_,rfl,ifV (fun e4=>?_) (fun _=>none_ _ fun _ _ e=>e)⟩
     refine ⟨_,rfl,fun ds H3 ld hds s3=>⟨by rw [List.length_map,ld];decide,fun p np=>?_⟩⟩
     have s4':Same H2 _:=Same.trans s3 (same_upd (o:=.lst (ds.map V.ref)) np)
     have s4i:=same_upd (o:=.lst (ds.map V.ref)) np
     have hp:upd H3 p (.lst (ds.map V.ref)) p=some (.lst (ds.map V.ref)):=upd_same
     generalize upd H3 p (.lst (ds.map V.ref))=H4 at s4' s4i hp ⊢
     refine ⟨l3,p,t3,_,rfl,rfl,s4' _ _ hl3,hp,by rw [List.length_map,ld,lt3];exact Nat.le_of_lt (small1000 (by omega)),fun q nq=>?_⟩
     have s5:=same_upd (o:=.lst (t3++ds.map V.ref)) nq
     have s45:=s4'.trans s5
     refine ⟨_,_,_,_,_,_,q,ss,ws++List.replicate 13 ([],fun _=>(0,1)),ts,t3++ds.map V.ref,rfl,s2.trans s45,⟨s45 _ _ hl2,rS2.mono fun v x z=>z.mono s45,upd_same,RowAt.app (rQ.mono fun v x z=>z.mono s45) ⟨by rw [List.length_map,ld,List.length_replicate],fun i u y h1 h2=>?_⟩,D.sw,fun x hx=>?_,rfl,by rw [List.length_append,List.length_replicate];omega⟩⟩
     ·obtain ⟨d,hd1,rfl⟩:=List.mem_map.mp (List.mem_of_getElem? h1)
      rw [List.eq_of_mem_replicate (List.mem_of_getElem? h2)]
      exact ⟨d,[],rfl,s5 _ _ (s4i _ _ (hds d hd1).2),Tab.nil,List.nodup_nil⟩
     ·rcases List.mem_append.mp hx with z | z
      ·exact (D.pw x z).more (by omega)
      ·rw [List.eq_of_mem_replicate z]
       exact ⟨fun n h=>absurd h List.not_mem_nil,Nat.zero_le _,fun n h=>absurd h List.not_mem_nil⟩
  rintro σ' H3 ⟨z7,z8,z9,z10,z11,z12,l3',ss',ws',ts',t3',rfl,s3,O⟩
  refine ⟨_,rfl,_,rfl,by show 2≤sizeLine;decide,fun q nq=>?_⟩
  have s4:=same_upd (o:=.tup [.ref l2,.ref l3']) nq
  exact k q l2 l3' _ ss' ws' ts' t3' (s3.trans s4) upd_same ⟨s4 _ _ O.hs,O.rS.mono fun v x z=>z.mono s4,s4 _ _ O.hq,O.rQ.mono fun v x z=>z.mono s4,O.sw,O.pw,O.l1,O.l2⟩
theorem names_l {c:Int} {n:Nat} {x:Str} (h:x∈namesA c n):x.length≤700:=by
 obtain ⟨i,_,rfl⟩:=List.mem_map.mp h
 exact Nat.le_trans (nameA_len _ _) (by decide)
theorem namesS_l {c:Int} {n:Nat} {x:Str} (h:x∈namesS c n):x.length≤700:=by
 obtain ⟨i,_,rfl⟩:=List.mem_map.mp h
 exact Nat.le_trans (nameA_len _ _) (by decide)
structure Bt (i:Int):Prop where
 le:Builtin.Int.intBits i≤2 ^ 20
structure Drw (a:Ad) (K:PySem.W.Frag) (H:Hp) (l p t lp lw ls lq:Addr) (ns:List Int) (es:List Ent) (rs:List W7) (ss:List S5) (ws:List PRow) (tp tw ts tq:List V):Prop where
 hS:SqL K H l (ns.map V.int)
 net:NetAt a H p (psT es) (dsT rs)
 td:Told H t lp lw tp tw es rs
 hs:H ls=some (.lst ts)
 rS:RowAt S5Is H ts ss
 hq:H lq=some (.lst tq)
 rQ:RowAt DcpIs H tq ws
 t64:T64 es rs
 sw:∀ r∈ss,S5W r
 pw:∀ r∈ws,PRW r 12
 ls4:ss.length≤4
 lw3:ws.length≤3
theorem Drw.mono {a:Ad} {K:PySem.W.Frag} {H H':Hp} {l p t lp lw ls lq:Addr} {ns:List Int} {es:List Ent} {rs:List W7} {ss:List S5} {ws:List PRow} {tp tw ts tq:List V} (h:Drw a K H l p t lp lw ls lq ns es rs ss ws tp tw ts tq) (s:Same H H'):Drw a K H' l p t lp lw ls lq ns es rs ss ws tp tw ts tq:=⟨s.seq h.hS,h.net.mono s,h.td.mono s,s _ _ h.hs,h.rS.mono fun _ _ z=>z.mono s,s _ _ h.hq,h.rQ.mono fun _ _ z=>z.mono s,h.t64,h.sw,h.pw,h.ls4,h.lw3⟩
theorem Drw.ask {a:Ad} {K:PySem.W.Frag} {H:Hp} {l p t lp lw ls lq:Addr} {ns:List Int} {es:List Ent} {rs:List W7} {ss:List S5} {ws:List PRow} {tp tw ts tq:List V} (h:Drw a K H l p t lp lw ls lq ns es rs ss ws tp tw ts tq):Ask K a H p t lp lw ls lq es rs ss ws tp tw ts tq:=⟨h.net,h.td,h.hs,h.rS,h.hq,h.rQ,h.t64,h.sw,fun r hr=>(h.pw r hr).more (by decide),h.ls4,by have:=h.lw3;omega⟩
inductive IspLaw (K:PySem.W.Frag) (vs:List V) (H:Hp) (Q:VK):Prop
 | mk (l:Addr) (ns:List Int) (h1:vs=[.ref l]) (h2:SqL K H l (ns.map V.int)) (h3:ns.length≤63) (h4:(∀ i∈ns,Bt i)) (h5:∀ H',Q (.bl true) H'):IspLaw K vs H Q
def spLaw (K:PySem.W.Frag):Sp:=fun vs H Q _=>IspLaw K vs H Q
theorem ok_law {f:Addr} {fd:FuncData} (N:Fun K "law" "law" s_law f fd) (T:TX K mg a):FnOk P w K mg base CX0 14 f fd ["_law_script"] (spLaw K):=by
 refine N.ok sc_law (fun vs H Q E h=>?_) (fun cdv A outer s₀ H vs Q E hr h=>?_)
 ·obtain ⟨l,ns,rfl,_⟩:=h
  rfl
 ·obtain ⟨l,ns,rfl,hS,hlen,hbt,k⟩:=h
  refine ⟨_,(pss_cons (ps_set (i:=1) sc_law.nd rfl (Or.inl rfl) (pe_op op_add pe_int (pe_op op_mod (pe_fn (ok_law_cell_at T) hr pass0 (pa_cons (pv 0) (pa_cons pe_int pa_nil))) pe_int)))
   (pss_cons (ps_set (i:=2) sc_law.nd rfl (Or.inl rfl) pe_int)
   (pss_cut (ps_if (pt_cmpR op_gt (pv 1) pe_int (nomark _)) (pss_one (ps_set (i:=2) sc_law.nd rfl (Or.inl rfl) (pe_op op_mod (pe_op op_fdiv (pe_fn (ok_law_cell_at T) hr pass0 (pa_cons (pv 0) (pa_cons pe_int pa_nil))) pe_int) (pe_op op_add (pv 1) pe_int)))) pss_nil)
   (pss_cons (ps_set (i:=3) sc_law.nd rfl (Or.inl rfl) (pe_fn (ok_law_net T) hr pass0 (pa_cons (pv 0) (pa_cons (pv 1) (pa_cons (pv 2) pa_nil)))))
   (pss_cons (ps_set (i:=4) sc_law.nd rfl (Or.inl rfl) (pe_fn (ok_law_stores T) hr pass0 (pa_cons (pv 0) (pa_cons pe_int (pa_cons (pe_ix ix_tup (pv 3) pe_int (fun _ _=>rfl)) (pa_cons (pe_op op_mod (pe_op op_fdiv (pe_fn (ok_law_cell_at T) hr pass0 (pa_cons (pv 0) (pa_cons pe_int pa_nil))) pe_int) pe_int) pa_nil))))))
   (pss_cons (ps_set (i:=5) sc_law.nd rfl (Or.inl rfl) (pe_fn (ok_law_wants T) hr pass0 (pa_cons (pv 0) (pa_cons pe_int (pa_cons (pe_ix ix_tup (pv 3) pe_int (fun _ _=>rfl)) (pa_cons (pe_op op_mod (pe_op op_fdiv (pe_fn (ok_law_cell_at T) hr pass0 (pa_cons (pv 0) (pa_cons pe_int pa_nil))) pe_int) pe_int) pa_nil))))))
   (pss_cut (ps_set (i:=6) sc_law.nd rfl (Or.inl rfl) (pe_fn (ok_law_built T) hr pass0 (pa_cons (pv 3) pa_nil)))
   (pss_cut (ps_asg (pe_fn (ok_law_faulty T) hr pass0 (pa_cons (pv 0) (pa_cons (pv 3) (pa_cons (pv 4) (pa_cons (pv 5) (pa_cons pe_int pa_nil)))))) (pg_tup (n:=2) rfl (pgs_cons (pg_name (i:=7) sc_law.nd rfl (Or.inl rfl)) (pgs_cons (pg_name (i:=8) sc_law.nd rfl (Or.inl rfl)) pgs_nil))))
   (pss_cut (ps_asg (pe_fn (ok_law_faulty T) hr pass0 (pa_cons (pv 0) (pa_cons (pv 3) (pa_cons (pv 7) (pa_cons (pv 8) (pa_cons pe_int pa_nil)))))) (pg_tup (n:=2) rfl (pgs_cons (pg_name (i:=7) sc_law.nd rfl (Or.inl rfl)) (pgs_cons (pg_name (i:=8) sc_law.nd rfl (Or.inl rfl)) pgs_nil))))
   (pss_cut (ps_set (i:=9) sc_law.nd rfl (Or.inl rfl) (pe_cmpR op_eq (pe_op op_mod (pe_fn (ok_law_cell_at T) hr pass0 (pa_cons (pv 0) (pa_cons pe_int pa_nil))) pe_int) pe_int (nomark _)))
   (pss_cut (ps_if (pt_not (pt_val (pe_fn (ok_law_asked T) hr pass0 (pa_cons (pv 6) (pa_cons (pv 3) (pa_cons (pv 7) (pa_cons (pv 8) (pa_cons (pv 9) pa_nil)))))))) (pss_one (ps_ret pe_bl)) pss_nil)
   (pss_one (ps_ret (pe_and (pe_fn (ok_law_asked T) hr pass0 (pa_cons (pv 6) (pa_cons (pv 3) (pa_cons (pv 4) (pa_cons (pv 5) (pa_cons (pe_not (pv 9)) pa_nil)))))) (pe_one (pe_fn (ok_law_asked T) hr pass0 (pa_cons (pv 6) (pa_cons (pv 3) (pa_cons (pv 4) (pa_cons (pv 5) (pa_cons (pv 9) pa_nil))))))))))))))))))))),?_⟩
  try dsimp only [cxOf,Cx.nox,Cx.wish]
  obtain ⟨n0,n1⟩:=emod_in (cellA ns 0) (show (0:Int)<4 by decide)
  obtain ⟨n,hn⟩:∃ n:Nat,1+cellA ns 0 % 4=(n:Int):=Int.eq_ofNat_of_zero_le (by omega)
  refine ⟨_,rfl,l,ns,0,rfl,hS,by decide,_,_,rfl,rfl,by show (0:Int)<4;decide,_,_,rfl,rfl,?_⟩
  refine ⟨fun σ' H'=>∃ m:Nat,σ'=[some (.ref l),some (.int n),some (.int m),none,none,none,none,none,none,none]∧H'=H∧m≤n∧(n<2→m=0),?_,?_⟩
  ·dsimp only
   rw [hn]
   refine ⟨_,rfl,_,_,rfl,rfl,_,rfl,ifB (fun h1=>?_) (fun h1=>?_)⟩
   ·refine ⟨_,rfl,l,ns,0,rfl,hS,by decide,_,_,rfl,rfl,⟨by decide,by decide⟩,_,rfl,_,_,rfl,rfl,_,_,rfl,rfl,by show (0:Int)<(n:Int)+1;omega,?_⟩
    obtain ⟨z0,z1⟩:=emod_in (cellA ns 0 / 4) (show (0:Int)<(n:Int)+1 by omega)
    obtain ⟨m,hm⟩:=Int.eq_ofNat_of_zero_le z0
    refine ⟨m,?_,rfl,by omega,fun h=>?_⟩
    ·rw [← hm]
     rfl
    ·have:(n:Int) > 1:=h1
     omega
   ·exact ⟨0,rfl,rfl,by omega,fun _=>rfl⟩
  rintro σ' H' ⟨m,rfl,eH,mn,m0⟩
  rw [eH]
  clear eH
  refine ⟨_,rfl,_,rfl,_,rfl,l,ns,n,m,rfl,hS,by omega,by omega,fun h=>m0 h,fun t lp lw tp tw es rs H1 s1 h1 h2 h3 h4 h5 le en eok lr rn rok=>?_⟩
  have td:Told H1 t lp lw tp tw es rs:=⟨h1,h2,h3,h4,h5⟩
  have hS1:=s1.seq hS
  have ndE:(es.map (·.1)).Nodup:=by rw [en];exact namesA_nd (by omega)
  have tok:TOk es rs:=⟨by omega,by omega,ndE,by rw [rn];exact namesA_nd (by omega),eok,rok⟩
  have t64:T64 es rs:=⟨tok,by omega,by omega,by omega,fun x hx=>names_l (by rw [← en];exact hx),fun r hr=>names_l (by rw [← rn];exact List.mem_map_of_mem hr)⟩
  refine ⟨_,rfl,_,rfl,t,_,_,_,rfl,rfl,SqT.of h1,rfl,?_⟩
  obtain ⟨z0,z1⟩:=emod_in (cellA ns 0 / 20) (show (0:Int)<4 by decide)
  obtain ⟨c,hc⟩:=Int.eq_ofNat_of_zero_le z0
  refine ⟨_,rfl,l,ns,0,rfl,hS1,by decide,_,_,rfl,rfl,⟨by decide,by decide⟩,_,_,rfl,rfl,by show (0:Int)<4;decide,?_⟩
  have vs4:([V.ref l,V.int 24,V.ref lp,V.int (cellA ns 0 / 20 % 4)]:List V)=[V.ref l,V.int ((24:Nat):Int),V.ref lp,V.int (c:Int)]:=by rw [hc];rfl
  refine ⟨l,lp,ns,24,c,tp,es,vs4,hS1,by decide,by omega,SqL.of h2,h4,by omega,by omega,fun ls H2 ts ss nls s2 hls rS lss sn sok=>?_⟩
  have td2:=td.mono s2
  have hS2:=s2.seq hS1
  obtain ⟨y0,y1⟩:=emod_in (cellA ns 0 / 80) (show (0:Int)<4 by decide)
  obtain ⟨tn,htn⟩:=Int.eq_ofNat_of_zero_le y0
  refine ⟨_,rfl,_,rfl,t,_,_,_,rfl,rfl,SqT.of td2.ht,rfl,_,rfl,l,ns,0,rfl,hS2,by decide,_,_,rfl,rfl,⟨by decide,by decide⟩,_,_,rfl,rfl,by show (0:Int)<4;decide,?_⟩
  have vs5:([V.ref l,V.int 37,V.ref lp,V.int (cellA ns 0 / 80 % 4)]:List V)=[V.ref l,V.int ((37:Nat):Int),V.ref lp,V.int (tn:Int)]:=by rw [htn];rfl
  refine ⟨l,lp,ns,37,tn,tp,es,vs5,hS2,by decide,by omega,SqL.of td2.hp,td2.rp,by omega,ndE,fun lq H3 tq ws nlq s3 hlq rq lws wok=>?_⟩
  have td3:=td2.mono s3
  refine ⟨fun σ' H'=>∃ p,σ'=[some (.ref l),some (.int n),some (.int m),some (.ref t),some (.ref ls),some (.ref lq),some (.ref p),none,none,none]∧Drw a K H' l p t lp lw ls lq ns es rs ss ws tp tw ts tq,?_,?_⟩
  ·refine ⟨_,rfl,t,lp,lw,tp,tw,es,rs,rfl,td3,tok,fun p H4 s4 hn4=>⟨p,rfl,?_⟩⟩
   refine ⟨s4.seq (s3.seq hS2),(let ⟨dx,dw,dy,g1,g2,g3,_,_⟩:=hn4;⟨dx,dw,dy,g1,g2,g3⟩),td3.mono s4,s4 _ _ (s3 _ _ hls),rS.mono fun _ _ z=>z.mono (s3.trans s4),s4 _ _ hlq,rq.mono fun _ _ z=>z.mono s4,t64,fun r hr=>?_,fun r hr=>?_,by omega,by omega⟩
   ·have o:=sok r hr
    exact ⟨⟨List.mem_singleton.mpr rfl,o.g1,o.g2,o.hi,o.co⟩,namesS_l (by rw [← sn];exact List.mem_map_of_mem hr),t64.le _ o.pl⟩
   ·have o:=wok r hr
    exact ⟨o.ok,o.len,fun x hx=>t64.le _ (o.sub x hx)⟩
  clear hS hS1 hS2 td td2 td3 h1 h2 h3 h4 h5 s1 s2 s3 hls rS hlq rq
  rintro σ' H5 ⟨p,rfl,D⟩
  refine ⟨fun σ' H'=>∃ lo lr ss' ws' ts' tq',σ'=[some (.ref l),some (.int n),some (.int m),some (.ref t),some (.ref ls),some (.ref lq),some (.ref p),some (.ref lo),some (.ref lr),none]∧Drw a K H' l p t lp lw ls lq ns es rs ss ws tp tw ts tq∧FOut H' lo lr ss' ws' ts' tq' 12 ss.length ws.length,?_,?_⟩
  ·refine ⟨_,rfl,_,rfl,_,rfl,_,rfl,l,t,lp,lw,ls,lq,ns,50,es,rs,ss,ws,tp,tw,ts,tq,12,rfl,by decide,⟨D.hS,D.td,D.hs,D.rS,D.hq,D.rQ,D.sw,D.pw,D.t64.lr,D.t64.r4,D.ls4,by have:=D.lw3;omega,by decide⟩,fun q lo lr H6 ss' ws' ts' tq' s6 hq O=>?_⟩
   exact ⟨q,_,rfl,SqT.of hq,rfl,_,_,rfl,_,_,rfl,rfl,lo,lr,ss',ws',ts',tq',rfl,D.mono s6,O⟩
  rintro σ' H6 ⟨lo,lr',ss',ws',ts',tq',rfl,D6,O⟩
  refine ⟨fun σ' H'=>∃ lo lr ss' ws' ts' tq',σ'=[some (.ref l),some (.int n),some (.int m),some (.ref t),some (.ref ls),some (.ref lq),some (.ref p),some (.ref lo),some (.ref lr),none]∧Drw a K H' l p t lp lw ls lq ns es rs ss ws tp tw ts tq∧Ask K a H' p t lp lw lo lr es rs ss' ws' tp tw ts' tq',?_,?_⟩
  ·have l4:=D6.ls4
   have l3:=D6.lw3
   have o1:=O.l1
   have o2:=O.l2
   refine ⟨_,rfl,_,rfl,_,rfl,_,rfl,l,t,lp,lw,lo,lr',ns,53,es,rs,ss',ws',tp,tw,ts',tq',13,rfl,by decide,⟨D6.hS,D6.td,O.hs,O.rS,O.hq,O.rQ,O.sw,O.pw,D6.t64.lr,D6.t64.r4,by omega,by omega,by decide⟩,fun q lo2 lr2 H7 ss2 ws2 ts2 tq2 s7 hq O2=>?_⟩
   have D7:=D6.mono s7
   have o3:=O2.l1
   have o4:=O2.l2
   exact ⟨q,_,rfl,SqT.of hq,rfl,_,_,rfl,_,_,rfl,rfl,lo2,lr2,ss2,ws2,ts2,tq2,rfl,D7,⟨D7.net,D7.td,O2.hs,O2.rS,O2.hq,O2.rQ,D7.t64,O2.sw,O2.pw,by omega,by omega⟩⟩
  rintro σ' H7 ⟨lo2,lr2,ss2,ws2,ts2,tq2,rfl,D7,A7⟩
  refine ⟨fun σ' H'=>∃ pb,σ'=[some (.ref l),some (.int n),some (.int m),some (.ref t),some (.ref ls),some (.ref lq),some (.ref p),some (.ref lo2),some (.ref lr2),some (.bl pb)]∧H'=H7,?_,?_⟩
  ·exact ⟨_,rfl,l,ns,56,rfl,D7.hS,by decide,_,_,rfl,rfl,by show (0:Int)<2;decide,rfl,_,rfl,rfl⟩
  rintro σ' H' ⟨pb,rfl,eH⟩
  rw [eH]
  clear eH
  refine ⟨fun σ' H'=>σ'=[some (.ref l),some (.int n),some (.int m),some (.ref t),some (.ref ls),some (.ref lq),some (.ref p),some (.ref lo2),some (.ref lr2),some (.bl pb)]∧Same H7 H',?_,?_⟩
  ·exact ⟨_,rfl,_,rfl,_,rfl,_,rfl,_,rfl,p,t,lp,lw,lo2,lr2,pb,es,rs,ss2,ws2,tp,tw,ts2,tq2,rfl,A7,fun H8 s8=>⟨_,rfl,ifN ⟨rfl,s8⟩⟩⟩
  rintro σ' H8 ⟨rfl,s8⟩
  exact ⟨_,rfl,_,rfl,_,rfl,_,rfl,_,rfl,_,rfl,p,t,lp,lw,ls,lq,!pb,es,rs,ss,ws,tp,tw,ts,tq,rfl,(D7.mono s8).ask,fun H9 s9=>⟨_,rfl,ifC (fun _=>⟨_,rfl,_,rfl,_,rfl,_,rfl,_,rfl,p,t,lp,lw,ls,lq,pb,es,rs,ss,ws,tp,tw,ts,tq,rfl,(D7.mono (s8.trans s9)).ask,fun H10 _=>k H10⟩) (fun z=>by cases z)⟩⟩
end
end G
namespace G
open PySem L2
theorem lm1 {α:Type}:∀ us:List α,us.length=1→∃ a,us=[a]
 | [a],_=>⟨a,rfl⟩
theorem lm2 {α:Type}:∀ us:List α,us.length=2→∃ a b,us=[a,b]
 | [a,b],_=>⟨a,b,rfl⟩
theorem lm3 {α:Type}:∀ us:List α,us.length=3→∃ a b c,us=[a,b,c]
 | [a,b,c],_=>⟨a,b,c,rfl⟩
theorem lm4 {α:Type}:∀ us:List α,us.length=4→∃ a b c d,us=[a,b,c,d]
 | [a,b,c,d],_=>⟨a,b,c,d,rfl⟩
theorem lm5 {α:Type}:∀ us:List α,us.length=5→∃ a b c d e,us=[a,b,c,d,e]
 | [a,b,c,d,e],_=>⟨a,b,c,d,e,rfl⟩
theorem lm6 {α:Type}:∀ us:List α,us.length=6→∃ a b c d e f,us=[a,b,c,d,e,f]
 | [a,b,c,d,e,f],_=>⟨a,b,c,d,e,f,rfl⟩
theorem lm7 {α:Type}:∀ us:List α,us.length=7→∃ a b c d e f g,us=[a,b,c,d,e,f,g]
 | [a,b,c,d,e,f,g],_=>⟨a,b,c,d,e,f,g,rfl⟩
theorem all_mk {l:W.OpenLaw} {w:World} {K:W.Frag} {h:Heap} {mg:Str→Option Value} {fa A_Fraction A_Way A_Growing A_Leaking A_Store A_Net A_GainError A_NoNumber A_TooMany A_NoWay A_Twice A_NoPlace:Addr} (X:K.In h) (G:h.Ns mainGlobals mg) (hfa:mg "law"=some (.ref fa))
  {fQ0 fQ1 fQ2 fQ3 fQ4 fQ5 fQ6 fQ7 fQ8 fQ9 fQ10 fQ11 fQ12 fQ13 fQ14 fQ15 fQ16 fQ17 fQ18 fQ19 fQ20 fQ21 fQ22 fQ23 fQ24 fQ25 fQ26 fQ27 fQ28 fQ29 fQ30 fQ31 fQ32 fQ33 fQ34 fQ35 fQ36 fDlaw fIFraction TIFraction fQ37 fQ38 fQ39 fQ40 fQ41 fIWay TIWay fQ42 fQ43 fQ44 fQ45 fIGrowing TIGrowing fQ46 fQ47 fILeaking TILeaking fQ48 fQ49 fIStore TIStore fQ50 fQ51 fQ52 fQ53 fQ54 fQ55 fQ56 fQ57 fQ58:Addr}
  {odQ0 anQ0 odQ1 anQ1 odQ2 anQ2 odQ3 anQ3 odQ4 anQ4 odQ5 anQ5 odQ6 anQ6 odQ7 anQ7 odQ8 anQ8 odQ9 anQ9 odQ10 anQ10 odQ11 anQ11 odQ12 anQ12 odQ13 anQ13 odQ14 anQ14 odQ15 anQ15 odQ16 anQ16 odQ17 anQ17 odQ18 anQ18 odQ19 anQ19 odQ20 anQ20 odQ21 anQ21 odQ22 anQ22 odQ23 anQ23 odQ24 anQ24 odQ25 anQ25 odQ26 anQ26 odQ27 anQ27 odQ28 anQ28 odQ29 anQ29 odQ30 anQ30 odQ31 anQ31 odQ32 anQ32 odQ33 anQ33 odQ34 anQ34 odQ35 anQ35 odQ36 anQ36 odDlaw anDlaw odIFraction anIFraction odQ37 anQ37 odQ38 anQ38 odQ39 anQ39 odQ40 anQ40 odQ41 anQ41 odIWay anIWay odQ42 anQ42 odQ43 anQ43 odQ44 anQ44 odQ45 anQ45 odIGrowing anIGrowing odQ46 anQ46 odQ47 anQ47 odILeaking anILeaking odQ48 anQ48 odQ49 anQ49 odIStore anIStore odQ50 anQ50 odQ51 anQ51 odQ52 anQ52 odQ53 anQ53 odQ54 anQ54 odQ55 anQ55 odQ56 anQ56 odQ57 anQ57 odQ58 anQ58:Option Addr}
  {slQ0 slQ1 slQ2 slQ3 slQ4 slQ5 slQ6 slQ7 slQ8 slQ9 slQ10 slQ11 slQ12 slQ13 slQ14 slQ15 slQ16 slQ17 slQ18 slQ19 slQ20 slQ21 slQ22 slQ23 slQ24 slQ25 slQ26 slQ27 slQ28 slQ29 slQ30 slQ31 slQ32 slQ33 slQ34 slQ35 slQ36 slDlaw slIFraction slQ37 slQ38 slQ39 slQ40 slQ41 slIWay slQ42 slQ43 slQ44 slQ45 slIGrowing slQ46 slQ47 slILeaking slQ48 slQ49 slIStore slQ50 slQ51 slQ52 slQ53 slQ54 slQ55 slQ56 slQ57 slQ58:Array (Option Value)}
  {ocQ0 kVQ0 dcQ0 pmQ0 cdQ0 ctQ0 ocQ1 kVQ1 dcQ1 pmQ1 cdQ1 ctQ1 ocQ2 kVQ2 dcQ2 pmQ2 cdQ2 ctQ2 ocQ3 kVQ3 dcQ3 pmQ3 cdQ3 ctQ3 ocQ4 kVQ4 dcQ4 pmQ4 cdQ4 ctQ4 ocQ5 kVQ5 dcQ5 pmQ5 cdQ5 ctQ5 ocQ6 kVQ6 dcQ6 pmQ6 cdQ6 ctQ6 ocQ7 kVQ7 dcQ7 pmQ7 cdQ7 ctQ7 ocQ8 kVQ8 dcQ8 pmQ8 cdQ8 ctQ8 ocQ9 kVQ9 dcQ9 pmQ9 cdQ9 ctQ9 ocQ10 kVQ10 dcQ10 pmQ10 cdQ10 ctQ10 ocQ11 kVQ11 dcQ11 pmQ11 cdQ11 ctQ11 ocQ12 kVQ12 dcQ12 pmQ12 cdQ12 ctQ12 ocQ13 kVQ13 dcQ13 pmQ13 cdQ13 ctQ13 ocQ14 kVQ14 dcQ14 pmQ14 cdQ14 ctQ14 ocQ15 kVQ15 dcQ15 pmQ15 cdQ15 ctQ15 ocQ16 kVQ16 dcQ16 pmQ16 cdQ16 ctQ16 ocQ17 kVQ17 dcQ17 pmQ17 cdQ17 ctQ17 ocQ18 kVQ18 dcQ18 pmQ18 cdQ18 ctQ18 ocQ19 kVQ19 dcQ19 pmQ19 cdQ19 ctQ19 ocQ20 kVQ20 dcQ20 pmQ20 cdQ20 ctQ20 ocQ21 kVQ21 dcQ21 pmQ21 cdQ21 ctQ21 ocQ22 kVQ22 dcQ22 pmQ22 cdQ22 ctQ22 ocQ23 kVQ23 dcQ23 pmQ23 cdQ23 ctQ23 ocQ24 kVQ24 dcQ24 pmQ24 cdQ24 ctQ24 ocQ25 kVQ25 dcQ25 pmQ25 cdQ25 ctQ25 ocQ26 kVQ26 dcQ26 pmQ26 cdQ26 ctQ26 ocQ27 kVQ27 dcQ27 pmQ27 cdQ27 ctQ27 ocQ28 kVQ28 dcQ28 pmQ28 cdQ28 ctQ28 ocQ29 kVQ29 dcQ29 pmQ29 cdQ29 ctQ29 ocQ30 kVQ30 dcQ30 pmQ30 cdQ30 ctQ30 ocQ31 kVQ31 dcQ31 pmQ31 cdQ31 ctQ31 ocQ32 kVQ32 dcQ32 pmQ32 cdQ32 ctQ32 ocQ33 kVQ33 dcQ33 pmQ33 cdQ33 ctQ33 ocQ34 kVQ34 dcQ34 pmQ34 cdQ34 ctQ34 ocQ35 kVQ35 dcQ35 pmQ35 cdQ35 ctQ35 ocQ36 kVQ36 dcQ36 pmQ36 cdQ36 ctQ36 ocDlaw kVDlaw dcDlaw pmDlaw cdDlaw ctDlaw ocIFraction kVIFraction dcIFraction pmIFraction cdIFraction ctIFraction ocQ37 kVQ37 dcQ37 pmQ37 cdQ37 ctQ37 ocQ38 kVQ38 dcQ38 pmQ38 cdQ38 ctQ38 ocQ39 kVQ39 dcQ39 pmQ39 cdQ39 ctQ39 ocQ40 kVQ40 dcQ40 pmQ40 cdQ40 ctQ40 ocQ41 kVQ41 dcQ41 pmQ41 cdQ41 ctQ41 ocIWay kVIWay dcIWay pmIWay cdIWay ctIWay ocQ42 kVQ42 dcQ42 pmQ42 cdQ42 ctQ42 ocQ43 kVQ43 dcQ43 pmQ43 cdQ43 ctQ43 ocQ44 kVQ44 dcQ44 pmQ44 cdQ44 ctQ44 ocQ45 kVQ45 dcQ45 pmQ45 cdQ45 ctQ45 ocIGrowing kVIGrowing dcIGrowing pmIGrowing cdIGrowing ctIGrowing ocQ46 kVQ46 dcQ46 pmQ46 cdQ46 ctQ46 ocQ47 kVQ47 dcQ47 pmQ47 cdQ47 ctQ47 ocILeaking kVILeaking dcILeaking pmILeaking cdILeaking ctILeaking ocQ48 kVQ48 dcQ48 pmQ48 cdQ48 ctQ48 ocQ49 kVQ49 dcQ49 pmQ49 cdQ49 ctQ49 ocIStore kVIStore dcIStore pmIStore cdIStore ctIStore ocQ50 kVQ50 dcQ50 pmQ50 cdQ50 ctQ50 ocQ51 kVQ51 dcQ51 pmQ51 cdQ51 ctQ51 ocQ52 kVQ52 dcQ52 pmQ52 cdQ52 ctQ52 ocQ53 kVQ53 dcQ53 pmQ53 cdQ53 ctQ53 ocQ54 kVQ54 dcQ54 pmQ54 cdQ54 ctQ54 ocQ55 kVQ55 dcQ55 pmQ55 cdQ55 ctQ55 ocQ56 kVQ56 dcQ56 pmQ56 cdQ56 ctQ56 ocQ57 kVQ57 dcQ57 pmQ57 cdQ57 ctQ57 ocQ58 kVQ58 dcQ58 pmQ58 cdQ58 ctQ58:Value}
  {oIFraction oIWay oIGrowing oILeaking oIStore:Obj}
  {nIFraction nIWay nIGrowing nILeaking nIStore:Nat}
  {tkIFraction0 tk_MOST_PLACES tk_MOST_WAYS:Tok}
  {cdx_Twice cdx_NoPlace cd_ca2_GainError cd_ca2_NoPlace cd_ca2_TooMany cd_ca2_Twice cd_xcl_NoPlace cd_xcl_TooMany cd_xcl_Twice:ClassData}
  (n_Fraction:W.nsIn K mainGlobals "Fraction"=some (some (.ref A_Fraction)))
  (n_Way:W.nsIn K mainGlobals "Way"=some (some (.ref A_Way)))
  (n_Growing:W.nsIn K mainGlobals "Growing"=some (some (.ref A_Growing)))
  (n_Leaking:W.nsIn K mainGlobals "Leaking"=some (some (.ref A_Leaking)))
  (n_Store:W.nsIn K mainGlobals "Store"=some (some (.ref A_Store)))
  (n_Net:W.nsIn K mainGlobals "Net"=some (some (.ref A_Net)))
  (n_GainError:W.nsIn K mainGlobals "GainError"=some (some (.ref A_GainError)))
  (n_NoNumber:W.nsIn K mainGlobals "NoNumber"=some (some (.ref A_NoNumber)))
  (n_TooMany:W.nsIn K mainGlobals "TooMany"=some (some (.ref A_TooMany)))
  (n_NoWay:W.nsIn K mainGlobals "NoWay"=some (some (.ref A_NoWay)))
  (n_Twice:W.nsIn K mainGlobals "Twice"=some (some (.ref A_Twice)))
  (n_NoPlace:W.nsIn K mainGlobals "NoPlace"=some (some (.ref A_NoPlace)))
  (aQ0:W.nsIn K mainGlobals "divisor"=some (some (.ref fQ0)))
  (lQ0:K.lookup fQ0=some ⟨ocQ0,odQ0,.func (W.fnOf "divisor" "divisor" (defArgs s_divisor) (defBody s_divisor) (defScope s_divisor) .none kVQ0 dcQ0 pmQ0 anQ0 cdQ0 ctQ0),slQ0⟩)
  (cQ0:W.codeIn K cdQ0 "divisor"=true)
  (kQ0:W.keepIn K (.ref fQ0)=true)
  (aQ1:W.nsIn K mainGlobals "in_lowest_terms"=some (some (.ref fQ1)))
  (lQ1:K.lookup fQ1=some ⟨ocQ1,odQ1,.func (W.fnOf "in_lowest_terms" "in_lowest_terms" (defArgs s_in_lowest_terms) (defBody s_in_lowest_terms) (defScope s_in_lowest_terms) .none kVQ1 dcQ1 pmQ1 anQ1 cdQ1 ctQ1),slQ1⟩)
  (cQ1:W.codeIn K cdQ1 "in_lowest_terms"=true)
  (kQ1:W.keepIn K (.ref fQ1)=true)
  (aQ2:W.nsIn K mainGlobals "total"=some (some (.ref fQ2)))
  (lQ2:K.lookup fQ2=some ⟨ocQ2,odQ2,.func (W.fnOf "total" "total" (defArgs s_total) (defBody s_total) (defScope s_total) .none kVQ2 dcQ2 pmQ2 anQ2 cdQ2 ctQ2),slQ2⟩)
  (cQ2:W.codeIn K cdQ2 "total"=true)
  (kQ2:W.keepIn K (.ref fQ2)=true)
  (aQ3:W.nsIn K mainGlobals "name_at"=some (some (.ref fQ3)))
  (lQ3:K.lookup fQ3=some ⟨ocQ3,odQ3,.func (W.fnOf "name_at" "name_at" (defArgs s_name_at) (defBody s_name_at) (defScope s_name_at) .none kVQ3 dcQ3 pmQ3 anQ3 cdQ3 ctQ3),slQ3⟩)
  (cQ3:W.codeIn K cdQ3 "name_at"=true)
  (kQ3:W.keepIn K (.ref fQ3)=true)
  (aQ4:W.nsIn K mainGlobals "wants_by_name"=some (some (.ref fQ4)))
  (lQ4:K.lookup fQ4=some ⟨ocQ4,odQ4,.func (W.fnOf "wants_by_name" "wants_by_name" (defArgs s_wants_by_name) (defBody s_wants_by_name) (defScope s_wants_by_name) .none kVQ4 dcQ4 pmQ4 anQ4 cdQ4 ctQ4),slQ4⟩)
  (cQ4:W.codeIn K cdQ4 "wants_by_name"=true)
  (kQ4:W.keepIn K (.ref fQ4)=true)
  (aQ5:W.nsIn K mainGlobals "check_way"=some (some (.ref fQ5)))
  (lQ5:K.lookup fQ5=some ⟨ocQ5,odQ5,.func (W.fnOf "check_way" "check_way" (defArgs s_check_way) (defBody s_check_way) (defScope s_check_way) .none kVQ5 dcQ5 pmQ5 anQ5 cdQ5 ctQ5),slQ5⟩)
  (cQ5:W.codeIn K cdQ5 "check_way"=true)
  (kQ5:W.keepIn K (.ref fQ5)=true)
  (aQ6:W.nsIn K mainGlobals "ways_by_name"=some (some (.ref fQ6)))
  (lQ6:K.lookup fQ6=some ⟨ocQ6,odQ6,.func (W.fnOf "ways_by_name" "ways_by_name" (defArgs s_ways_by_name) (defBody s_ways_by_name) (defScope s_ways_by_name) .none kVQ6 dcQ6 pmQ6 anQ6 cdQ6 ctQ6),slQ6⟩)
  (cQ6:W.codeIn K cdQ6 "ways_by_name"=true)
  (kQ6:W.keepIn K (.ref fQ6)=true)
  (aQ7:W.nsIn K mainGlobals "amount"=some (some (.ref fQ7)))
  (lQ7:K.lookup fQ7=some ⟨ocQ7,odQ7,.func (W.fnOf "amount" "amount" (defArgs s_amount) (defBody s_amount) (defScope s_amount) .none kVQ7 dcQ7 pmQ7 anQ7 cdQ7 ctQ7),slQ7⟩)
  (cQ7:W.codeIn K cdQ7 "amount"=true)
  (kQ7:W.keepIn K (.ref fQ7)=true)
  (aQ8:W.nsIn K mainGlobals "without_noughts"=some (some (.ref fQ8)))
  (lQ8:K.lookup fQ8=some ⟨ocQ8,odQ8,.func (W.fnOf "without_noughts" "without_noughts" (defArgs s_without_noughts) (defBody s_without_noughts) (defScope s_without_noughts) .none kVQ8 dcQ8 pmQ8 anQ8 cdQ8 ctQ8),slQ8⟩)
  (cQ8:W.codeIn K cdQ8 "without_noughts"=true)
  (kQ8:W.keepIn K (.ref fQ8)=true)
  (aQ9:W.nsIn K mainGlobals "refuse_other_names"=some (some (.ref fQ9)))
  (lQ9:K.lookup fQ9=some ⟨ocQ9,odQ9,.func (W.fnOf "refuse_other_names" "refuse_other_names" (defArgs s_refuse_other_names) (defBody s_refuse_other_names) (defScope s_refuse_other_names) .none kVQ9 dcQ9 pmQ9 anQ9 cdQ9 ctQ9),slQ9⟩)
  (cQ9:W.codeIn K cdQ9 "refuse_other_names"=true)
  (kQ9:W.keepIn K (.ref fQ9)=true)
  (aQ10:W.nsIn K mainGlobals "refuse_stores"=some (some (.ref fQ10)))
  (lQ10:K.lookup fQ10=some ⟨ocQ10,odQ10,.func (W.fnOf "refuse_stores" "refuse_stores" (defArgs s_refuse_stores) (defBody s_refuse_stores) (defScope s_refuse_stores) .none kVQ10 dcQ10 pmQ10 anQ10 cdQ10 ctQ10),slQ10⟩)
  (cQ10:W.codeIn K cdQ10 "refuse_stores"=true)
  (kQ10:W.keepIn K (.ref fQ10)=true)
  (aQ11:W.nsIn K mainGlobals "refuse_wants"=some (some (.ref fQ11)))
  (lQ11:K.lookup fQ11=some ⟨ocQ11,odQ11,.func (W.fnOf "refuse_wants" "refuse_wants" (defArgs s_refuse_wants) (defBody s_refuse_wants) (defScope s_refuse_wants) .none kVQ11 dcQ11 pmQ11 anQ11 cdQ11 ctQ11),slQ11⟩)
  (cQ11:W.codeIn K cdQ11 "refuse_wants"=true)
  (kQ11:W.keepIn K (.ref fQ11)=true)
  (aQ12:W.nsIn K mainGlobals "places_at"=some (some (.ref fQ12)))
  (lQ12:K.lookup fQ12=some ⟨ocQ12,odQ12,.func (W.fnOf "places_at" "places_at" (defArgs s_places_at) (defBody s_places_at) (defScope s_places_at) .none kVQ12 dcQ12 pmQ12 anQ12 cdQ12 ctQ12),slQ12⟩)
  (cQ12:W.codeIn K cdQ12 "places_at"=true)
  (kQ12:W.keepIn K (.ref fQ12)=true)
  (aQ13:W.nsIn K mainGlobals "turned"=some (some (.ref fQ13)))
  (lQ13:K.lookup fQ13=some ⟨ocQ13,odQ13,.func (W.fnOf "turned" "turned" (defArgs s_turned) (defBody s_turned) (defScope s_turned) .none kVQ13 dcQ13 pmQ13 anQ13 cdQ13 ctQ13),slQ13⟩)
  (cQ13:W.codeIn K cdQ13 "turned"=true)
  (kQ13:W.keepIn K (.ref fQ13)=true)
  (aQ14:W.nsIn K mainGlobals "own_plan"=some (some (.ref fQ14)))
  (lQ14:K.lookup fQ14=some ⟨ocQ14,odQ14,.func (W.fnOf "own_plan" "own_plan" (defArgs s_own_plan) (defBody s_own_plan) (defScope s_own_plan) .none kVQ14 dcQ14 pmQ14 anQ14 cdQ14 ctQ14),slQ14⟩)
  (cQ14:W.codeIn K cdQ14 "own_plan"=true)
  (kQ14:W.keepIn K (.ref fQ14)=true)
  (aQ15:W.nsIn K mainGlobals "taken_in"=some (some (.ref fQ15)))
  (lQ15:K.lookup fQ15=some ⟨ocQ15,odQ15,.func (W.fnOf "taken_in" "taken_in" (defArgs s_taken_in) (defBody s_taken_in) (defScope s_taken_in) .none kVQ15 dcQ15 pmQ15 anQ15 cdQ15 ctQ15),slQ15⟩)
  (cQ15:W.codeIn K cdQ15 "taken_in"=true)
  (kQ15:W.keepIn K (.ref fQ15)=true)
  (aQ16:W.nsIn K mainGlobals "put_in"=some (some (.ref fQ16)))
  (lQ16:K.lookup fQ16=some ⟨ocQ16,odQ16,.func (W.fnOf "put_in" "put_in" (defArgs s_put_in) (defBody s_put_in) (defScope s_put_in) .none kVQ16 dcQ16 pmQ16 anQ16 cdQ16 ctQ16),slQ16⟩)
  (cQ16:W.codeIn K cdQ16 "put_in"=true)
  (kQ16:W.keepIn K (.ref fQ16)=true)
  (aQ17:W.nsIn K mainGlobals "by_turns"=some (some (.ref fQ17)))
  (lQ17:K.lookup fQ17=some ⟨ocQ17,odQ17,.func (W.fnOf "by_turns" "by_turns" (defArgs s_by_turns) (defBody s_by_turns) (defScope s_by_turns) .none kVQ17 dcQ17 pmQ17 anQ17 cdQ17 ctQ17),slQ17⟩)
  (cQ17:W.codeIn K cdQ17 "by_turns"=true)
  (kQ17:W.keepIn K (.ref fQ17)=true)
  (aQ18:W.nsIn K mainGlobals "_law_cell_at"=some (some (.ref fQ18)))
  (lQ18:K.lookup fQ18=some ⟨ocQ18,odQ18,.func (W.fnOf "_law_cell_at" "_law_cell_at" (defArgs s_law_cell_at) (defBody s_law_cell_at) (defScope s_law_cell_at) .none kVQ18 dcQ18 pmQ18 anQ18 cdQ18 ctQ18),slQ18⟩)
  (cQ18:W.codeIn K cdQ18 "_law_cell_at"=true)
  (kQ18:W.keepIn K (.ref fQ18)=true)
  (aQ19:W.nsIn K mainGlobals "_law_name"=some (some (.ref fQ19)))
  (lQ19:K.lookup fQ19=some ⟨ocQ19,odQ19,.func (W.fnOf "_law_name" "_law_name" (defArgs s_law_name) (defBody s_law_name) (defScope s_law_name) .none kVQ19 dcQ19 pmQ19 anQ19 cdQ19 ctQ19),slQ19⟩)
  (cQ19:W.codeIn K cdQ19 "_law_name"=true)
  (kQ19:W.keepIn K (.ref fQ19)=true)
  (aQ20:W.nsIn K mainGlobals "_law_number"=some (some (.ref fQ20)))
  (lQ20:K.lookup fQ20=some ⟨ocQ20,odQ20,.func (W.fnOf "_law_number" "_law_number" (defArgs s_law_number) (defBody s_law_number) (defScope s_law_number) .none kVQ20 dcQ20 pmQ20 anQ20 cdQ20 ctQ20),slQ20⟩)
  (cQ20:W.codeIn K cdQ20 "_law_number"=true)
  (kQ20:W.keepIn K (.ref fQ20)=true)
  (aQ21:W.nsIn K mainGlobals "_law_not_under"=some (some (.ref fQ21)))
  (lQ21:K.lookup fQ21=some ⟨ocQ21,odQ21,.func (W.fnOf "_law_not_under" "_law_not_under" (defArgs s_law_not_under) (defBody s_law_not_under) (defScope s_law_not_under) .none kVQ21 dcQ21 pmQ21 anQ21 cdQ21 ctQ21),slQ21⟩)
  (cQ21:W.codeIn K cdQ21 "_law_not_under"=true)
  (kQ21:W.keepIn K (.ref fQ21)=true)
  (aQ22:W.nsIn K mainGlobals "_law_high"=some (some (.ref fQ22)))
  (lQ22:K.lookup fQ22=some ⟨ocQ22,odQ22,.func (W.fnOf "_law_high" "_law_high" (defArgs s_law_high) (defBody s_law_high) (defScope s_law_high) .none kVQ22 dcQ22 pmQ22 anQ22 cdQ22 ctQ22),slQ22⟩)
  (cQ22:W.codeIn K cdQ22 "_law_high"=true)
  (kQ22:W.keepIn K (.ref fQ22)=true)
  (aQ23:W.nsIn K mainGlobals "_law_gain_by"=some (some (.ref fQ23)))
  (lQ23:K.lookup fQ23=some ⟨ocQ23,odQ23,.func (W.fnOf "_law_gain_by" "_law_gain_by" (defArgs s_law_gain_by) (defBody s_law_gain_by) (defScope s_law_gain_by) .none kVQ23 dcQ23 pmQ23 anQ23 cdQ23 ctQ23),slQ23⟩)
  (cQ23:W.codeIn K cdQ23 "_law_gain_by"=true)
  (kQ23:W.keepIn K (.ref fQ23)=true)
  (aQ24:W.nsIn K mainGlobals "_law_ends"=some (some (.ref fQ24)))
  (lQ24:K.lookup fQ24=some ⟨ocQ24,odQ24,.func (W.fnOf "_law_ends" "_law_ends" (defArgs s_law_ends) (defBody s_law_ends) (defScope s_law_ends) .none kVQ24 dcQ24 pmQ24 anQ24 cdQ24 ctQ24),slQ24⟩)
  (cQ24:W.codeIn K cdQ24 "_law_ends"=true)
  (kQ24:W.keepIn K (.ref fQ24)=true)
  (aQ25:W.nsIn K mainGlobals "_law_net"=some (some (.ref fQ25)))
  (lQ25:K.lookup fQ25=some ⟨ocQ25,odQ25,.func (W.fnOf "_law_net" "_law_net" (defArgs s_law_net) (defBody s_law_net) (defScope s_law_net) .none kVQ25 dcQ25 pmQ25 anQ25 cdQ25 ctQ25),slQ25⟩)
  (cQ25:W.codeIn K cdQ25 "_law_net"=true)
  (kQ25:W.keepIn K (.ref fQ25)=true)
  (aQ26:W.nsIn K mainGlobals "_law_way"=some (some (.ref fQ26)))
  (lQ26:K.lookup fQ26=some ⟨ocQ26,odQ26,.func (W.fnOf "_law_way" "_law_way" (defArgs s_law_way) (defBody s_law_way) (defScope s_law_way) .none kVQ26 dcQ26 pmQ26 anQ26 cdQ26 ctQ26),slQ26⟩)
  (cQ26:W.codeIn K cdQ26 "_law_way"=true)
  (kQ26:W.keepIn K (.ref fQ26)=true)
  (aQ27:W.nsIn K mainGlobals "_law_built"=some (some (.ref fQ27)))
  (lQ27:K.lookup fQ27=some ⟨ocQ27,odQ27,.func (W.fnOf "_law_built" "_law_built" (defArgs s_law_built) (defBody s_law_built) (defScope s_law_built) .none kVQ27 dcQ27 pmQ27 anQ27 cdQ27 ctQ27),slQ27⟩)
  (cQ27:W.codeIn K cdQ27 "_law_built"=true)
  (kQ27:W.keepIn K (.ref fQ27)=true)
  (aQ28:W.nsIn K mainGlobals "_law_stores"=some (some (.ref fQ28)))
  (lQ28:K.lookup fQ28=some ⟨ocQ28,odQ28,.func (W.fnOf "_law_stores" "_law_stores" (defArgs s_law_stores) (defBody s_law_stores) (defScope s_law_stores) .none kVQ28 dcQ28 pmQ28 anQ28 cdQ28 ctQ28),slQ28⟩)
  (cQ28:W.codeIn K cdQ28 "_law_stores"=true)
  (kQ28:W.keepIn K (.ref fQ28)=true)
  (aQ29:W.nsIn K mainGlobals "_law_wants"=some (some (.ref fQ29)))
  (lQ29:K.lookup fQ29=some ⟨ocQ29,odQ29,.func (W.fnOf "_law_wants" "_law_wants" (defArgs s_law_wants) (defBody s_law_wants) (defScope s_law_wants) .none kVQ29 dcQ29 pmQ29 anQ29 cdQ29 ctQ29),slQ29⟩)
  (cQ29:W.codeIn K cdQ29 "_law_wants"=true)
  (kQ29:W.keepIn K (.ref fQ29)=true)
  (aQ30:W.nsIn K mainGlobals "_law_store"=some (some (.ref fQ30)))
  (lQ30:K.lookup fQ30=some ⟨ocQ30,odQ30,.func (W.fnOf "_law_store" "_law_store" (defArgs s_law_store) (defBody s_law_store) (defScope s_law_store) .none kVQ30 dcQ30 pmQ30 anQ30 cdQ30 ctQ30),slQ30⟩)
  (cQ30:W.codeIn K cdQ30 "_law_store"=true)
  (kQ30:W.keepIn K (.ref fQ30)=true)
  (aQ31:W.nsIn K mainGlobals "_law_fractions"=some (some (.ref fQ31)))
  (lQ31:K.lookup fQ31=some ⟨ocQ31,odQ31,.func (W.fnOf "_law_fractions" "_law_fractions" (defArgs s_law_fractions) (defBody s_law_fractions) (defScope s_law_fractions) .none kVQ31 dcQ31 pmQ31 anQ31 cdQ31 ctQ31),slQ31⟩)
  (cQ31:W.codeIn K cdQ31 "_law_fractions"=true)
  (kQ31:W.keepIn K (.ref fQ31)=true)
  (aQ32:W.nsIn K mainGlobals "_law_faulty"=some (some (.ref fQ32)))
  (lQ32:K.lookup fQ32=some ⟨ocQ32,odQ32,.func (W.fnOf "_law_faulty" "_law_faulty" (defArgs s_law_faulty) (defBody s_law_faulty) (defScope s_law_faulty) .none kVQ32 dcQ32 pmQ32 anQ32 cdQ32 ctQ32),slQ32⟩)
  (cQ32:W.codeIn K cdQ32 "_law_faulty"=true)
  (kQ32:W.keepIn K (.ref fQ32)=true)
  (aQ33:W.nsIn K mainGlobals "_law_due"=some (some (.ref fQ33)))
  (lQ33:K.lookup fQ33=some ⟨ocQ33,odQ33,.func (W.fnOf "_law_due" "_law_due" (defArgs s_law_due) (defBody s_law_due) (defScope s_law_due) .none kVQ33 dcQ33 pmQ33 anQ33 cdQ33 ctQ33),slQ33⟩)
  (cQ33:W.codeIn K cdQ33 "_law_due"=true)
  (kQ33:W.keepIn K (.ref fQ33)=true)
  (aQ34:W.nsIn K mainGlobals "_law_refused"=some (some (.ref fQ34)))
  (lQ34:K.lookup fQ34=some ⟨ocQ34,odQ34,.func (W.fnOf "_law_refused" "_law_refused" (defArgs s_law_refused) (defBody s_law_refused) (defScope s_law_refused) .none kVQ34 dcQ34 pmQ34 anQ34 cdQ34 ctQ34),slQ34⟩)
  (cQ34:W.codeIn K cdQ34 "_law_refused"=true)
  (kQ34:W.keepIn K (.ref fQ34)=true)
  (aQ35:W.nsIn K mainGlobals "_law_class"=some (some (.ref fQ35)))
  (lQ35:K.lookup fQ35=some ⟨ocQ35,odQ35,.func (W.fnOf "_law_class" "_law_class" (defArgs s_law_class) (defBody s_law_class) (defScope s_law_class) .none kVQ35 dcQ35 pmQ35 anQ35 cdQ35 ctQ35),slQ35⟩)
  (cQ35:W.codeIn K cdQ35 "_law_class"=true)
  (kQ35:W.keepIn K (.ref fQ35)=true)
  (aQ36:W.nsIn K mainGlobals "_law_asked"=some (some (.ref fQ36)))
  (lQ36:K.lookup fQ36=some ⟨ocQ36,odQ36,.func (W.fnOf "_law_asked" "_law_asked" (defArgs s_law_asked) (defBody s_law_asked) (defScope s_law_asked) .none kVQ36 dcQ36 pmQ36 anQ36 cdQ36 ctQ36),slQ36⟩)
  (cQ36:W.codeIn K cdQ36 "_law_asked"=true)
  (kQ36:W.keepIn K (.ref fQ36)=true)
  (aDlaw:W.nsIn K mainGlobals "law"=some (some (.ref fDlaw)))
  (lDlaw:K.lookup fDlaw=some ⟨ocDlaw,odDlaw,.func (W.fnOf "law" "law" (defArgs s_law) (defBody s_law) (defScope s_law) .none kVDlaw dcDlaw pmDlaw anDlaw cdDlaw ctDlaw),slDlaw⟩)
  (cDlaw:W.codeIn K cdDlaw "law"=true)
  (kDlaw:W.keepIn K (.ref fDlaw)=true)
  (pg_Fraction:W.plainGet K A_Fraction Str.empty=true)
  (hd_Fraction:W.hasDictIn K A_Fraction=true)
  (po_Fraction:W.plainOver K A_Fraction=true)
  (sa_Fraction:W.findIn K (.ref A_Fraction) "__setattr__"=some (some (.builtin "object.__setattr__")))
  (na_Fraction_top:W.findIn K (.ref A_Fraction) "top"=some none)
  (na_Fraction_bottom:W.findIn K (.ref A_Fraction) "bottom"=some none)
  (mk_Fraction:W.makesIn K A_Fraction=true)
  (ka_Fraction:W.keepIn K (.ref A_Fraction)=true)
  (a_Fraction_init:W.findIn K (.ref A_Fraction) "__init__"=some (some (.ref fIFraction)))
  (iIFraction:W.isFn K (.ref fIFraction)=true)
  (lIFraction:K.lookup fIFraction=some ⟨ocIFraction,odIFraction,.func (W.fnOf "__init__" "Fraction.__init__" (defArgs s_Fraction_init) (defBody s_Fraction_init) (defScope s_Fraction_init) (.ref TIFraction) kVIFraction dcIFraction pmIFraction anIFraction cdIFraction ctIFraction),slIFraction⟩)
  (cIFraction:W.codeIn K cdIFraction "Fraction.__init__"=true)
  (tIFraction:K.lookup TIFraction=some oIFraction)
  (dIFraction:oIFraction.data=.seq #[.int 1 tkIFraction0] nIFraction)
  (a_Fraction_plus:W.findIn K (.ref A_Fraction) "plus"=some (some (.ref fQ37)))
  (lQ37:K.lookup fQ37=some ⟨ocQ37,odQ37,.func (W.fnOf "plus" "Fraction.plus" (defArgs s_Fraction_plus) (defBody s_Fraction_plus) (defScope s_Fraction_plus) .none kVQ37 dcQ37 pmQ37 anQ37 cdQ37 ctQ37),slQ37⟩)
  (cQ37:W.codeIn K cdQ37 "Fraction.plus"=true)
  (kQ37:W.keepIn K (.ref fQ37)=true)
  (iQ37:W.isFn K (.ref fQ37)=true)
  (a_Fraction_minus:W.findIn K (.ref A_Fraction) "minus"=some (some (.ref fQ38)))
  (lQ38:K.lookup fQ38=some ⟨ocQ38,odQ38,.func (W.fnOf "minus" "Fraction.minus" (defArgs s_Fraction_minus) (defBody s_Fraction_minus) (defScope s_Fraction_minus) .none kVQ38 dcQ38 pmQ38 anQ38 cdQ38 ctQ38),slQ38⟩)
  (cQ38:W.codeIn K cdQ38 "Fraction.minus"=true)
  (kQ38:W.keepIn K (.ref fQ38)=true)
  (iQ38:W.isFn K (.ref fQ38)=true)
  (a_Fraction_times:W.findIn K (.ref A_Fraction) "times"=some (some (.ref fQ39)))
  (lQ39:K.lookup fQ39=some ⟨ocQ39,odQ39,.func (W.fnOf "times" "Fraction.times" (defArgs s_Fraction_times) (defBody s_Fraction_times) (defScope s_Fraction_times) .none kVQ39 dcQ39 pmQ39 anQ39 cdQ39 ctQ39),slQ39⟩)
  (cQ39:W.codeIn K cdQ39 "Fraction.times"=true)
  (kQ39:W.keepIn K (.ref fQ39)=true)
  (iQ39:W.isFn K (.ref fQ39)=true)
  (a_Fraction_under:W.findIn K (.ref A_Fraction) "under"=some (some (.ref fQ40)))
  (lQ40:K.lookup fQ40=some ⟨ocQ40,odQ40,.func (W.fnOf "under" "Fraction.under" (defArgs s_Fraction_under) (defBody s_Fraction_under) (defScope s_Fraction_under) .none kVQ40 dcQ40 pmQ40 anQ40 cdQ40 ctQ40),slQ40⟩)
  (cQ40:W.codeIn K cdQ40 "Fraction.under"=true)
  (kQ40:W.keepIn K (.ref fQ40)=true)
  (iQ40:W.isFn K (.ref fQ40)=true)
  (a_Fraction_sign:W.findIn K (.ref A_Fraction) "sign"=some (some (.ref fQ41)))
  (lQ41:K.lookup fQ41=some ⟨ocQ41,odQ41,.func (W.fnOf "sign" "Fraction.sign" (defArgs s_Fraction_sign) (defBody s_Fraction_sign) (defScope s_Fraction_sign) .none kVQ41 dcQ41 pmQ41 anQ41 cdQ41 ctQ41),slQ41⟩)
  (cQ41:W.codeIn K cdQ41 "Fraction.sign"=true)
  (kQ41:W.keepIn K (.ref fQ41)=true)
  (iQ41:W.isFn K (.ref fQ41)=true)
  (c1_Fraction:W.findIn K (.ref A_Fraction) "__class__"=some (some (.builtin "object.__class__")))
  (c4_Fraction:W.mroIn K A_Fraction (.type "object")=some true)
  (pg_Way:W.plainGet K A_Way Str.empty=true)
  (hd_Way:W.hasDictIn K A_Way=true)
  (po_Way:W.plainOver K A_Way=true)
  (sa_Way:W.findIn K (.ref A_Way) "__setattr__"=some (some (.builtin "object.__setattr__")))
  (na_Way_name:W.findIn K (.ref A_Way) "name"=some none)
  (na_Way_start:W.findIn K (.ref A_Way) "start"=some none)
  (na_Way_goal:W.findIn K (.ref A_Way) "goal"=some none)
  (na_Way_high:W.findIn K (.ref A_Way) "high"=some none)
  (na_Way_cost:W.findIn K (.ref A_Way) "cost"=some none)
  (mk_Way:W.makesIn K A_Way=true)
  (ka_Way:W.keepIn K (.ref A_Way)=true)
  (a_Way_init:W.findIn K (.ref A_Way) "__init__"=some (some (.ref fIWay)))
  (iIWay:W.isFn K (.ref fIWay)=true)
  (lIWay:K.lookup fIWay=some ⟨ocIWay,odIWay,.func (W.fnOf "__init__" "Way.__init__" (defArgs s_Way_init) (defBody s_Way_init) (defScope s_Way_init) (.ref TIWay) kVIWay dcIWay pmIWay anIWay cdIWay ctIWay),slIWay⟩)
  (cIWay:W.codeIn K cdIWay "Way.__init__"=true)
  (tIWay:K.lookup TIWay=some oIWay)
  (dIWay:oIWay.data=.seq #[.none,.none] nIWay)
  (rd_Way:W.readsIn K A_Way (.type "type")=true)
  (sg_Way:W.specialIn K (.ref A_Way) "__getattribute__"=some (some (.builtin "type.__getattribute__")))
  (fc_Way:W.findCls K (.ref A_Way) (.type "type") "__init__"=some (.val (.ref fIWay)))
  (kc_Way:W.keepIn K (.ref fIWay)=true)
  (a_Way_may_stay:W.findIn K (.ref A_Way) "may_stay"=some (some (.ref fQ42)))
  (lQ42:K.lookup fQ42=some ⟨ocQ42,odQ42,.func (W.fnOf "may_stay" "Way.may_stay" (defArgs s_Way_may_stay) (defBody s_Way_may_stay) (defScope s_Way_may_stay) .none kVQ42 dcQ42 pmQ42 anQ42 cdQ42 ctQ42),slQ42⟩)
  (cQ42:W.codeIn K cdQ42 "Way.may_stay"=true)
  (kQ42:W.keepIn K (.ref fQ42)=true)
  (iQ42:W.isFn K (.ref fQ42)=true)
  (a_Way_gain:W.findIn K (.ref A_Way) "gain"=some (some (.ref fQ43)))
  (lQ43:K.lookup fQ43=some ⟨ocQ43,odQ43,.func (W.fnOf "gain" "Way.gain" (defArgs s_Way_gain) (defBody s_Way_gain) (defScope s_Way_gain) .none kVQ43 dcQ43 pmQ43 anQ43 cdQ43 ctQ43),slQ43⟩)
  (cQ43:W.codeIn K cdQ43 "Way.gain"=true)
  (kQ43:W.keepIn K (.ref fQ43)=true)
  (iQ43:W.isFn K (.ref fQ43)=true)
  (a_Way_out:W.findIn K (.ref A_Way) "out"=some (some (.ref fQ44)))
  (lQ44:K.lookup fQ44=some ⟨ocQ44,odQ44,.func (W.fnOf "out" "Way.out" (defArgs s_Way_out) (defBody s_Way_out) (defScope s_Way_out) .none kVQ44 dcQ44 pmQ44 anQ44 cdQ44 ctQ44),slQ44⟩)
  (cQ44:W.codeIn K cdQ44 "Way.out"=true)
  (kQ44:W.keepIn K (.ref fQ44)=true)
  (iQ44:W.isFn K (.ref fQ44)=true)
  (a_Way_at_turn:W.findIn K (.ref A_Way) "at_turn"=some (some (.ref fQ45)))
  (lQ45:K.lookup fQ45=some ⟨ocQ45,odQ45,.func (W.fnOf "at_turn" "Way.at_turn" (defArgs s_Way_at_turn) (defBody s_Way_at_turn) (defScope s_Way_at_turn) .none kVQ45 dcQ45 pmQ45 anQ45 cdQ45 ctQ45),slQ45⟩)
  (cQ45:W.codeIn K cdQ45 "Way.at_turn"=true)
  (kQ45:W.keepIn K (.ref fQ45)=true)
  (iQ45:W.isFn K (.ref fQ45)=true)
  (c1_Way:W.findIn K (.ref A_Way) "__class__"=some (some (.builtin "object.__class__")))
  (c4_Way:W.mroIn K A_Way (.type "object")=some true)
  (pg_Growing:W.plainGet K A_Growing Str.empty=true)
  (hd_Growing:W.hasDictIn K A_Growing=true)
  (po_Growing:W.plainOver K A_Growing=true)
  (sa_Growing:W.findIn K (.ref A_Growing) "__setattr__"=some (some (.builtin "object.__setattr__")))
  (na_Growing_rate:W.findIn K (.ref A_Growing) "rate"=some none)
  (na_Growing_name:W.findIn K (.ref A_Growing) "name"=some none)
  (na_Growing_start:W.findIn K (.ref A_Growing) "start"=some none)
  (na_Growing_goal:W.findIn K (.ref A_Growing) "goal"=some none)
  (na_Growing_high:W.findIn K (.ref A_Growing) "high"=some none)
  (na_Growing_cost:W.findIn K (.ref A_Growing) "cost"=some none)
  (mk_Growing:W.makesIn K A_Growing=true)
  (ka_Growing:W.keepIn K (.ref A_Growing)=true)
  (a_Growing_init:W.findIn K (.ref A_Growing) "__init__"=some (some (.ref fIGrowing)))
  (iIGrowing:W.isFn K (.ref fIGrowing)=true)
  (lIGrowing:K.lookup fIGrowing=some ⟨ocIGrowing,odIGrowing,.func (W.fnOf "__init__" "Growing.__init__" (defArgs s_Growing_init) (defBody s_Growing_init) (defScope s_Growing_init) (.ref TIGrowing) kVIGrowing dcIGrowing pmIGrowing anIGrowing cdIGrowing ctIGrowing),slIGrowing⟩)
  (cIGrowing:W.codeIn K cdIGrowing "Growing.__init__"=true)
  (tIGrowing:K.lookup TIGrowing=some oIGrowing)
  (dIGrowing:oIGrowing.data=.seq #[.none,.none] nIGrowing)
  (a_Growing_gain:W.findIn K (.ref A_Growing) "gain"=some (some (.ref fQ46)))
  (lQ46:K.lookup fQ46=some ⟨ocQ46,odQ46,.func (W.fnOf "gain" "Growing.gain" (defArgs s_Growing_gain) (defBody s_Growing_gain) (defScope s_Growing_gain) .none kVQ46 dcQ46 pmQ46 anQ46 cdQ46 ctQ46),slQ46⟩)
  (cQ46:W.codeIn K cdQ46 "Growing.gain"=true)
  (kQ46:W.keepIn K (.ref fQ46)=true)
  (iQ46:W.isFn K (.ref fQ46)=true)
  (a_Growing_at_turn:W.findIn K (.ref A_Growing) "at_turn"=some (some (.ref fQ47)))
  (lQ47:K.lookup fQ47=some ⟨ocQ47,odQ47,.func (W.fnOf "at_turn" "Growing.at_turn" (defArgs s_Growing_at_turn) (defBody s_Growing_at_turn) (defScope s_Growing_at_turn) .none kVQ47 dcQ47 pmQ47 anQ47 cdQ47 ctQ47),slQ47⟩)
  (cQ47:W.codeIn K cdQ47 "Growing.at_turn"=true)
  (kQ47:W.keepIn K (.ref fQ47)=true)
  (iQ47:W.isFn K (.ref fQ47)=true)
  (a_Growing_may_stay:W.findIn K (.ref A_Growing) "may_stay"=some (some (.ref fQ42)))
  (a_Growing_out:W.findIn K (.ref A_Growing) "out"=some (some (.ref fQ44)))
  (c1_Growing:W.findIn K (.ref A_Growing) "__class__"=some (some (.builtin "object.__class__")))
  (c4_Growing:W.mroIn K A_Growing (.type "object")=some true)
  (pg_Leaking:W.plainGet K A_Leaking Str.empty=true)
  (hd_Leaking:W.hasDictIn K A_Leaking=true)
  (po_Leaking:W.plainOver K A_Leaking=true)
  (sa_Leaking:W.findIn K (.ref A_Leaking) "__setattr__"=some (some (.builtin "object.__setattr__")))
  (na_Leaking_loss:W.findIn K (.ref A_Leaking) "loss"=some none)
  (na_Leaking_name:W.findIn K (.ref A_Leaking) "name"=some none)
  (na_Leaking_start:W.findIn K (.ref A_Leaking) "start"=some none)
  (na_Leaking_goal:W.findIn K (.ref A_Leaking) "goal"=some none)
  (na_Leaking_high:W.findIn K (.ref A_Leaking) "high"=some none)
  (na_Leaking_cost:W.findIn K (.ref A_Leaking) "cost"=some none)
  (mk_Leaking:W.makesIn K A_Leaking=true)
  (ka_Leaking:W.keepIn K (.ref A_Leaking)=true)
  (a_Leaking_init:W.findIn K (.ref A_Leaking) "__init__"=some (some (.ref fILeaking)))
  (iILeaking:W.isFn K (.ref fILeaking)=true)
  (lILeaking:K.lookup fILeaking=some ⟨ocILeaking,odILeaking,.func (W.fnOf "__init__" "Leaking.__init__" (defArgs s_Leaking_init) (defBody s_Leaking_init) (defScope s_Leaking_init) (.ref TILeaking) kVILeaking dcILeaking pmILeaking anILeaking cdILeaking ctILeaking),slILeaking⟩)
  (cILeaking:W.codeIn K cdILeaking "Leaking.__init__"=true)
  (tILeaking:K.lookup TILeaking=some oILeaking)
  (dILeaking:oILeaking.data=.seq #[.none,.none] nILeaking)
  (rd_Leaking:W.readsIn K A_Leaking (.type "type")=true)
  (sg_Leaking:W.specialIn K (.ref A_Leaking) "__getattribute__"=some (some (.builtin "type.__getattribute__")))
  (fc_Leaking:W.findCls K (.ref A_Leaking) (.type "type") "__init__"=some (.val (.ref fILeaking)))
  (kc_Leaking:W.keepIn K (.ref fILeaking)=true)
  (a_Leaking_gain:W.findIn K (.ref A_Leaking) "gain"=some (some (.ref fQ48)))
  (lQ48:K.lookup fQ48=some ⟨ocQ48,odQ48,.func (W.fnOf "gain" "Leaking.gain" (defArgs s_Leaking_gain) (defBody s_Leaking_gain) (defScope s_Leaking_gain) .none kVQ48 dcQ48 pmQ48 anQ48 cdQ48 ctQ48),slQ48⟩)
  (cQ48:W.codeIn K cdQ48 "Leaking.gain"=true)
  (kQ48:W.keepIn K (.ref fQ48)=true)
  (iQ48:W.isFn K (.ref fQ48)=true)
  (a_Leaking_at_turn:W.findIn K (.ref A_Leaking) "at_turn"=some (some (.ref fQ49)))
  (lQ49:K.lookup fQ49=some ⟨ocQ49,odQ49,.func (W.fnOf "at_turn" "Leaking.at_turn" (defArgs s_Leaking_at_turn) (defBody s_Leaking_at_turn) (defScope s_Leaking_at_turn) .none kVQ49 dcQ49 pmQ49 anQ49 cdQ49 ctQ49),slQ49⟩)
  (cQ49:W.codeIn K cdQ49 "Leaking.at_turn"=true)
  (kQ49:W.keepIn K (.ref fQ49)=true)
  (iQ49:W.isFn K (.ref fQ49)=true)
  (a_Leaking_may_stay:W.findIn K (.ref A_Leaking) "may_stay"=some (some (.ref fQ42)))
  (a_Leaking_out:W.findIn K (.ref A_Leaking) "out"=some (some (.ref fQ44)))
  (c1_Leaking:W.findIn K (.ref A_Leaking) "__class__"=some (some (.builtin "object.__class__")))
  (c4_Leaking:W.mroIn K A_Leaking (.type "object")=some true)
  (pg_Store:W.plainGet K A_Store Str.empty=true)
  (hd_Store:W.hasDictIn K A_Store=true)
  (po_Store:W.plainOver K A_Store=true)
  (sa_Store:W.findIn K (.ref A_Store) "__setattr__"=some (some (.builtin "object.__setattr__")))
  (na_Store_loss:W.findIn K (.ref A_Store) "loss"=some none)
  (na_Store_name:W.findIn K (.ref A_Store) "name"=some none)
  (na_Store_start:W.findIn K (.ref A_Store) "start"=some none)
  (na_Store_goal:W.findIn K (.ref A_Store) "goal"=some none)
  (na_Store_high:W.findIn K (.ref A_Store) "high"=some none)
  (na_Store_cost:W.findIn K (.ref A_Store) "cost"=some none)
  (mk_Store:W.makesIn K A_Store=true)
  (ka_Store:W.keepIn K (.ref A_Store)=true)
  (a_Store_init:W.findIn K (.ref A_Store) "__init__"=some (some (.ref fIStore)))
  (iIStore:W.isFn K (.ref fIStore)=true)
  (lIStore:K.lookup fIStore=some ⟨ocIStore,odIStore,.func (W.fnOf "__init__" "Store.__init__" (defArgs s_Store_init) (defBody s_Store_init) (defScope s_Store_init) (.ref TIStore) kVIStore dcIStore pmIStore anIStore cdIStore ctIStore),slIStore⟩)
  (cIStore:W.codeIn K cdIStore "Store.__init__"=true)
  (tIStore:K.lookup TIStore=some oIStore)
  (dIStore:oIStore.data=.seq #[.none,.none] nIStore)
  (a_Store_may_stay:W.findIn K (.ref A_Store) "may_stay"=some (some (.ref fQ50)))
  (lQ50:K.lookup fQ50=some ⟨ocQ50,odQ50,.func (W.fnOf "may_stay" "Store.may_stay" (defArgs s_Store_may_stay) (defBody s_Store_may_stay) (defScope s_Store_may_stay) .none kVQ50 dcQ50 pmQ50 anQ50 cdQ50 ctQ50),slQ50⟩)
  (cQ50:W.codeIn K cdQ50 "Store.may_stay"=true)
  (kQ50:W.keepIn K (.ref fQ50)=true)
  (iQ50:W.isFn K (.ref fQ50)=true)
  (a_Store_at_turn:W.findIn K (.ref A_Store) "at_turn"=some (some (.ref fQ51)))
  (lQ51:K.lookup fQ51=some ⟨ocQ51,odQ51,.func (W.fnOf "at_turn" "Store.at_turn" (defArgs s_Store_at_turn) (defBody s_Store_at_turn) (defScope s_Store_at_turn) .none kVQ51 dcQ51 pmQ51 anQ51 cdQ51 ctQ51),slQ51⟩)
  (cQ51:W.codeIn K cdQ51 "Store.at_turn"=true)
  (kQ51:W.keepIn K (.ref fQ51)=true)
  (iQ51:W.isFn K (.ref fQ51)=true)
  (a_Store_gain:W.findIn K (.ref A_Store) "gain"=some (some (.ref fQ48)))
  (a_Store_out:W.findIn K (.ref A_Store) "out"=some (some (.ref fQ44)))
  (c1_Store:W.findIn K (.ref A_Store) "__class__"=some (some (.builtin "object.__class__")))
  (c4_Store:W.mroIn K A_Store (.type "object")=some true)
  (pg_Net:W.plainGet K A_Net Str.empty=true)
  (hd_Net:W.hasDictIn K A_Net=true)
  (po_Net:W.plainOver K A_Net=true)
  (sa_Net:W.findIn K (.ref A_Net) "__setattr__"=some (some (.builtin "object.__setattr__")))
  (na_Net_wants:W.findIn K (.ref A_Net) "wants"=some none)
  (na_Net_ways:W.findIn K (.ref A_Net) "ways"=some none)
  (mk_Net:W.makesIn K A_Net=true)
  (ka_Net:W.keepIn K (.ref A_Net)=true)
  (a_Net_init:W.findIn K (.ref A_Net) "__init__"=some (some (.ref fQ52)))
  (iQ52:W.isFn K (.ref fQ52)=true)
  (lQ52:K.lookup fQ52=some ⟨ocQ52,odQ52,.func (W.fnOf "__init__" "Net.__init__" (defArgs s_Net_init) (defBody s_Net_init) (defScope s_Net_init) .none kVQ52 dcQ52 pmQ52 anQ52 cdQ52 ctQ52),slQ52⟩)
  (cQ52:W.codeIn K cdQ52 "Net.__init__"=true)
  (kQ52:W.keepIn K (.ref fQ52)=true)
  (a_Net_names:W.findIn K (.ref A_Net) "names"=some (some (.ref fQ53)))
  (lQ53:K.lookup fQ53=some ⟨ocQ53,odQ53,.func (W.fnOf "names" "Net.names" (defArgs s_Net_names) (defBody s_Net_names) (defScope s_Net_names) .none kVQ53 dcQ53 pmQ53 anQ53 cdQ53 ctQ53),slQ53⟩)
  (cQ53:W.codeIn K cdQ53 "Net.names"=true)
  (kQ53:W.keepIn K (.ref fQ53)=true)
  (iQ53:W.isFn K (.ref fQ53)=true)
  (a_Net_want:W.findIn K (.ref A_Net) "want"=some (some (.ref fQ54)))
  (lQ54:K.lookup fQ54=some ⟨ocQ54,odQ54,.func (W.fnOf "want" "Net.want" (defArgs s_Net_want) (defBody s_Net_want) (defScope s_Net_want) .none kVQ54 dcQ54 pmQ54 anQ54 cdQ54 ctQ54),slQ54⟩)
  (cQ54:W.codeIn K cdQ54 "Net.want"=true)
  (kQ54:W.keepIn K (.ref fQ54)=true)
  (iQ54:W.isFn K (.ref fQ54)=true)
  (a_Net_way:W.findIn K (.ref A_Net) "way"=some (some (.ref fQ55)))
  (lQ55:K.lookup fQ55=some ⟨ocQ55,odQ55,.func (W.fnOf "way" "Net.way" (defArgs s_Net_way) (defBody s_Net_way) (defScope s_Net_way) .none kVQ55 dcQ55 pmQ55 anQ55 cdQ55 ctQ55),slQ55⟩)
  (cQ55:W.codeIn K cdQ55 "Net.way"=true)
  (kQ55:W.keepIn K (.ref fQ55)=true)
  (iQ55:W.isFn K (.ref fQ55)=true)
  (a_Net_all_ways:W.findIn K (.ref A_Net) "all_ways"=some (some (.ref fQ56)))
  (lQ56:K.lookup fQ56=some ⟨ocQ56,odQ56,.func (W.fnOf "all_ways" "Net.all_ways" (defArgs s_Net_all_ways) (defBody s_Net_all_ways) (defScope s_Net_all_ways) .none kVQ56 dcQ56 pmQ56 anQ56 cdQ56 ctQ56),slQ56⟩)
  (cQ56:W.codeIn K cdQ56 "Net.all_ways"=true)
  (kQ56:W.keepIn K (.ref fQ56)=true)
  (iQ56:W.isFn K (.ref fQ56)=true)
  (no_Net_sign:W.findIn K (.ref A_Net) "sign"=some none)
  (no_Net_may_stay:W.findIn K (.ref A_Net) "may_stay"=some none)
  (c2:W.specialIn K (.builtin "object.__class__") "__get__"=some (some (.builtin "getset_descriptor.__get__")))
  (c3:W.takesIn K (.builtin "object.__class__")=some true)
  (ex_TooMany:W.excIn K A_TooMany bmV "ValueError.__new__"=true)
  (a_Twice_xinit:W.findIn K (.ref A_Twice) "__init__"=some (some (.ref fQ57)))
  (lQ57:K.lookup fQ57=some ⟨ocQ57,odQ57,.func (W.fnOf "__init__" "Twice.__init__" (defArgs s_Twice_init) (defBody s_Twice_init) (defScope s_Twice_init) .none kVQ57 dcQ57 pmQ57 anQ57 cdQ57 ctQ57),slQ57⟩)
  (cQ57:W.codeIn K cdQ57 "Twice.__init__"=true)
  (kQ57:W.keepIn K (.ref fQ57)=true)
  (tQ57:W.typeIn K (.ref fQ57)=some (.type "function"))
  (eQ57:excFI K A_Twice bmV "ValueError.__new__"=some fQ57)
  (xc_Twice:W.clsIn K A_Twice=some cdx_Twice)
  (xm_Twice:cdx_Twice.mro=[A_Twice,A_GainError].map Value.ref++bmV)
  (xh_Twice:cdx_Twice.hasDict=true)
  (xa_Twice:W.findIn K (.ref A_Twice) "__setattr__"=some (some (.builtin "object.__setattr__")))
  (na_Twice_name:W.findIn K (.ref A_Twice) "name"=some none)
  (hd_Twice:W.hasDictIn K A_Twice=true)
  (rdx_Twice:W.readsIn K A_GainError (.type "type")=true)
  (sgx_Twice:W.specialIn K (.ref A_GainError) "__getattribute__"=some (some (.builtin "type.__getattribute__")))
  (bf_Twice:W.findCls K (.ref A_GainError) (.type "type") "__init__"=some (.val (.builtin "ValueError.__init__")))
  (a_NoPlace_xinit:W.findIn K (.ref A_NoPlace) "__init__"=some (some (.ref fQ58)))
  (lQ58:K.lookup fQ58=some ⟨ocQ58,odQ58,.func (W.fnOf "__init__" "NoPlace.__init__" (defArgs s_NoPlace_init) (defBody s_NoPlace_init) (defScope s_NoPlace_init) .none kVQ58 dcQ58 pmQ58 anQ58 cdQ58 ctQ58),slQ58⟩)
  (cQ58:W.codeIn K cdQ58 "NoPlace.__init__"=true)
  (kQ58:W.keepIn K (.ref fQ58)=true)
  (tQ58:W.typeIn K (.ref fQ58)=some (.type "function"))
  (eQ58:excFI K A_NoPlace bmV "ValueError.__new__"=some fQ58)
  (xc_NoPlace:W.clsIn K A_NoPlace=some cdx_NoPlace)
  (xm_NoPlace:cdx_NoPlace.mro=[A_NoPlace,A_GainError].map Value.ref++bmV)
  (xh_NoPlace:cdx_NoPlace.hasDict=true)
  (xa_NoPlace:W.findIn K (.ref A_NoPlace) "__setattr__"=some (some (.builtin "object.__setattr__")))
  (na_NoPlace_place:W.findIn K (.ref A_NoPlace) "place"=some none)
  (hd_NoPlace:W.hasDictIn K A_NoPlace=true)
  (rdx_NoPlace:W.readsIn K A_GainError (.type "type")=true)
  (sgx_NoPlace:W.specialIn K (.ref A_GainError) "__getattribute__"=some (some (.builtin "type.__getattribute__")))
  (bf_NoPlace:W.findCls K (.ref A_GainError) (.type "type") "__init__"=some (.val (.builtin "ValueError.__init__")))
  (ca1_GainError:W.instIn K (.ref A_GainError) (.type "tuple")=some false)
  (ca2_GainError:W.clsIn K A_GainError=some cd_ca2_GainError)
  (ca3_GainError:W.subIn K (.ref A_GainError) (.type "BaseException")=some true)
  (ca1_NoPlace:W.instIn K (.ref A_NoPlace) (.type "tuple")=some false)
  (ca2_NoPlace:W.clsIn K A_NoPlace=some cd_ca2_NoPlace)
  (ca3_NoPlace:W.subIn K (.ref A_NoPlace) (.type "BaseException")=some true)
  (ca1_TooMany:W.instIn K (.ref A_TooMany) (.type "tuple")=some false)
  (ca2_TooMany:W.clsIn K A_TooMany=some cd_ca2_TooMany)
  (ca3_TooMany:W.subIn K (.ref A_TooMany) (.type "BaseException")=some true)
  (ca1_Twice:W.instIn K (.ref A_Twice) (.type "tuple")=some false)
  (ca2_Twice:W.clsIn K A_Twice=some cd_ca2_Twice)
  (ca3_Twice:W.subIn K (.ref A_Twice) (.type "BaseException")=some true)
  (su_NoPlace_GainError:W.subIn K (.ref A_NoPlace) (.ref A_GainError)=some true)
  (su_NoPlace_NoPlace:W.subIn K (.ref A_NoPlace) (.ref A_NoPlace)=some true)
  (su_NoPlace_Twice:W.subIn K (.ref A_NoPlace) (.ref A_Twice)=some false)
  (su_TooMany_GainError:W.subIn K (.ref A_TooMany) (.ref A_GainError)=some true)
  (su_TooMany_NoPlace:W.subIn K (.ref A_TooMany) (.ref A_NoPlace)=some false)
  (su_TooMany_TooMany:W.subIn K (.ref A_TooMany) (.ref A_TooMany)=some true)
  (su_TooMany_Twice:W.subIn K (.ref A_TooMany) (.ref A_Twice)=some false)
  (su_Twice_GainError:W.subIn K (.ref A_Twice) (.ref A_GainError)=some true)
  (su_Twice_Twice:W.subIn K (.ref A_Twice) (.ref A_Twice)=some true)
  (k_Way_Store:W.kitOne K (.ref A_Way) (.ref A_Store)=some false)
  (k_Growing_Store:W.kitOne K (.ref A_Growing) (.ref A_Store)=some false)
  (k_Leaking_Store:W.kitOne K (.ref A_Leaking) (.ref A_Store)=some false)
  (xga_NoPlace:W.findIn K (.ref A_NoPlace) "__getattribute__"=some (some (.builtin "BaseException.__getattribute__")))
  (xgh_NoPlace:W.findIn K (.ref A_NoPlace) "__getattr__"=some none)
  (xbe_NoPlace:W.mroIn K A_NoPlace (.type "BaseException")=some true)
  (xca_NoPlace:W.findIn K (.ref A_NoPlace) "__class__"=some (some (.builtin "object.__class__")))
  (xob_NoPlace:W.mroIn K A_NoPlace (.type "object")=some true)
  (xcl_NoPlace:W.clsIn K A_NoPlace=some cd_xcl_NoPlace)
  (k_NoPlace_NoPlace:W.kitOne K (.ref A_NoPlace) (.ref A_NoPlace)=some true)
  (k_NoPlace_TooMany:W.kitOne K (.ref A_NoPlace) (.ref A_TooMany)=some false)
  (k_NoPlace_Twice:W.kitOne K (.ref A_NoPlace) (.ref A_Twice)=some false)
  (k_NoPlace_ValueError:W.kitOne K (.ref A_NoPlace) (.type "ValueError")=some true)
  (xga_TooMany:W.findIn K (.ref A_TooMany) "__getattribute__"=some (some (.builtin "BaseException.__getattribute__")))
  (xgh_TooMany:W.findIn K (.ref A_TooMany) "__getattr__"=some none)
  (xbe_TooMany:W.mroIn K A_TooMany (.type "BaseException")=some true)
  (xca_TooMany:W.findIn K (.ref A_TooMany) "__class__"=some (some (.builtin "object.__class__")))
  (xob_TooMany:W.mroIn K A_TooMany (.type "object")=some true)
  (xcl_TooMany:W.clsIn K A_TooMany=some cd_xcl_TooMany)
  (k_TooMany_NoPlace:W.kitOne K (.ref A_TooMany) (.ref A_NoPlace)=some false)
  (k_TooMany_TooMany:W.kitOne K (.ref A_TooMany) (.ref A_TooMany)=some true)
  (k_TooMany_Twice:W.kitOne K (.ref A_TooMany) (.ref A_Twice)=some false)
  (k_TooMany_ValueError:W.kitOne K (.ref A_TooMany) (.type "ValueError")=some true)
  (xga_Twice:W.findIn K (.ref A_Twice) "__getattribute__"=some (some (.builtin "BaseException.__getattribute__")))
  (xgh_Twice:W.findIn K (.ref A_Twice) "__getattr__"=some none)
  (xbe_Twice:W.mroIn K A_Twice (.type "BaseException")=some true)
  (xca_Twice:W.findIn K (.ref A_Twice) "__class__"=some (some (.builtin "object.__class__")))
  (xob_Twice:W.mroIn K A_Twice (.type "object")=some true)
  (xcl_Twice:W.clsIn K A_Twice=some cd_xcl_Twice)
  (k_Twice_NoPlace:W.kitOne K (.ref A_Twice) (.ref A_NoPlace)=some false)
  (k_Twice_TooMany:W.kitOne K (.ref A_Twice) (.ref A_TooMany)=some false)
  (k_Twice_Twice:W.kitOne K (.ref A_Twice) (.ref A_Twice)=some true)
  (k_Twice_ValueError:W.kitOne K (.ref A_Twice) (.type "ValueError")=some true)
  (gi_MOST_PLACES:W.nsIn K mainGlobals "MOST_PLACES"=some (some (.int 12 tk_MOST_PLACES)))
  (gi_MOST_WAYS:W.nsIn K mainGlobals "MOST_WAYS"=some (some (.int 24 tk_MOST_WAYS)))
  (z_ValueError:W.nsIn K mainGlobals "ValueError"=some none)
  (z_abs:W.nsIn K mainGlobals "abs"=some none)
  (z_dict:W.nsIn K mainGlobals "dict"=some none)
  (z_enumerate:W.nsIn K mainGlobals "enumerate"=some none)
  (z_isinstance:W.nsIn K mainGlobals "isinstance"=some none)
  (z_len:W.nsIn K mainGlobals "len"=some none)
  (z_list:W.nsIn K mainGlobals "list"=some none)
  (z_max:W.nsIn K mainGlobals "max"=some none)
  (z_range:W.nsIn K mainGlobals "range"=some none)
  (z_str:W.nsIn K mainGlobals "str"=some none) :
  ∃ fd:FuncData,(∀ (s:Shared) (v:Value),BindsTo s fd ⟨[v],[]⟩ [("_law_script",v)])∧∀ base:Heap,K.In base→base.Ns mainGlobals mg→FnOk l.prog w K mg base CX0 14 fa fd ["_law_script"] (spLaw K):=by
 have e:=hfa.symm.trans (W.mg_of X G aDlaw)
 cases e
 have N_Q0:=fun_mk (st:=s_divisor) lQ0 cQ0 kQ0
 have N_Q1:=fun_mk (st:=s_in_lowest_terms) lQ1 cQ1 kQ1
 have N_Q2:=fun_mk (st:=s_total) lQ2 cQ2 kQ2
 have N_Q3:=fun_mk (st:=s_name_at) lQ3 cQ3 kQ3
 have N_Q4:=fun_mk (st:=s_wants_by_name) lQ4 cQ4 kQ4
 have N_Q5:=fun_mk (st:=s_check_way) lQ5 cQ5 kQ5
 have N_Q6:=fun_mk (st:=s_ways_by_name) lQ6 cQ6 kQ6
 have N_Q7:=fun_mk (st:=s_amount) lQ7 cQ7 kQ7
 have N_Q8:=fun_mk (st:=s_without_noughts) lQ8 cQ8 kQ8
 have N_Q9:=fun_mk (st:=s_refuse_other_names) lQ9 cQ9 kQ9
 have N_Q10:=fun_mk (st:=s_refuse_stores) lQ10 cQ10 kQ10
 have N_Q11:=fun_mk (st:=s_refuse_wants) lQ11 cQ11 kQ11
 have N_Q12:=fun_mk (st:=s_places_at) lQ12 cQ12 kQ12
 have N_Q13:=fun_mk (st:=s_turned) lQ13 cQ13 kQ13
 have N_Q14:=fun_mk (st:=s_own_plan) lQ14 cQ14 kQ14
 have N_Q15:=fun_mk (st:=s_taken_in) lQ15 cQ15 kQ15
 have N_Q16:=fun_mk (st:=s_put_in) lQ16 cQ16 kQ16
 have N_Q17:=fun_mk (st:=s_by_turns) lQ17 cQ17 kQ17
 have N_Q18:=fun_mk (st:=s_law_cell_at) lQ18 cQ18 kQ18
 have N_Q19:=fun_mk (st:=s_law_name) lQ19 cQ19 kQ19
 have N_Q20:=fun_mk (st:=s_law_number) lQ20 cQ20 kQ20
 have N_Q21:=fun_mk (st:=s_law_not_under) lQ21 cQ21 kQ21
 have N_Q22:=fun_mk (st:=s_law_high) lQ22 cQ22 kQ22
 have N_Q23:=fun_mk (st:=s_law_gain_by) lQ23 cQ23 kQ23
 have N_Q24:=fun_mk (st:=s_law_ends) lQ24 cQ24 kQ24
 have N_Q25:=fun_mk (st:=s_law_net) lQ25 cQ25 kQ25
 have N_Q26:=fun_mk (st:=s_law_way) lQ26 cQ26 kQ26
 have N_Q27:=fun_mk (st:=s_law_built) lQ27 cQ27 kQ27
 have N_Q28:=fun_mk (st:=s_law_stores) lQ28 cQ28 kQ28
 have N_Q29:=fun_mk (st:=s_law_wants) lQ29 cQ29 kQ29
 have N_Q30:=fun_mk (st:=s_law_store) lQ30 cQ30 kQ30
 have N_Q31:=fun_mk (st:=s_law_fractions) lQ31 cQ31 kQ31
 have N_Q32:=fun_mk (st:=s_law_faulty) lQ32 cQ32 kQ32
 have N_Q33:=fun_mk (st:=s_law_due) lQ33 cQ33 kQ33
 have N_Q34:=fun_mk (st:=s_law_refused) lQ34 cQ34 kQ34
 have N_Q35:=fun_mk (st:=s_law_class) lQ35 cQ35 kQ35
 have N_Q36:=fun_mk (st:=s_law_asked) lQ36 cQ36 kQ36
 have N_Dlaw:=fun_mk (st:=s_law) lDlaw cDlaw kDlaw
 have N_IFraction:=funD_mk (st:=s_Fraction_init) lIFraction cIFraction tIFraction dIFraction
 have N_Q37:=fun_mk (st:=s_Fraction_plus) lQ37 cQ37 kQ37
 have N_Q38:=fun_mk (st:=s_Fraction_minus) lQ38 cQ38 kQ38
 have N_Q39:=fun_mk (st:=s_Fraction_times) lQ39 cQ39 kQ39
 have N_Q40:=fun_mk (st:=s_Fraction_under) lQ40 cQ40 kQ40
 have N_Q41:=fun_mk (st:=s_Fraction_sign) lQ41 cQ41 kQ41
 have N_IWay:=funD_mk (st:=s_Way_init) lIWay cIWay tIWay dIWay
 have N_Q42:=fun_mk (st:=s_Way_may_stay) lQ42 cQ42 kQ42
 have N_Q43:=fun_mk (st:=s_Way_gain) lQ43 cQ43 kQ43
 have N_Q44:=fun_mk (st:=s_Way_out) lQ44 cQ44 kQ44
 have N_Q45:=fun_mk (st:=s_Way_at_turn) lQ45 cQ45 kQ45
 have N_IGrowing:=funD_mk (st:=s_Growing_init) lIGrowing cIGrowing tIGrowing dIGrowing
 have N_Q46:=fun_mk (st:=s_Growing_gain) lQ46 cQ46 kQ46
 have N_Q47:=fun_mk (st:=s_Growing_at_turn) lQ47 cQ47 kQ47
 have N_ILeaking:=funD_mk (st:=s_Leaking_init) lILeaking cILeaking tILeaking dILeaking
 have N_Q48:=fun_mk (st:=s_Leaking_gain) lQ48 cQ48 kQ48
 have N_Q49:=fun_mk (st:=s_Leaking_at_turn) lQ49 cQ49 kQ49
 have N_IStore:=funD_mk (st:=s_Store_init) lIStore cIStore tIStore dIStore
 have N_Q50:=fun_mk (st:=s_Store_may_stay) lQ50 cQ50 kQ50
 have N_Q51:=fun_mk (st:=s_Store_at_turn) lQ51 cQ51 kQ51
 have N_Q52:=fun_mk (st:=s_Net_init) lQ52 cQ52 kQ52
 have N_Q53:=fun_mk (st:=s_Net_names) lQ53 cQ53 kQ53
 have N_Q54:=fun_mk (st:=s_Net_want) lQ54 cQ54 kQ54
 have N_Q55:=fun_mk (st:=s_Net_way) lQ55 cQ55 kQ55
 have N_Q56:=fun_mk (st:=s_Net_all_ways) lQ56 cQ56 kQ56
 have N_Q57:=fun_mk (st:=s_Twice_init) lQ57 cQ57 kQ57
 have N_Q58:=fun_mk (st:=s_NoPlace_init) lQ58 cQ58 kQ58
 have T:TX K mg ⟨A_Fraction,A_Way,A_Growing,A_Leaking,A_Store,A_Net,A_GainError,A_NoNumber,A_TooMany,A_NoWay,A_Twice,A_NoPlace⟩:={
  d_divisor:=⟨_,_,N_Q0,W.mg_of X G aQ0,N_Q0.binds (ps:=["one","other"]) fun _ _ _ _ _ _ us hl=>by obtain ⟨_,_,rfl⟩:=lm2 us hl;exact rfl⟩
  d_in_lowest_terms:=⟨_,_,N_Q1,W.mg_of X G aQ1,N_Q1.binds (ps:=["top","bottom"]) fun _ _ _ _ _ _ us hl=>by obtain ⟨_,_,rfl⟩:=lm2 us hl;exact rfl⟩
  d_total:=⟨_,_,N_Q2,W.mg_of X G aQ2,N_Q2.binds (ps:=["some"]) fun _ _ _ _ _ _ us hl=>by obtain ⟨_,rfl⟩:=lm1 us hl;exact rfl⟩
  d_name_at:=⟨_,_,N_Q3,W.mg_of X G aQ3,N_Q3.binds (ps:=["name","turn"]) fun _ _ _ _ _ _ us hl=>by obtain ⟨_,_,rfl⟩:=lm2 us hl;exact rfl⟩
  d_wants_by_name:=⟨_,_,N_Q4,W.mg_of X G aQ4,N_Q4.binds (ps:=["places"]) fun _ _ _ _ _ _ us hl=>by obtain ⟨_,rfl⟩:=lm1 us hl;exact rfl⟩
  d_check_way:=⟨_,_,N_Q5,W.mg_of X G aQ5,N_Q5.binds (ps:=["way","ahead","wants"]) fun _ _ _ _ _ _ us hl=>by obtain ⟨_,_,_,rfl⟩:=lm3 us hl;exact rfl⟩
  d_ways_by_name:=⟨_,_,N_Q6,W.mg_of X G aQ6,N_Q6.binds (ps:=["ways","wants"]) fun _ _ _ _ _ _ us hl=>by obtain ⟨_,_,rfl⟩:=lm2 us hl;exact rfl⟩
  d_amount:=⟨_,_,N_Q7,W.mg_of X G aQ7,N_Q7.binds (ps:=["plan","name"]) fun _ _ _ _ _ _ us hl=>by obtain ⟨_,_,rfl⟩:=lm2 us hl;exact rfl⟩
  d_without_noughts:=⟨_,_,N_Q8,W.mg_of X G aQ8,N_Q8.binds (ps:=["plan"]) fun _ _ _ _ _ _ us hl=>by obtain ⟨_,rfl⟩:=lm1 us hl;exact rfl⟩
  d_refuse_other_names:=⟨_,_,N_Q9,W.mg_of X G aQ9,N_Q9.binds (ps:=["net","plan"]) fun _ _ _ _ _ _ us hl=>by obtain ⟨_,_,rfl⟩:=lm2 us hl;exact rfl⟩
  d_refuse_stores:=⟨_,_,N_Q10,W.mg_of X G aQ10,N_Q10.binds (ps:=["net","stores"]) fun _ _ _ _ _ _ us hl=>by obtain ⟨_,_,rfl⟩:=lm2 us hl;exact rfl⟩
  d_refuse_wants:=⟨_,_,N_Q11,W.mg_of X G aQ11,N_Q11.binds (ps:=["net","wants"]) fun _ _ _ _ _ _ us hl=>by obtain ⟨_,_,rfl⟩:=lm2 us hl;exact rfl⟩
  d_places_at:=⟨_,_,N_Q12,W.mg_of X G aQ12,N_Q12.binds (ps:=["net","own_wants","turn"]) fun _ _ _ _ _ _ us hl=>by obtain ⟨_,_,_,rfl⟩:=lm3 us hl;exact rfl⟩
  d_turned:=⟨_,_,N_Q13,W.mg_of X G aQ13,N_Q13.binds (ps:=["net","stores","wants"]) fun _ _ _ _ _ _ us hl=>by obtain ⟨_,_,_,rfl⟩:=lm3 us hl;exact rfl⟩
  d_own_plan:=⟨_,_,N_Q14,W.mg_of X G aQ14,N_Q14.binds (ps:=["net","plan","turn"]) fun _ _ _ _ _ _ us hl=>by obtain ⟨_,_,_,rfl⟩:=lm3 us hl;exact rfl⟩
  d_taken_in:=⟨_,_,N_Q15,W.mg_of X G aQ15,N_Q15.binds (ps:=["net","stores","plan","turn"]) fun _ _ _ _ _ _ us hl=>by obtain ⟨_,_,_,_,rfl⟩:=lm4 us hl;exact rfl⟩
  d_put_in:=⟨_,_,N_Q16,W.mg_of X G aQ16,N_Q16.binds (ps:=["net","stores","plan","turn"]) fun _ _ _ _ _ _ us hl=>by obtain ⟨_,_,_,_,rfl⟩:=lm4 us hl;exact rfl⟩
  d_by_turns:=⟨_,_,N_Q17,W.mg_of X G aQ17,N_Q17.binds (ps:=["net","stores","wants","plan"]) fun _ _ _ _ _ _ us hl=>by obtain ⟨_,_,_,_,rfl⟩:=lm4 us hl;exact rfl⟩
  d_law_cell_at:=⟨_,_,N_Q18,W.mg_of X G aQ18,N_Q18.binds (ps:=["_law_script","_law_k"]) fun _ _ _ _ _ _ us hl=>by obtain ⟨_,_,rfl⟩:=lm2 us hl;exact rfl⟩
  d_law_name:=⟨_,_,N_Q19,W.mg_of X G aQ19,N_Q19.binds (ps:=["_law_at","_law_cell"]) fun _ _ _ _ _ _ us hl=>by obtain ⟨_,_,rfl⟩:=lm2 us hl;exact rfl⟩
  d_law_number:=⟨_,_,N_Q20,W.mg_of X G aQ20,N_Q20.binds (ps:=["_law_cell"]) fun _ _ _ _ _ _ us hl=>by obtain ⟨_,rfl⟩:=lm1 us hl;exact rfl⟩
  d_law_not_under:=⟨_,_,N_Q21,W.mg_of X G aQ21,N_Q21.binds (ps:=["_law_cell"]) fun _ _ _ _ _ _ us hl=>by obtain ⟨_,rfl⟩:=lm1 us hl;exact rfl⟩
  d_law_high:=⟨_,_,N_Q22,W.mg_of X G aQ22,N_Q22.binds (ps:=["_law_cell"]) fun _ _ _ _ _ _ us hl=>by obtain ⟨_,rfl⟩:=lm1 us hl;exact rfl⟩
  d_law_gain_by:=⟨_,_,N_Q23,W.mg_of X G aQ23,N_Q23.binds (ps:=["_law_cell"]) fun _ _ _ _ _ _ us hl=>by obtain ⟨_,rfl⟩:=lm1 us hl;exact rfl⟩
  d_law_ends:=⟨_,_,N_Q24,W.mg_of X G aQ24,N_Q24.binds (ps:=["_law_cell","_law_places"]) fun _ _ _ _ _ _ us hl=>by obtain ⟨_,_,rfl⟩:=lm2 us hl;exact rfl⟩
  d_law_net:=⟨_,_,N_Q25,W.mg_of X G aQ25,N_Q25.binds (ps:=["_law_script","_law_size","_law_many"]) fun _ _ _ _ _ _ us hl=>by obtain ⟨_,_,_,rfl⟩:=lm3 us hl;exact rfl⟩
  d_law_way:=⟨_,_,N_Q26,W.mg_of X G aQ26,N_Q26.binds (ps:=["_law_way_here"]) fun _ _ _ _ _ _ us hl=>by obtain ⟨_,rfl⟩:=lm1 us hl;exact rfl⟩
  d_law_built:=⟨_,_,N_Q27,W.mg_of X G aQ27,N_Q27.binds (ps:=["_law_told"]) fun _ _ _ _ _ _ us hl=>by obtain ⟨_,rfl⟩:=lm1 us hl;exact rfl⟩
  d_law_stores:=⟨_,_,N_Q28,W.mg_of X G aQ28,N_Q28.binds (ps:=["_law_script","_law_at","_law_places","_law_count"]) fun _ _ _ _ _ _ us hl=>by obtain ⟨_,_,_,_,rfl⟩:=lm4 us hl;exact rfl⟩
  d_law_wants:=⟨_,_,N_Q29,W.mg_of X G aQ29,N_Q29.binds (ps:=["_law_script","_law_at","_law_places","_law_turns"]) fun _ _ _ _ _ _ us hl=>by obtain ⟨_,_,_,_,rfl⟩:=lm4 us hl;exact rfl⟩
  d_law_store:=⟨_,_,N_Q30,W.mg_of X G aQ30,N_Q30.binds (ps:=["_law_store_here"]) fun _ _ _ _ _ _ us hl=>by obtain ⟨_,rfl⟩:=lm1 us hl;exact rfl⟩
  d_law_fractions:=⟨_,_,N_Q31,W.mg_of X G aQ31,N_Q31.binds (ps:=["_law_pairs"]) fun _ _ _ _ _ _ us hl=>by obtain ⟨_,rfl⟩:=lm1 us hl;exact rfl⟩
  d_law_faulty:=⟨_,_,N_Q32,W.mg_of X G aQ32,N_Q32.binds (ps:=["_law_script","_law_told","_law_stores_here","_law_wants_here","_law_at"]) fun _ _ _ _ _ _ us hl=>by obtain ⟨_,_,_,_,_,rfl⟩:=lm5 us hl;exact rfl⟩
  d_law_due:=⟨_,_,N_Q33,W.mg_of X G aQ33,N_Q33.binds (ps:=["_law_told","_law_stores_here","_law_wants_here"]) fun _ _ _ _ _ _ us hl=>by obtain ⟨_,_,_,rfl⟩:=lm3 us hl;exact rfl⟩
  d_law_refused:=⟨_,_,N_Q34,W.mg_of X G aQ34,N_Q34.binds (ps:=["_law_net_here","_law_stores_here","_law_wants_here","_law_plain","_law_plan"]) fun _ _ _ _ _ _ us hl=>by obtain ⟨_,_,_,_,_,rfl⟩:=lm5 us hl;exact rfl⟩
  d_law_class:=⟨_,_,N_Q35,W.mg_of X G aQ35,N_Q35.binds (ps:=["_law_net_here","_law_stores_here","_law_wants_here","_law_plain"]) fun _ _ _ _ _ _ us hl=>by obtain ⟨_,_,_,_,rfl⟩:=lm4 us hl;exact rfl⟩
  d_law_asked:=⟨_,_,N_Q36,W.mg_of X G aQ36,N_Q36.binds (ps:=["_law_net_here","_law_told","_law_stores_here","_law_wants_here","_law_plain"]) fun _ _ _ _ _ _ us hl=>by obtain ⟨_,_,_,_,_,rfl⟩:=lm5 us hl;exact rfl⟩
  d_law:=⟨_,_,N_Dlaw,W.mg_of X G aDlaw,N_Dlaw.binds (ps:=["_law_script"]) fun _ _ _ _ _ _ us hl=>by obtain ⟨_,rfl⟩:=lm1 us hl;exact rfl⟩
  cl_Fraction:=⟨pg_Fraction,hd_Fraction,po_Fraction,sa_Fraction⟩
  mg_Fraction:=W.mg_of X G n_Fraction
  na_Fraction_top
  na_Fraction_bottom
  i_Fraction:=⟨fIFraction,_,N_IFraction.gen,⟨mk_Fraction,a_Fraction_init,iIFraction,ka_Fraction⟩,fun dvs hd=>by
   simp only [List.mem_cons,List.not_mem_nil,or_false] at hd
   rcases hd with rfl | rfl
   ·exact ⟨[],.nil,N_IFraction.binds (es:=[]) fun T kV doc pm an cdv ct us hl=>by obtain ⟨_,_,_,rfl⟩:=lm3 us (by simpa using hl);exact ⟨_,rfl,rfl⟩⟩
   ·exact ⟨[.int 1 tkIFraction0],(.cons ⟨_,rfl⟩ (.nil)),N_IFraction.binds (es:=[.int 1 tkIFraction0]) fun T kV doc pm an cdv ct us hl=>by obtain ⟨_,_,rfl⟩:=lm2 us (by simpa using hl);exact ⟨_,rfl,rfl⟩⟩⟩
  m_Fraction_plus:=⟨fQ37,_,N_Q37,⟨a_Fraction_plus,iQ37,kQ37⟩,N_Q37.binds (ps:=["self","other"]) fun _ _ _ _ _ _ us hl=>by obtain ⟨_,_,rfl⟩:=lm2 us hl;exact rfl⟩
  m_Fraction_minus:=⟨fQ38,_,N_Q38,⟨a_Fraction_minus,iQ38,kQ38⟩,N_Q38.binds (ps:=["self","other"]) fun _ _ _ _ _ _ us hl=>by obtain ⟨_,_,rfl⟩:=lm2 us hl;exact rfl⟩
  m_Fraction_times:=⟨fQ39,_,N_Q39,⟨a_Fraction_times,iQ39,kQ39⟩,N_Q39.binds (ps:=["self","other"]) fun _ _ _ _ _ _ us hl=>by obtain ⟨_,_,rfl⟩:=lm2 us hl;exact rfl⟩
  m_Fraction_under:=⟨fQ40,_,N_Q40,⟨a_Fraction_under,iQ40,kQ40⟩,N_Q40.binds (ps:=["self","other"]) fun _ _ _ _ _ _ us hl=>by obtain ⟨_,_,rfl⟩:=lm2 us hl;exact rfl⟩
  m_Fraction_sign:=⟨fQ41,_,N_Q41,⟨a_Fraction_sign,iQ41,kQ41⟩,N_Q41.binds (ps:=["self"]) fun _ _ _ _ _ _ us hl=>by obtain ⟨_,rfl⟩:=lm1 us hl;exact rfl⟩
  c1_Fraction
  c4_Fraction
  cl_Way:=⟨pg_Way,hd_Way,po_Way,sa_Way⟩
  mg_Way:=W.mg_of X G n_Way
  na_Way_name
  na_Way_start
  na_Way_goal
  na_Way_high
  na_Way_cost
  i_Way:=⟨fIWay,_,N_IWay.gen,⟨mk_Way,a_Way_init,iIWay,ka_Way⟩,fun dvs hd=>by
   simp only [List.mem_cons,List.not_mem_nil,or_false] at hd
   rcases hd with rfl | rfl
   ·exact ⟨[],.nil,N_IWay.binds (es:=[]) fun T kV doc pm an cdv ct us hl=>by obtain ⟨_,_,_,_,_,_,rfl⟩:=lm6 us (by simpa using hl);exact ⟨_,rfl,rfl⟩⟩
   ·exact ⟨[.none,.none],(.cons rfl (.cons rfl (.nil))),N_IWay.binds (es:=[.none,.none]) fun T kV doc pm an cdv ct us hl=>by obtain ⟨_,_,_,_,rfl⟩:=lm4 us (by simpa using hl);exact ⟨_,rfl,rfl⟩⟩⟩
  c_Way:=⟨fIWay,_,N_IWay.gen,⟨rd_Way,sg_Way⟩,fc_Way,kc_Way,N_IWay.binds (es:=[]) fun T kV doc pm an cdv ct us hl=>by obtain ⟨_,_,_,_,_,_,rfl⟩:=lm6 us (by simpa using hl);exact ⟨_,rfl,rfl⟩⟩
  m_Way_may_stay:=⟨fQ42,_,N_Q42,⟨a_Way_may_stay,iQ42,kQ42⟩,N_Q42.binds (ps:=["self"]) fun _ _ _ _ _ _ us hl=>by obtain ⟨_,rfl⟩:=lm1 us hl;exact rfl⟩
  m_Way_gain:=⟨fQ43,_,N_Q43,⟨a_Way_gain,iQ43,kQ43⟩,N_Q43.binds (ps:=["self"]) fun _ _ _ _ _ _ us hl=>by obtain ⟨_,rfl⟩:=lm1 us hl;exact rfl⟩
  m_Way_out:=⟨fQ44,_,N_Q44,⟨a_Way_out,iQ44,kQ44⟩,N_Q44.binds (ps:=["self","amount"]) fun _ _ _ _ _ _ us hl=>by obtain ⟨_,_,rfl⟩:=lm2 us hl;exact rfl⟩
  m_Way_at_turn:=⟨fQ45,_,N_Q45,⟨a_Way_at_turn,iQ45,kQ45⟩,N_Q45.binds (ps:=["self","turn"]) fun _ _ _ _ _ _ us hl=>by obtain ⟨_,_,rfl⟩:=lm2 us hl;exact rfl⟩
  c1_Way
  c4_Way
  cl_Growing:=⟨pg_Growing,hd_Growing,po_Growing,sa_Growing⟩
  mg_Growing:=W.mg_of X G n_Growing
  na_Growing_rate
  na_Growing_name
  na_Growing_start
  na_Growing_goal
  na_Growing_high
  na_Growing_cost
  i_Growing:=⟨fIGrowing,_,N_IGrowing.gen,⟨mk_Growing,a_Growing_init,iIGrowing,ka_Growing⟩,fun dvs hd=>by
   simp only [List.mem_cons,List.not_mem_nil,or_false] at hd
   rcases hd with rfl | rfl
   ·exact ⟨[],.nil,N_IGrowing.binds (es:=[]) fun T kV doc pm an cdv ct us hl=>by obtain ⟨_,_,_,_,_,_,_,rfl⟩:=lm7 us (by simpa using hl);exact ⟨_,rfl,rfl⟩⟩
   ·exact ⟨[.none,.none],(.cons rfl (.cons rfl (.nil))),N_IGrowing.binds (es:=[.none,.none]) fun T kV doc pm an cdv ct us hl=>by obtain ⟨_,_,_,_,_,rfl⟩:=lm5 us (by simpa using hl);exact ⟨_,rfl,rfl⟩⟩⟩
  m_Growing_gain:=⟨fQ46,_,N_Q46,⟨a_Growing_gain,iQ46,kQ46⟩,N_Q46.binds (ps:=["self"]) fun _ _ _ _ _ _ us hl=>by obtain ⟨_,rfl⟩:=lm1 us hl;exact rfl⟩
  m_Growing_at_turn:=⟨fQ47,_,N_Q47,⟨a_Growing_at_turn,iQ47,kQ47⟩,N_Q47.binds (ps:=["self","turn"]) fun _ _ _ _ _ _ us hl=>by obtain ⟨_,_,rfl⟩:=lm2 us hl;exact rfl⟩
  m_Growing_may_stay:=⟨fQ42,_,N_Q42,⟨a_Growing_may_stay,iQ42,kQ42⟩,N_Q42.binds (ps:=["self"]) fun _ _ _ _ _ _ us hl=>by obtain ⟨_,rfl⟩:=lm1 us hl;exact rfl⟩
  m_Growing_out:=⟨fQ44,_,N_Q44,⟨a_Growing_out,iQ44,kQ44⟩,N_Q44.binds (ps:=["self","amount"]) fun _ _ _ _ _ _ us hl=>by obtain ⟨_,_,rfl⟩:=lm2 us hl;exact rfl⟩
  c1_Growing
  c4_Growing
  cl_Leaking:=⟨pg_Leaking,hd_Leaking,po_Leaking,sa_Leaking⟩
  mg_Leaking:=W.mg_of X G n_Leaking
  na_Leaking_loss
  na_Leaking_name
  na_Leaking_start
  na_Leaking_goal
  na_Leaking_high
  na_Leaking_cost
  i_Leaking:=⟨fILeaking,_,N_ILeaking.gen,⟨mk_Leaking,a_Leaking_init,iILeaking,ka_Leaking⟩,fun dvs hd=>by
   simp only [List.mem_cons,List.not_mem_nil,or_false] at hd
   rcases hd with rfl | rfl
   ·exact ⟨[],.nil,N_ILeaking.binds (es:=[]) fun T kV doc pm an cdv ct us hl=>by obtain ⟨_,_,_,_,_,_,_,rfl⟩:=lm7 us (by simpa using hl);exact ⟨_,rfl,rfl⟩⟩
   ·exact ⟨[.none,.none],(.cons rfl (.cons rfl (.nil))),N_ILeaking.binds (es:=[.none,.none]) fun T kV doc pm an cdv ct us hl=>by obtain ⟨_,_,_,_,_,rfl⟩:=lm5 us (by simpa using hl);exact ⟨_,rfl,rfl⟩⟩⟩
  c_Leaking:=⟨fILeaking,_,N_ILeaking.gen,⟨rd_Leaking,sg_Leaking⟩,fc_Leaking,kc_Leaking,N_ILeaking.binds (es:=[]) fun T kV doc pm an cdv ct us hl=>by obtain ⟨_,_,_,_,_,_,_,rfl⟩:=lm7 us (by simpa using hl);exact ⟨_,rfl,rfl⟩⟩
  m_Leaking_gain:=⟨fQ48,_,N_Q48,⟨a_Leaking_gain,iQ48,kQ48⟩,N_Q48.binds (ps:=["self"]) fun _ _ _ _ _ _ us hl=>by obtain ⟨_,rfl⟩:=lm1 us hl;exact rfl⟩
  m_Leaking_at_turn:=⟨fQ49,_,N_Q49,⟨a_Leaking_at_turn,iQ49,kQ49⟩,N_Q49.binds (ps:=["self","turn"]) fun _ _ _ _ _ _ us hl=>by obtain ⟨_,_,rfl⟩:=lm2 us hl;exact rfl⟩
  m_Leaking_may_stay:=⟨fQ42,_,N_Q42,⟨a_Leaking_may_stay,iQ42,kQ42⟩,N_Q42.binds (ps:=["self"]) fun _ _ _ _ _ _ us hl=>by obtain ⟨_,rfl⟩:=lm1 us hl;exact rfl⟩
  m_Leaking_out:=⟨fQ44,_,N_Q44,⟨a_Leaking_out,iQ44,kQ44⟩,N_Q44.binds (ps:=["self","amount"]) fun _ _ _ _ _ _ us hl=>by obtain ⟨_,_,rfl⟩:=lm2 us hl;exact rfl⟩
  c1_Leaking
  c4_Leaking
  cl_Store:=⟨pg_Store,hd_Store,po_Store,sa_Store⟩
  mg_Store:=W.mg_of X G n_Store
  na_Store_loss
  na_Store_name
  na_Store_start
  na_Store_goal
  na_Store_high
  na_Store_cost
  i_Store:=⟨fIStore,_,N_IStore.gen,⟨mk_Store,a_Store_init,iIStore,ka_Store⟩,fun dvs hd=>by
   simp only [List.mem_cons,List.not_mem_nil,or_false] at hd
   rcases hd with rfl | rfl
   ·exact ⟨[],.nil,N_IStore.binds (es:=[]) fun T kV doc pm an cdv ct us hl=>by obtain ⟨_,_,_,_,_,_,rfl⟩:=lm6 us (by simpa using hl);exact ⟨_,rfl,rfl⟩⟩
   ·exact ⟨[.none,.none],(.cons rfl (.cons rfl (.nil))),N_IStore.binds (es:=[.none,.none]) fun T kV doc pm an cdv ct us hl=>by obtain ⟨_,_,_,_,rfl⟩:=lm4 us (by simpa using hl);exact ⟨_,rfl,rfl⟩⟩⟩
  m_Store_may_stay:=⟨fQ50,_,N_Q50,⟨a_Store_may_stay,iQ50,kQ50⟩,N_Q50.binds (ps:=["self"]) fun _ _ _ _ _ _ us hl=>by obtain ⟨_,rfl⟩:=lm1 us hl;exact rfl⟩
  m_Store_at_turn:=⟨fQ51,_,N_Q51,⟨a_Store_at_turn,iQ51,kQ51⟩,N_Q51.binds (ps:=["self","turn"]) fun _ _ _ _ _ _ us hl=>by obtain ⟨_,_,rfl⟩:=lm2 us hl;exact rfl⟩
  m_Store_gain:=⟨fQ48,_,N_Q48,⟨a_Store_gain,iQ48,kQ48⟩,N_Q48.binds (ps:=["self"]) fun _ _ _ _ _ _ us hl=>by obtain ⟨_,rfl⟩:=lm1 us hl;exact rfl⟩
  m_Store_out:=⟨fQ44,_,N_Q44,⟨a_Store_out,iQ44,kQ44⟩,N_Q44.binds (ps:=["self","amount"]) fun _ _ _ _ _ _ us hl=>by obtain ⟨_,_,rfl⟩:=lm2 us hl;exact rfl⟩
  c1_Store
  c4_Store
  cl_Net:=⟨pg_Net,hd_Net,po_Net,sa_Net⟩
  mg_Net:=W.mg_of X G n_Net
  na_Net_wants
  na_Net_ways
  i_Net:=⟨fQ52,_,N_Q52.gen,⟨mk_Net,a_Net_init,iQ52,ka_Net⟩,fun dvs hd=>by
   simp only [List.mem_cons,List.not_mem_nil,or_false] at hd
   subst hd
   exact ⟨[],.nil,N_Q52.binds (ps:=["self","places","ways"]) fun _ _ _ _ _ _ us hl=>by obtain ⟨_,_,_,rfl⟩:=lm3 us hl;exact rfl⟩⟩
  m_Net_names:=⟨fQ53,_,N_Q53,⟨a_Net_names,iQ53,kQ53⟩,N_Q53.binds (ps:=["self"]) fun _ _ _ _ _ _ us hl=>by obtain ⟨_,rfl⟩:=lm1 us hl;exact rfl⟩
  m_Net_want:=⟨fQ54,_,N_Q54,⟨a_Net_want,iQ54,kQ54⟩,N_Q54.binds (ps:=["self","place"]) fun _ _ _ _ _ _ us hl=>by obtain ⟨_,_,rfl⟩:=lm2 us hl;exact rfl⟩
  m_Net_way:=⟨fQ55,_,N_Q55,⟨a_Net_way,iQ55,kQ55⟩,N_Q55.binds (ps:=["self","name"]) fun _ _ _ _ _ _ us hl=>by obtain ⟨_,_,rfl⟩:=lm2 us hl;exact rfl⟩
  m_Net_all_ways:=⟨fQ56,_,N_Q56,⟨a_Net_all_ways,iQ56,kQ56⟩,N_Q56.binds (ps:=["self"]) fun _ _ _ _ _ _ us hl=>by obtain ⟨_,rfl⟩:=lm1 us hl;exact rfl⟩
  no_Net_sign
  no_Net_may_stay
  c2
  c3
  mg_GainError:=W.mg_of X G n_GainError
  mg_TooMany:=W.mg_of X G n_TooMany
  ex_TooMany
  mg_Twice:=W.mg_of X G n_Twice
  xi_Twice:=⟨fQ57,_,N_Q57.gen,eQ57,tQ57,N_Q57.binds (ps:=["self","name"]) fun _ _ _ _ _ _ us hl=>by obtain ⟨_,_,rfl⟩:=lm2 us hl;exact rfl⟩
  xs_Twice:=⟨⟨_,_,xc_Twice,xm_Twice,xh_Twice⟩,xa_Twice⟩
  na_Twice_name
  hd_Twice
  br_Twice:=⟨rdx_Twice,sgx_Twice⟩
  bf_Twice
  mg_NoPlace:=W.mg_of X G n_NoPlace
  xi_NoPlace:=⟨fQ58,_,N_Q58.gen,eQ58,tQ58,N_Q58.binds (ps:=["self","place"]) fun _ _ _ _ _ _ us hl=>by obtain ⟨_,_,rfl⟩:=lm2 us hl;exact rfl⟩
  xs_NoPlace:=⟨⟨_,_,xc_NoPlace,xm_NoPlace,xh_NoPlace⟩,xa_NoPlace⟩
  na_NoPlace_place
  hd_NoPlace
  br_NoPlace:=⟨rdx_NoPlace,sgx_NoPlace⟩
  bf_NoPlace
  ca1_GainError
  ca2_GainError:=⟨_,ca2_GainError⟩
  ca3_GainError
  ca1_NoPlace
  ca2_NoPlace:=⟨_,ca2_NoPlace⟩
  ca3_NoPlace
  ca1_TooMany
  ca2_TooMany:=⟨_,ca2_TooMany⟩
  ca3_TooMany
  ca1_Twice
  ca2_Twice:=⟨_,ca2_Twice⟩
  ca3_Twice
  su_NoPlace_GainError
  su_NoPlace_NoPlace
  su_NoPlace_Twice
  su_TooMany_GainError
  su_TooMany_NoPlace
  su_TooMany_TooMany
  su_TooMany_Twice
  su_Twice_GainError
  su_Twice_Twice
  k_Way_Store
  k_Growing_Store
  k_Leaking_Store
  xga_NoPlace
  xgh_NoPlace
  xbe_NoPlace
  xca_NoPlace
  xob_NoPlace
  xcl_NoPlace:=⟨_,xcl_NoPlace⟩
  k_NoPlace_NoPlace
  k_NoPlace_TooMany
  k_NoPlace_Twice
  k_NoPlace_ValueError
  xga_TooMany
  xgh_TooMany
  xbe_TooMany
  xca_TooMany
  xob_TooMany
  xcl_TooMany:=⟨_,xcl_TooMany⟩
  k_TooMany_NoPlace
  k_TooMany_TooMany
  k_TooMany_Twice
  k_TooMany_ValueError
  xga_Twice
  xgh_Twice
  xbe_Twice
  xca_Twice
  xob_Twice
  xcl_Twice:=⟨_,xcl_Twice⟩
  k_Twice_NoPlace
  k_Twice_TooMany
  k_Twice_Twice
  k_Twice_ValueError
  gi_MOST_PLACES:=⟨_,W.mg_of X G gi_MOST_PLACES⟩
  gi_MOST_WAYS:=⟨_,W.mg_of X G gi_MOST_WAYS⟩
  z_ValueError:=W.mg_none_of X G z_ValueError
  z_abs:=W.mg_none_of X G z_abs
  z_dict:=W.mg_none_of X G z_dict
  z_enumerate:=W.mg_none_of X G z_enumerate
  z_isinstance:=W.mg_none_of X G z_isinstance
  z_len:=W.mg_none_of X G z_len
  z_list:=W.mg_none_of X G z_list
  z_max:=W.mg_none_of X G z_max
  z_range:=W.mg_none_of X G z_range
  z_str:=W.mg_none_of X G z_str
 }
 exact ⟨W.fnOf "law" "law" (defArgs s_law) (defBody s_law) (defScope s_law) .none kVDlaw dcDlaw pmDlaw anDlaw cdDlaw ctDlaw,fun s v=>.of_eq rfl,fun base _ _=>ok_law N_Dlaw T⟩
theorem walkL {l:PySem.W.OpenLaw} {q:Program} {loose:List Str} {XP:(Str→Option Value)→Heap→Prop} {YP:World→Heap→Prop} {d:DefRec} {K:Params→PySem.W.Frag} (hn:l.most=some 63) (hdf:d.params.defaults=[])
  (hY:∀ (w:World) (h:Heap),YP w h→(K w.params).In h)
  (F:∀ (w:World) (mg:Str→Option Value) (fa:Addr) (h:Heap),(K w.params).In h→h.Ns mainGlobals mg→mg d.name=some (.ref fa)→
   ∃ fd:FuncData,(∀ (s:Shared) (u:Value),BindsTo s fd ⟨[u],[]⟩ [("_law_script",u)])∧∀ base:Heap,(K w.params).In base→base.Ns mainGlobals mg→FnOk l.prog w (K w.params) mg base CX0 14 fa fd ["_law_script"] (spLaw (K w.params))) :
  PySem.W.WalkO q loose XP YP l.row.toRowW d [] (fun f vs=>PySem.call f vs):=
 L2.walk_ofB (n:=63) (k:=14) (x:="_law_script") (CX:=fun _=>CX0) (sp:=fun w=>spLaw (K w.params)) hn (by decide) hdf ⟨rfl,by decide,by decide⟩ hY F (fun _ _ a ns hl hb _ hS=>⟨a,ns,rfl,hS,hl,fun i hi=>⟨hb i hi⟩,fun _=>rfl⟩) fun _ _ _ _ _ z=>z
end G
inductive PySem.W.Fast:Prop | tw2638146631545185872 | tw2990076607738032782 | tw7884506549575013251 | tw1862983698241004576 | tw4419265078630383799 | tw3019832458270970385 | tw7183684686170698883 | tw11753204025393709960 | tw4753255477682225181 | tw16363238602748659597 | tw9540302227338862061 | tw13838383757976782557 | tw1394871539963116058 | tw8477801591573200724 | tw16096896609028605424 | tw3021896302341906657 | tw12195564284889021524 | tw3406918575157936788 | tw17706953515646943194 | tw514197437901847538 | tw10595712747269761241 | tw14818532861093592703 | tw5344391727282329475 | tw12066013692121384059 | tw8445940028002800459 | tw12784503588575093150 | tw1649703154692207515 | tw6642697523566499268 | tw16217507177621280828 | tw2598384551831633763 | tw14221347035438756865 | tw9023052490862149605 | tw4544192436090761800 | tw9890823622014663734 | tw17667104599499435025 | tw15610046814461451323 | tw12628819940550146539 | tw4312712878605387952 | tw14359964787038891446 | tw12229377780328193878 | tw13598881669563590188 | tw6138542668554083825 | tw16541870332471152327 | tw13928650089600566919 | tw146199714378590570 | tw6093566398568681844 | tw2487370603197295759 | tw1468143779780191148 | tw10099334943472682548 | tw3445092928786853029 | tw15622873370732989087 | tw13785782940629773414 | tw17722792000398254536 | tw5987215775669079739 | tw239008279211194050 | tw16103399277301390571 | tw12965225986990490587 | tw7460187081383632805 | tw2454622552189961166 | tw14649885875905268831 | tw15312261893230209722 | tw16419763213262280381 | tw15713017318262497624 | tw11135915201120146630 | tw6818538678016022068 | tw2830449045520715486 | tw14845160525767175167 | tw15551077536823807060 | tw473837128141307397 | tw16230222084707275197 | tw4993703784833122518 | tw7890937171233900511 | tw4037996132737346676 | tw11884432034600912473 | tw5359355682791115517 | tw15202813831283927778 | tw5899895859796152155 | tw18235193920122696104 | tw10139355755420083104 | tw9187930334782369708 | tw8294687525953885122 | tw16745828864046888197 | tw13837403805560296876 | tw6795947240921930231 | tw7037130231723800729 | tw5191176834347467698 | tw17409379110723919429 | tw2668645584106109085 | tw1682493911117815516 | tw17431579091091555653 | tw4842605860498888862 | tw13811632932072419504 | tw12892325032340432259 | tw7914352654168197434 | tw7180344930925333406 | tw14050252148779436757 | tw8455164583524737999 | tw7360046098767253046 | tw15000645159263702612 | tw437633562388012568 | tw5312539498900927458 | tw8888132591173314624 | tw13595765962605418383 | tw3701444621709950046 | tw8313056898601526857 | tw14115729504861024841 | tw14015295009630739934 | tw12728358807006586241 | tw15733739581657769582 | tw1705794970317918712 | tw14591574079695265591 | tw4394148656815945533 | tw11897782921863410947 | tw7644479609607144366 | tw16600660086321834575 | tw9551475863324639555
open PySem L2 in
local macro_rules | `(tactic| walk_at $s:str) => do
  let v := s.getString.splitOn " "
  let id (i : Nat) := Lean.mkIdent (Lean.Name.mkSimple s!"o{i}")
  match v with
  | ["H", n] => do
    let hs ← (Array.range n.toNat!).mapM fun i => `(?$(id i):ident)
    `(tactic| refine' G.all_mk $(Lean.mkIdent `KX) $(Lean.mkIdent `GN) $(Lean.mkIdent `hmg) $hs*)
  | [k, a, b] => do
    let ts ← (List.range' a.toNat! (b.toNat! + 1 - a.toNat!)).toArray.mapM fun i => match k with
      | "k" => `(tactic| case $(id i):ident => k_is)
      | "t" => `(tactic| case $(id i):ident => kit_is)
      | "r" => `(tactic| case $(id i):ident => rfl)
      | "e" => `(tactic| case $(id i):ident => kernel_rfl)
      | _ => `(tactic| case $(id i):ident => k_exc)
    `(tactic| ($[$ts];*))
  | _ => Lean.Macro.throwUnsupported
open PySem PySem.W PyProof.Rows
set_option maxRecDepth 100000 in
set_option maxHeartbeats 0 in
theorem PySem.Challenge.cw_gainstream_k64_turns_refused_holds : PySem.Challenge.rw_gainstream_k64_turns_refused.Holds := by
 w_on;o_law;k_head;(case hw=>w_witness2)
 k_fill
 refine G.walkL (l:=PySem.Challenge.rw_gainstream_k64_turns_refused) rfl rfl (fun w h Y=>PySem.W.kIn_of Y) ?F
 case F=>
  intro w mg fa h KX GN hmg
  walk_at "H 482"
  walk_at "k 0 176"
  walk_at "r 177 177"
  walk_at "k 178 220"
  walk_at "r 221 221"
  walk_at "k 222 264"
  walk_at "r 265 265"
  walk_at "k 266 296"
  walk_at "r 297 297"
  walk_at "k 298 332"
  walk_at "r 333 333"
  walk_at "k 334 384"
  walk_at "x 385 385"
  walk_at "k 386 390"
  walk_at "e 391 391"
  walk_at "k 392 392"
  walk_at "r 393 394"
  walk_at "k 395 405"
  walk_at "e 406 406"
  walk_at "k 407 407"
  walk_at "r 408 409"
  walk_at "k 410 436"
  walk_at "t 437 439"
  walk_at "k 440 445"
  walk_at "t 446 449"
  walk_at "k 450 455"
  walk_at "t 456 459"
  walk_at "k 460 465"
  walk_at "t 466 469"
  walk_at "k 470 481"
#print axioms PySem.Challenge.cw_gainstream_k64_turns_refused_holds
