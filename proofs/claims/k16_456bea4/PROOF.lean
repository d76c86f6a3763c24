import PyProof.Rows.All
import Wide.All
import OpenK.AllK
import Wide.FinOn
import Lean
import PyProof.EqAt
import PyProof.EqKinds
import PyProof.TupleCall
import PySem.Challenge.RW_gainstream_k16_faults_and_checked_plans
set_option Elab.async false
set_option linter.all false
set_option maxRecDepth 100000
namespace L2
open PySem PySem.Spec PyProof.Rows
abbrev Key:=Sum Int Str
def keyIs:Key→Value→Bool
 | .inl k,v=>Value.isInt k v
 | .inr x,v=>Value.isStrOf x v
def keyH (w:World):Key→Int
 | .inl k=>hashInt k
 | .inr x=>hashStr w x
theorem bw:∀ {k:Key} {v:Value},keyIs k v=true→(∃ i t,k=Sum.inl i∧v=Value.int i t)∨(∃ x t,k=Sum.inr x∧v=Value.str x t)
 | .inl i,v,h=>by
  obtain ⟨t,e⟩:=Value.isInt_shape (k:=i) (v:=v) h
  exact .inl ⟨i,t,rfl,e⟩
 | .inr x,v,h=>by
  obtain ⟨t,e⟩:=Value.isStrOf_shape (x:=x) (v:=v) h
  exact .inr ⟨x,t,rfl,e⟩
theorem keyIs_int (i:Int) (t:Tok):keyIs (.inl i) (.int i t)=true:=by simp [keyIs,Value.isInt]
theorem keyIs_str (x:Str) (t:Tok):keyIs (.inr x) (.str x t)=true:=by simp [keyIs,Value.isStrOf]
theorem key_ll (a b:Int):decide ((Sum.inl a:Key)=Sum.inl b)=(a == b):=by
 by_cases e:a=b
 ·subst e;simp
 ·have h:¬ (Sum.inl a:Key)=Sum.inl b:=fun q=>e (Sum.inl.inj q)
  rw [decide_eq_false h]
  exact (beq_eq_false_iff_ne.mpr e).symm
theorem key_rr (a b:Str):decide ((Sum.inr a:Key)=Sum.inr b)=decide (a=b):=by
 by_cases e:a=b
 ·subst e;simp
 ·have h:¬ (Sum.inr a:Key)=Sum.inr b:=fun q=>e (Sum.inr.inj q)
  rw [decide_eq_false h,decide_eq_false e]
theorem key_lr (a:Int) (b:Str):decide ((Sum.inl a:Key)=Sum.inr b)=false:=decide_eq_false (fun q=>nomatch q)
theorem key_rl (a:Str) (b:Int):decide ((Sum.inr a:Key)=Sum.inl b)=false:=decide_eq_false (fun q=>nomatch q)
def a9 (prog:Program) (w:World):PySem.KeyKind prog w Key where
 is:=keyIs
 hash:=keyH w
 inj:=fun v a b ha hb=>by
  rcases bw ha with ⟨i,t,rfl,rfl⟩ | ⟨x,t,rfl,rfl⟩
  ·rcases bw hb with ⟨j,u,rfl,e⟩ | ⟨y,u,rfl,e⟩
   ·injection e with e1 _;rw [e1]
   ·exact nomatch e
  ·rcases bw hb with ⟨j,u,rfl,e⟩ | ⟨y,u,rfl,e⟩
   ·exact nomatch e
   ·injection e with e1 _;rw [e1]
 byValue:=fun k v h=>by
  rcases bw h with ⟨i,t,rfl,rfl⟩ | ⟨x,t,rfl,rfl⟩ <;> rfl
 pyHash:=fun hv h=>by
  rcases bw hv with ⟨i,t,rfl,rfl⟩ | ⟨x,t,rfl,rfl⟩
  ·exact wpAny_pyHash_int h
  ·exact wpAny_pyHash_str h
 eqBool:=fun hu hv h=>by
  rcases bw hu with ⟨i,t,rfl,rfl⟩ | ⟨x,t,rfl,rfl⟩
  ·rcases bw hv with ⟨j,u,rfl,rfl⟩ | ⟨y,u,rfl,rfl⟩
   ·rw [key_ll] at h;exact wpAny_eqBool_int h
   ·rw [key_lr] at h;exact SeqAt.EqAt.int_str i t y u _ _ _ _ h
  ·rcases bw hv with ⟨j,u,rfl,rfl⟩ | ⟨y,u,rfl,rfl⟩
   ·rw [key_rl] at h;exact SeqAt.EqAt.str_int x t j u _ _ _ _ h
   ·rw [key_rr] at h;exact wpAny_eqBool_str h
 «strs»:=fun k x t v h=>by
  rcases bw h with ⟨i,u,rfl,e⟩ | ⟨y,u,rfl,e⟩
  ·exact nomatch e
  ·injection e with e1 _
   subst e1
   cases v <;> rfl
theorem mixKind_int (prog:Program) (w:World) (i:Int) (t:Tok):(a9 prog w).is (.inl i) (.int i t)=true:=keyIs_int i t
theorem mixKind_str (prog:Program) (w:World) (x:Str) (t:Tok):(a9 prog w).is (.inr x) (.str x t)=true:=keyIs_str x t
end L2
namespace L2
open PySem PySem.Spec PyProof.Rows
inductive V where
 | non | bl (b:Bool) | int (i:Int) | str (x:Str) | byt (b:Array UInt8) | flt (b:UInt64) | ref (a:Addr) | ty (n:String)
 deriving DecidableEq
def RelV:V→Value→Prop
 | .non,u=>u=Value.none
 | .bl b,u=>u=Value.bool b
 | .int i,u=>∃ t,u=Value.int i t
 | .str x,u=>∃ t,u=Value.str x t
 | .byt b,u=>∃ t,u=Value.bytes b t
 | .flt b,u=>∃ t,u=Value.float b t
 | .ref a,u=>u=Value.ref a
 | .ty n,u=>u=Value.type n
abbrev Vals:List V→List Value→Prop:=Paired RelV
theorem Vals.length {xs:List V} {us:List Value} (r:Vals xs us):xs.length=us.length:=Paired.length r
theorem Vals.get:∀ {xs:List V} {us:List Value} {i:Nat} {x:V},Vals xs us→xs[i]?=some x→∃ u,us[i]?=some u∧RelV x u
 | _,_,_,_,.nil,e=>by simp at e
 | _,_,0,_,.cons r _,e=>by simp at e;subst e;exact ⟨_,rfl,r⟩
 | _,_,i+1,x,.cons _ t,e=>by
  obtain ⟨u,h1,h2⟩:=Vals.get (i:=i) (x:=x) t (by simpa using e)
  exact ⟨u,by simpa using h1,h2⟩
theorem Vals.set {x:V} {u:Value} (r:RelV x u):∀ {xs:List V} {us:List Value} (i:Nat),Vals xs us→Vals (xs.set i x) (us.set i u)
 | _,_,_,.nil=>.nil
 | _,_,0,.cons _ t=>.cons r t
 | _,_,i+1,.cons q t=>.cons q (Vals.set r i t)
theorem Vals.append:∀ {xs ys:List V} {us ws:List Value},Vals xs us→Vals ys ws→Vals (xs++ys) (us++ws)
 | _,_,_,_,.nil,s=>s
 | _,_,_,_,.cons r t,s=>.cons r (Vals.append t s)
theorem Vals.take:∀ {xs:List V} {us:List Value} (n:Nat),Vals xs us→Vals (xs.take n) (us.take n)
 | _,_,0,_=>.nil
 | _,_,_+1,.nil=>.nil
 | _,_,n+1,.cons r t=>.cons r (Vals.take n t)
theorem Vals.drop:∀ {xs:List V} {us:List Value} (n:Nat),Vals xs us→Vals (xs.drop n) (us.drop n)
 | _,_,0,r=>r
 | _,_,_+1,.nil=>.nil
 | _,_,n+1,.cons _ t=>Vals.drop n t
def RelO:Option V→Option Value→Prop
 | some v,some u=>RelV v u
 | none,none=>True
 | _,_=>False
def KV {κ:Type}:List (κ × V)→List (κ × Value)→Prop:=Paired fun (p:κ × V) (q:κ × Value)=>p.1=q.1∧RelV p.2 q.2
def kV:Key→V
 | .inl i=>.int i
 | .inr x=>.str x
inductive HO where
 | lst (xs:List V)
 | tup (xs:List V)
 | dK (kvs:List (Key × V)) | dT (kvs:List (List Key × V))
 | set (S:Int→Bool) (n:Nat)
 | ins (C dx:Addr) (fs:List (Str × V))
 | own (x:Addr)
 | xd (fs:List (Str × V))
 | met (f x:Addr)
 | rng (lo hi:Int)
 | frz (o:Obj) (u:HO)
 | tbl (ps:Array Value)
 | ext (φ:Heap→Prop)
abbrev Hp:=Addr→Option HO
def upd (H:Hp) (a:Addr) (o:HO):Hp:=fun b=>if b=a then some o else H b
theorem ad {H:Hp} {a:Addr} {o:HO}:upd H a o a=some o:=by unfold upd;rw [if_pos rfl]
theorem ak {H:Hp} {a b:Addr} {o:HO} (h:b≠a):upd H a o b=H b:=by unfold upd;rw [if_neg h]
theorem cW {H:Hp} {a:Addr} {o u:HO}:upd (upd H a o) a u=upd H a u:=by
 funext b;unfold upd;split <;> rfl
theorem cS {H:Hp} {a b:Addr} {o u:HO} (h:H a=some o) (h':H b=some u) (d:o≠u):a≠b:=by
 intro e;subst e;rw [h] at h';exact d (Option.some.inj h')
theorem aE {H:Hp} {a b:Addr} {o:HO} (h:H a=some o) (h':H b=none):a≠b:=by
 intro e;subst e;rw [h] at h';cases h'
section
variable (P:Program) (w:World)
def ObjOk (H:Hp) (h:Heap) (a:Addr):HO→Prop
 | .lst xs=>xs.length≤sizeLine∧∃ (its:List Value) (n:Nat),Vals xs its∧h.get? a=some { cls:=.type "list",data:=.seq its.toArray n }
 | .tup xs=>xs.length≤sizeLine∧∃ its:List Value,Vals xs its∧IsTup h a its.toArray
 | .dK kvs=>kvs.length≤sizeLine∧(a == sysModules)=false∧∃ vs,KV kvs vs∧h.DictOf (a9 P w) a vs
 | .dT kvs=>kvs.length≤sizeLine∧(a == sysModules)=false∧∃ xs:List (List Key × Addr × Value),
   Paired (fun (p:List Key × V) (q:List Key × Addr × Value)=>p.1=q.1∧H q.2.1=some (.tup (p.1.map kV))∧RelV p.2 q.2.2) kvs xs∧
   ∃ o es ep,h.get? a=some o∧o.ExactDict∧o.data=.dict es ep∧es.toList=xs.map (entryOfKey (tupleKind (a9 P w)))∧(xs.map (·.1)).Nodup
 | .set S n=>h.SetOf (intKind P w) a S n
 | .ins C dx fs=>H dx=some (.own a)∧fs.length≤1000∧dx≠a∧h.get? a=some (PySem.W.instObj C dx)∧
   ∃ mA,h.Ns1 dx mA∧(∀ f,RelO (fs.lookup f) (mA f))∧PySem.Within mA (fs.map (·.1))
 | .own _=>∃ o,h.get? a=some o
 | .xd fs=>∃ mA,h.Ns1 a mA∧∀ f,RelO (fs.lookup f) (mA f)
 | .rng lo hi=>∃ t u v,h.get? a=some { cls:=.type "range",data:=.fields #[.int lo t,.int hi u,.int 1 v] }
 | .frz o u=>h.get? a=some o∧ObjOk H h a u
 | .tbl ps=>h.get? a=some { cls:=.none,data:=.fields ps }
 | .met f x=>h.get? a=some (PySem.W.methodObj (.ref f) (.ref x))
 | .ext φ=>φ h∧(∃ o,h.get? a=some o)∧∀ h1 h2:Heap,φ h1→(∀ o,h1.get? a=some o→h2.get? a=some o)→φ h2
def HOk (H:Hp) (h:Heap):Prop:=∀ a o,H a=some o→ObjOk P w H h a o
end
section
variable {P:Program} {w:World} {H H':Hp} {h h':Heap} {a:Addr} {o:HO}
theorem ObjOk.lt (x:ObjOk P w H h a o):a<h.objs.size:=by
 cases o with
 | lst xs=>obtain ⟨_,_,_,_,e⟩:=x;exact Heap.lt_size e
 | tup xs=>obtain ⟨_,_,_,p⟩:=x;exact p.lt
 | dK kvs=>obtain ⟨_,_,_,_,o,_,_,e,_⟩:=x;exact Heap.lt_size e
 | dT kvs=>obtain ⟨_,_,_,_,o,_,_,e,_⟩:=x;exact Heap.lt_size e
 | set S n=>obtain ⟨o,_,_,_,e,_⟩:=x;exact Heap.lt_size e
 | ins C dx fs=>obtain ⟨_,_,_,e,_⟩:=x;exact Heap.lt_size e
 | own y=>obtain ⟨_,e⟩:=x;exact Heap.lt_size e
 | xd fs=>obtain ⟨_,⟨_,_,_,e,_⟩,_⟩:=x;exact Heap.lt_size e
 | rng lo hi=>obtain ⟨_,_,_,e⟩:=x;exact Heap.lt_size e
 | frz ob u=>obtain ⟨e,_⟩:=x;exact Heap.lt_size e
 | tbl ps=>exact Heap.lt_size (show h.get? a=some _ from x)
 | met f y=>exact Heap.lt_size (show h.get? a=some _ from x)
 | ext φ=>obtain ⟨_,⟨_,e⟩,_⟩:=x;exact Heap.lt_size e
theorem Paired.mapP {α β:Type} {F G:α→β→Prop}:∀ {l₁:List α} {l₂:List β},Paired F l₁ l₂→(∀ a b,F a b→G a b)→Paired G l₁ l₂
 | _,_,.nil,_=>.nil
 | _,_,.cons r t,f=>.cons (f _ _ r) (Paired.mapP t f)
theorem ObjOk.stay (x:ObjOk P w H h a o) (k:∀ b u,(b=a∨H b=some (.own a))→h.get? b=some u→h'.get? b=some u)
  (ho:∀ b,H b=some (.own a)→H' b=some (.own a)) (ht:∀ b xs,H b=some (.tup xs)→H' b=some (.tup xs)):ObjOk P w H' h' a o:=by
 induction o with
 | lst xs=>obtain ⟨z,its,n,r,e⟩:=x;exact ⟨z,its,n,r,k _ _ (.inl rfl) e⟩
 | tup xs=>obtain ⟨z,its,r,ob,e,c⟩:=x;exact ⟨z,its,r,ob,k _ _ (.inl rfl) e,c⟩
 | dK kvs=>obtain ⟨z,y,vs,r,ob,es,ep,e,c⟩:=x;exact ⟨z,y,vs,r,ob,es,ep,k _ _ (.inl rfl) e,c⟩
 | dT kvs=>
  obtain ⟨z,y,xs,r,ob,es,ep,e,c⟩:=x
  exact ⟨z,y,xs,Paired.mapP r fun p q z=>⟨z.1,ht _ _ z.2.1,z.2.2⟩,ob,es,ep,k _ _ (.inl rfl) e,c⟩
 | set S n=>obtain ⟨ob,es,ep,t,e,c⟩:=x;exact ⟨ob,es,ep,t,k _ _ (.inl rfl) e,c⟩
 | ins C dx fs=>
  obtain ⟨d,z,ne,e,mA,⟨od,es,ep,e2,c⟩,r⟩:=x
  exact ⟨ho _ d,z,ne,k _ _ (.inl rfl) e,mA,⟨od,es,ep,k _ _ (.inr d) e2,c⟩,r⟩
 | own y=>obtain ⟨ob,e⟩:=x;exact ⟨ob,k _ _ (.inl rfl) e⟩
 | xd fs=>obtain ⟨mA,⟨od,es,ep,e,c⟩,r⟩:=x;exact ⟨mA,⟨od,es,ep,k _ _ (.inl rfl) e,c⟩,r⟩
 | rng lo hi=>obtain ⟨t,u,v,e⟩:=x;exact ⟨t,u,v,k _ _ (.inl rfl) e⟩
 | frz ob u ih=>obtain ⟨e,q⟩:=x;exact ⟨k _ _ (.inl rfl) e,ih q⟩
 | tbl ps=>
  have e:h.get? a=some { cls:=.none,data:=.fields ps }:=x
  show h'.get? a=some { cls:=.none,data:=.fields ps }
  exact k a _ (.inl rfl) e
 | met f y=>
  have e:h.get? a=some (PySem.W.methodObj (.ref f) (.ref y)):=x
  show h'.get? a=some (PySem.W.methodObj (.ref f) (.ref y))
  exact k a _ (.inl rfl) e
 | ext φ=>obtain ⟨p,⟨o,e⟩,st⟩:=x;exact ⟨st _ _ p fun o q=>k _ _ (.inl rfl) q,⟨o,k _ _ (.inl rfl) e⟩,st⟩
theorem HOk.lt (x:HOk P w H h) (e:H a=some o):a<h.objs.size:=(x a o e).lt
theorem HOk.fresh (x:HOk P w H h) (e:h.objs.size≤a):H a=none:=by
 cases q:H a with
 | none=>rfl
 | some u=>exact absurd (Nat.lt_of_lt_of_le (x.lt q) e) (Nat.lt_irrefl _)
theorem HOk.kept (x:HOk P w H h) (k:∀ b u,h.get? b=some u→h'.get? b=some u):HOk P w H h':=fun a o e=>
 (x a o e).stay (fun b u _ q=>k b u q) (fun _ q=>q) fun _ _ q=>q
theorem HOk.laid (x:HOk P w H h) (k:∀ b u,h.get? b=some u→h'.get? b=some u) (hp:h.objs.size≤a) (new:ObjOk P w (upd H a o) h' a o):HOk P w (upd H a o) h':=fun b u e=>by
 have hn:=x.fresh hp
 by_cases hb:b=a
 ·subst hb;rw [ad] at e;cases e;exact new
 ·rw [ak hb] at e
  exact (x b u e).stay (fun c v _ q=>k c v q) (fun c q=>by rw [ak (aE q hn)];exact q) fun c xs q=>by rw [ak (aE q hn)];exact q
end
def Rd (H:Hp) (a:Addr) (u:HO):Prop:=H a=some u∨∃ o,H a=some (.frz o u)
theorem Rd.ok {P:Program} {w:World} {H:Hp} {h:Heap} {a:Addr} {u:HO} (r:Rd H a u) (x:HOk P w H h):ObjOk P w H h a u:=by
 rcases r with r | ⟨o,r⟩
 ·exact x a u r
 ·obtain ⟨_,q⟩:=x a _ r
  exact q
def Mut:Option HO→Prop
 | some (.lst _)=>True
 | some (.dK _)=>True
 | some (.dT _)=>True
 | some (.set _ _)=>True
 | some (.ins _ _ _)=>True
 | some (.ext _)=>True
 | _=>False
section
variable {P:Program} {w:World} {H:Hp} {h h':Heap} {x e:Addr} {o':HO}
theorem HOk.write (ok:HOk P w H h) (mu:Mut (H x)) (he:e=x∨H e=some (.own x)) (k:∀ b u,b≠e→h.get? b=some u→h'.get? b=some u) (heo:∃ u,h'.get? e=some u)
  (new:ObjOk P w (upd H x o') h' x o'):HOk P w (upd H x o') h':=fun b u q=>by
 have nown:∀ c y,H c=some (.own y)→c≠x:=fun c y r z=>by subst z;rw [r] at mu;exact mu
 have ntup:∀ c xs,H c=some (.tup xs)→c≠x:=fun c xs r z=>by subst z;rw [r] at mu;exact mu
 by_cases hb:b=x
 ·subst hb;rw [ad] at q;cases q;exact new
 ·rw [ak hb] at q
  by_cases hbe:b=e
  ·have q':H b=some (.own x):=by
    rcases he with z | z
    ·exact absurd (hbe.trans z) hb
    ·rw [hbe];exact z
   rw [q] at q';cases q'
   obtain ⟨v,hv⟩:=heo
   exact ⟨v,by rw [hbe];exact hv⟩
  ·refine (ok b u q).stay (fun c v hc r=>k c v ?_ r) (fun c r=>by rw [ak (nown c b r)];exact r) fun c xs r=>by rw [ak (ntup c xs r)];exact r
   rcases hc with rfl | hc
   ·exact hbe
   ·rintro rfl
    rcases he with z | z
    ·exact nown c b hc z
    ·rw [hc] at z;cases z;exact hb rfl
end
structure Un (fs ex:List Addr) (H H':Hp) (h h':Heap):Prop where
 keep:∀ b o,h.get? b=some o→H b=none→b ∉ fs→b ∉ ex→h'.get? b=some o
 slot:∀ b o,h.get? b=some o→H b=none→b∈fs→b ∉ ex→∃ sl,h'.get? b=some { o with slots:=sl }
 free:∀ b o,h.get? b=some o→H b=none→b ∉ ex→H' b=none
 there:∀ b o,h.get? b=some o→b ∉ ex→∃ o',h'.get? b=some o'
 tups:∀ b xs,H b=some (.tup xs)→H' b=some (.tup xs)
 frzs:∀ b o u,H b=some (.frz o u)→H' b=some (.frz o u)
 tbls:∀ b ps,H b=some (.tbl ps)→∃ more,H' b=some (.tbl (ps++more))
section
variable {fs fs' ex ex':List Addr} {H H1 H2:Hp} {h h1 h2 h':Heap} {a x e:Addr} {o:HO}
theorem Un.any (u:Un fs ex H H1 h h1) {b:Addr} {ob:Obj} (q:h.get? b=some ob) (n:H b=none) (hx:b ∉ ex):∃ sl,h1.get? b=some { ob with slots:=sl }:=by
 by_cases hb:b∈fs
 ·exact u.slot b ob q n hb hx
 ·exact ⟨ob.slots,u.keep b ob q n hb hx⟩
theorem Un.kept (k:∀ b u,h.get? b=some u→h'.get? b=some u):Un fs ex H H h h':=
 ⟨fun b ob q _ _ _=>k b ob q,fun b ob q _ _ _=>⟨ob.slots,k b ob q⟩,fun _ _ _ n _=>n,fun b ob q _=>⟨ob,k b ob q⟩,fun _ _ q=>q,fun _ _ _ q=>q,fun _ ps q=>⟨#[],by rw [q];simp⟩⟩
theorem Un.refl:Un fs ex H H h h:=Un.kept fun _ _ q=>q
theorem Un.laid (k:∀ b u,h.get? b=some u→h'.get? b=some u) (hp:h.objs.size≤a) (hn:H a=none):Un fs ex H (upd H a o) h h' where
 keep:=fun b u q _ _ _=>k b u q
 slot:=fun b u q _ _ _=>⟨u.slots,k b u q⟩
 free:=fun b u q n _=>by rw [ak (Nat.ne_of_lt (Nat.lt_of_lt_of_le (Heap.lt_size q) hp))];exact n
 there:=fun b u q _=>⟨u,k b u q⟩
 tups:=fun b xs q=>by rw [ak (aE q hn)];exact q
 frzs:=fun b u xs q=>by rw [ak (aE q hn)];exact q
 tbls:=fun b ps q=>⟨#[],by rw [ak (aE q hn),q];simp⟩
theorem Un.write (mu:Mut (H x)) (he:e=x∨H e=some (.own x)) (k:∀ b u,b≠e→h.get? b=some u→h'.get? b=some u) (heo:∃ u,h'.get? e=some u):Un fs ex H (upd H x o) h h':=by
 have hx:∀ b,H b=none→b≠x:=fun b n z=>by subst z;rw [n] at mu;exact mu
 have hb:∀ b,H b=none→b≠e:=fun b n z=>by
  subst z
  rcases he with r | r
  ·exact hx b n r
  ·rw [n] at r;cases r
 have hm:∀ b u,H b=some u→¬ Mut (some u)→b≠x:=fun b u q nm z=>by subst z;rw [q] at mu;exact nm mu
 refine ⟨fun b u q n _ _=>k b u (hb b n) q,fun b u q n _ _=>⟨u.slots,k b u (hb b n) q⟩,fun b u q n _=>by rw [ak (hx b n)];exact n,fun b u q _=>?_,
  fun b xs q=>by rw [ak (hm b _ q fun z=>z)];exact q,fun b u xs q=>by rw [ak (hm b _ q fun z=>z)];exact q,fun b ps q=>⟨#[],by rw [ak (hm b _ q fun z=>z),q];simp⟩⟩
 by_cases hbe:b=e
 ·subst hbe;exact heo
 ·exact ⟨u,k b u hbe q⟩
end
def trk (h:Heap) (H:Hp):List Addr:=(List.range h.objs.size).filter fun a=>(H a).isSome
def hidT (h:Heap) (H:Hp):Heap:=PySem.W.hideAll h (trk h H)
theorem hidT_size (h:Heap) (H:Hp):(hidT h H).objs.size=h.objs.size:=PySem.W.hideAll_size _ _
theorem hidT_get {h:Heap} {H:Hp} {b:Addr} {o:Obj} (e:h.get? b=some o) (n:H b=none):(hidT h H).get? b=some o:=
 PySem.W.hideAll_get _ e fun hm=>by
  have q:(H b).isSome=true:=(List.mem_filter.mp hm).2
  rw [n] at q;simp at q
theorem of_hidT {h:Heap} {H:Hp} {b:Addr} {o:Obj} (e:(hidT h H).get? b=some o):h.get? b=some o∧H b=none:=by
 have e':h.get? b=some o:=PySem.W.of_hideAll (trk h H) e
 refine ⟨e',?_⟩
 cases q:H b with
 | none=>rfl
 | some x=>
  have hm:b∈trk h H:=List.mem_filter.mpr ⟨List.mem_range.mpr (Heap.lt_size e'),by simp [q]⟩
  have z:(hidT h H).get? b=none:=PySem.W.hideAll_none (trk h H) hm
  rw [z] at e;cases e
def allNews (g h:Heap) (L:Addr):List (Addr × Obj):=(List.range h.objs.size).filterMap fun a=>if a=L∨(g.get? a).isSome=true then none else (h.get? a).map fun o=>(a,o)
def rest (g h:Heap) (L d:Addr):List (Addr × Obj):=(allNews g h L).filter fun p=>decide (p.1≠d)
end L2
namespace L2
open PySem PySem.Spec PyProof.Rows
structure Mod (K:PySem.W.Frag) (mg:Str→Option Value) (base:Heap):Prop where
 kin:K.In base
 glob:base.Ns mainGlobals mg
 blt:∃ mb,base.Ns builtinsNs mb∧∀ x:Str,x≠"__name__"→mb x=bootBuiltins x
 nolimit:base.NoLimit
structure Cx where
 prog:Program
 w:World
 K:PySem.W.Frag
 mg:Str→Option Value
 base:Heap
 A:Around
 N:List Str
 s₀:Shared
 H₀:Hp
 env:Env
 outer:List Env
 stack:List Env
 ex:List Addr
 fn:Str→Bool
 calm:Bool
 pn:List (Addr × Obj)
 xe:Value→Shared→Prop
def frs (l:List Env):List Addr:=l.filterMap (·.frame)
abbrev Cx.fs (X:Cx):List Addr:=frs X.outer
def Vis (sc:Scope) (x:Str):Prop:=sc.names.lookup x=some .local∨sc.names.lookup x=some .cell∨sc.names.lookup x=some .free
def Loc (sc:Scope) (x:Str):Prop:=sc.names.lookup x=some .local∨sc.names.lookup x=some .cell
def Look (env:Env) (h:Heap) (m:Str→Option Value) (x:Str) (u:Value):Prop:=
 (env.kindOf x=some .local∧m x=some u)∨((env.kindOf x=some .cell∨env.kindOf x=some .free)∧∃ c,env.cells.lookup x=some c∧h.IsCell c (some u))
structure Cx.Ok (X:Cx):Prop where
 mod:Mod X.K X.mg X.base
 kind:X.env.scope.kind=.function
 glob:X.env.globals=mainGlobals
 blt:X.env.builtins=builtinsNs
 above:X.s₀.heap.objs.size≤X.env.locals
 inj:∀ x y c,X.env.cells.lookup x=some c→X.env.cells.lookup y=some c→x=y
 has:∀ x,(X.env.kindOf x=some .cell∨X.env.kindOf x=some .free)→∃ c,X.env.cells.lookup x=some c
 cab:∀ x c,X.fn x=true→X.env.cells.lookup x=some c→X.s₀.heap.objs.size≤c
 hd:X.calm=true→X.A.handled=none
 frames:X.A.frames=some X.stack
 stk:X.stack=X.outer∨(X.stack=X.env::X.outer∧X.env.frame=some X.env.locals)
 exf:∀ b∈X.ex,b≠X.env.locals∧∀ x c,X.env.cells.lookup x=some c→c≠b
 bs:∀ b o,X.base.get? b=some o→X.s₀.heap.get? b=some o∧X.H₀ b=none
 bsz:X.base.objs.size≤X.s₀.heap.objs.size
 noex:∀ b o,X.base.get? b=some o→b ∉ X.ex
 exfs:∀ b∈X.ex,b ∉ X.fs
 funs:X.s₀.heap.FunFrames X.base X.outer
 frf:∀ b∈X.fs,X.H₀ b=none
structure Inv (X:Cx) (pins:List (Addr × Obj)) (σ:List (Option V)) (H:Hp) (s:Shared):Prop where
 ok:X.Ok
 os:s.os=X.s₀.os
 bare:AllBare s.gens
 base:Un X.fs X.ex X.H₀ H X.s₀.heap s.heap
 loc:∃ m,s.heap.Ns X.env.locals m∧∀ (i:Nat) (x:Str) (v:V),X.N[i]?=some x→σ[i]?=some (some v)→Vis X.env.scope x→∃ u,RelV v u∧Look X.env s.heap m x u
 cell:∀ x c,X.env.cells.lookup x=some c→∃ v,s.heap.IsCell c v
 free:H X.env.locals=none
 freeC:∀ x c,X.env.cells.lookup x=some c→H c=none
 pin:∀ p∈X.pn++pins,s.heap.get? p.1=some p.2∧H p.1=none∧p.1≠X.env.locals∧p.1 ∉ X.fs∧∀ v,p.2.data≠.cell v
 hok:HOk X.prog X.w H s.heap
 len:σ.length=X.N.length
section
variable {X:Cx} {pins:List (Addr × Obj)} {σ:List (Option V)} {H H':Hp} {s:Shared} {h':Heap}
theorem Cx.Ok.nofr (ok:X.Ok) {b:Addr} {o:Obj} (e:X.base.get? b=some o):b ∉ X.fs:=fun hb=>by
 have:=(ok.funs.mem hb).1
 rw [e] at this;cases this
theorem Inv.bs (I:Inv X pins σ H s):∀ b o,X.base.get? b=some o→s.heap.get? b=some o∧H b=none:=fun b o e=>
 ⟨I.base.keep b o (I.ok.bs b o e).1 (I.ok.bs b o e).2 (I.ok.nofr e) (I.ok.noex b o e),I.base.free b o (I.ok.bs b o e).1 (I.ok.bs b o e).2 (I.ok.noex b o e)⟩
theorem Inv.bk (I:Inv X pins σ H s):∀ b o,X.base.get? b=some o→s.heap.get? b=some o:=fun b o e=>(I.bs b o e).1
theorem Inv.mod (I:Inv X pins σ H s):Mod X.K X.mg X.base:=I.ok.mod
theorem Inv.kIn (I:Inv X pins σ H s):X.K.In s.heap:=I.ok.mod.kin.keeps I.bk
theorem Inv.lt (I:Inv X pins σ H s):X.env.locals<s.heap.objs.size:=let ⟨_,hn,_⟩:=I.loc;hn.lt
theorem Inv.sz (I:Inv X pins σ H s):X.s₀.heap.objs.size≤s.heap.objs.size:=Nat.le_trans I.ok.above (Nat.le_of_lt I.lt)
theorem Inv.nofs (I:Inv X pins σ H s) {a:Addr} (h:s.heap.objs.size≤a):a ∉ X.fs:=fun hb=>by
 obtain ⟨_,o,ho,_⟩:=I.ok.funs.mem hb
 exact absurd (Nat.lt_of_lt_of_le (Heap.lt_size ho) (Nat.le_trans I.sz h)) (Nat.lt_irrefl _)
theorem Inv.cne (I:Inv X pins σ H s):∀ x c,X.env.cells.lookup x=some c→c≠X.env.locals:=fun x c e z=>by
 obtain ⟨v,o,ho,hd⟩:=I.cell x c e
 obtain ⟨m,⟨o',es,ep,ho',hd',_⟩,_⟩:=I.loc
 rw [z,ho'] at ho;cases ho;rw [hd'] at hd;cases hd
theorem Inv.funs (I:Inv X pins σ H s):s.heap.FunFrames X.base X.outer:=by
 have all:∀ (l:List Env),(∀ b∈frs l,b∈X.fs)→X.s₀.heap.FunFrames X.base l→s.heap.FunFrames X.base l:=by
  intro l
  induction l with
  | nil=>intro _ _;trivial
  | cons env r ih=>
   intro hs hl
   obtain ⟨hk,⟨L,o,hf,hn,ho,hd⟩,hr⟩:=hl
   have hL:L∈X.fs:=hs L (by unfold frs;rw [List.filterMap_cons,hf];exact List.mem_cons_self)
   obtain ⟨sl,e⟩:=I.base.slot L o ho (I.ok.frf L hL) hL fun z=>I.ok.exfs L z hL
   exact ⟨hk,⟨L,_,hf,hn,e,hd⟩,ih (fun b hb=>hs b (by unfold frs;rw [List.filterMap_cons,hf];exact List.mem_cons_of_mem _ hb)) hr⟩
 exact all X.outer (fun _ hb=>hb) I.ok.funs
theorem Inv.stack (I:Inv X pins σ H s):s.heap.FunFrames X.base X.stack:=by
 rcases I.ok.stk with e | ⟨e,hf⟩
 ·rw [e];exact I.funs
 ·rw [e]
  obtain ⟨m,hn,_⟩:=I.loc
  refine .cons (by rw [I.ok.kind];decide) hf hn ?_ I.funs
  exact Heap.get?_none_of_le (Nat.le_trans I.ok.bsz I.ok.above)
theorem Inv.stkSub (I:Inv X pins σ H s):∀ b∈frs X.stack,b∈X.env.locals::X.fs:=fun b hb=>by
 rcases I.ok.stk with e | ⟨e,hf⟩
 ·rw [e] at hb;exact List.mem_cons_of_mem _ hb
 ·rw [e] at hb
  unfold frs at hb
  rw [List.filterMap_cons,hf] at hb
  exact hb
theorem Inv.stkFree (I:Inv X pins σ H s):∀ b∈frs X.stack,H b=none:=fun b hb=>by
 rcases List.mem_cons.mp (I.stkSub b hb) with e | hb
 ·rw [e];exact I.free
 ·obtain ⟨_,o,ho,_⟩:=I.ok.funs.mem hb
  exact I.base.free b o ho (I.ok.frf b hb) fun z=>I.ok.exfs b z hb
theorem Inv.step {g':Array GenState} {t':Nat} {d':Drawn} {ch:List Addr} (I:Inv X pins σ H s)
  (hch:∀ b∈ch,(b∈X.ex∨X.s₀.heap.objs.size≤b)∧b≠X.env.locals∧(∀ x c,X.env.cells.lookup x=some c→c≠b)∧∀ p∈X.pn++pins,p.1≠b)
  (keep:∀ b o,b≠X.env.locals→b ∉ X.fs→b ∉ ch→s.heap.get? b=some o→H b=none→h'.get? b=some o)
  (slot:∀ b o,b≠X.env.locals→b∈X.fs→b ∉ ch→s.heap.get? b=some o→H b=none→∃ sl,h'.get? b=some { o with slots:=sl }) (free:∀ b o,b ∉ ch→s.heap.get? b=some o→H b=none→H' b=none)
  (there:∀ b o,b ∉ ch→s.heap.get? b=some o→∃ o',h'.get? b=some o')
  (tups:∀ b xs,H b=some (.tup xs)→H' b=some (.tup xs)) (frzs:∀ b o u,H b=some (.frz o u)→H' b=some (.frz o u)) (tbls:∀ b ps,H b=some (.tbl ps)→∃ more,H' b=some (.tbl (ps++more)))
  (ns:∀ m,s.heap.Ns X.env.locals m→h'.Ns X.env.locals m) (hok:HOk X.prog X.w H' h') (hg:AllBare g') :
  Inv X pins σ H' { s with heap:=h',gens:=g',drawn:=d',toks:=t' }:=by
 have neL:∀ b o,X.s₀.heap.get? b=some o→b≠X.env.locals:=fun b o e=>Nat.ne_of_lt (Nat.lt_of_lt_of_le (Heap.lt_size e) I.ok.above)
 have neC:∀ b o,X.s₀.heap.get? b=some o→b ∉ X.ex→b ∉ ch:=fun b o e hx hb=>by
  rcases (hch b hb).1 with z | z
  ·exact hx z
  ·exact absurd (Nat.lt_of_lt_of_le (Heap.lt_size e) z) (Nat.lt_irrefl _)
 have cellK:∀ x c,X.env.cells.lookup x=some c→∀ v,s.heap.IsCell c v→h'.IsCell c v:=fun x c e v ⟨o,ho,hd⟩=>by
  have nch:c ∉ ch:=fun z=>(hch c z).2.2.1 x c e rfl
  by_cases hc:c∈X.fs
  ·obtain ⟨sl,q⟩:=slot c o (I.cne x c e) hc nch ho (I.freeC x c e)
   exact ⟨_,q,hd⟩
  ·exact ⟨o,keep c o (I.cne x c e) hc nch ho (I.freeC x c e),hd⟩
 refine ⟨I.ok,I.os,hg,⟨fun b o e n hb hx=>?_,fun b o e n hb hx=>?_,fun b o e n hx=>?_,fun b o e hx=>?_,fun b xs e=>tups b xs (I.base.tups b xs e),fun b o xs e=>frzs b o xs (I.base.frzs b o xs e),fun b ps e=>?_⟩,?_,fun x c e=>?_,?_,fun x c e=>?_,fun p hp=>?_,hok,I.len⟩
 ·exact keep b o (neL b o e) hb (neC b o e hx) (I.base.keep b o e n hb hx) (I.base.free b o e n hx)
 ·obtain ⟨sl,e1⟩:=I.base.slot b o e n hb hx
  obtain ⟨sl',e2⟩:=slot b _ (neL b o e) hb (neC b o e hx) e1 (I.base.free b o e n hx)
  exact ⟨sl',e2⟩
 ·obtain ⟨o',e1⟩:=I.base.there b o e hx
  exact free b o' (neC b o e hx) e1 (I.base.free b o e n hx)
 ·obtain ⟨o',e1⟩:=I.base.there b o e hx
  exact there b o' (neC b o e hx) e1
 ·obtain ⟨m1,e1⟩:=I.base.tbls b ps e
  obtain ⟨m2,e2⟩:=tbls b _ e1
  exact ⟨m1++m2,by rw [e2,Array.append_assoc]⟩
 ·obtain ⟨m,hn,hl⟩:=I.loc
  refine ⟨m,ns m hn,fun i x v e1 e2 e3=>?_⟩
  obtain ⟨u,r,l⟩:=hl i x v e1 e2 e3
  refine ⟨u,r,?_⟩
  rcases l with l | ⟨k,c,e,z⟩
  ·exact .inl l
  ·exact .inr ⟨k,c,e,cellK x c e _ z⟩
 ·obtain ⟨v,z⟩:=I.cell x c e
  exact ⟨v,cellK x c e v z⟩
 ·obtain ⟨m,⟨o,_,_,ho,_⟩,_⟩:=I.loc
  exact free _ o (fun z=>(hch _ z).2.1 rfl) ho I.free
 ·obtain ⟨v,o,ho,hd⟩:=I.cell x c e
  exact free c o (fun z=>(hch c z).2.2.1 x c e rfl) ho (I.freeC x c e)
 ·obtain ⟨e,n,ne,nf,d⟩:=I.pin p hp
  have nch:p.1 ∉ ch:=fun z=>(hch p.1 z).2.2.2 p hp rfl
  exact ⟨keep p.1 p.2 ne nf nch e n,free p.1 p.2 nch e n,ne,nf,d⟩
theorem Inv.un {t':Nat} (I:Inv X pins σ H s) (u:Un X.fs [] H H' s.heap h') (hok:HOk X.prog X.w H' h'):Inv X pins σ H' { s with heap:=h',toks:=t' }:=by
 obtain ⟨m,⟨o,es,ep,ho,r⟩,_⟩:=id I.loc
 obtain ⟨sl,hL⟩:=u.any ho I.free (by simp)
 exact I.step (g':=s.gens) (d':=s.drawn) (ch:=[]) (fun _ z=>nomatch z) (fun b o _ hb _ e n=>u.keep b o e n hb (by simp)) (fun b o _ hb _ e n=>u.slot b o e n hb (by simp)) (fun b o _ e n=>u.free b o e n (by simp)) (fun b o _ e=>u.there b o e (by simp)) u.tups u.frzs u.tbls (fun m' hm=>by
  obtain ⟨o',es',ep',ho',r'⟩:=hm
  rw [ho] at ho';cases ho'
  exact ⟨_,es',ep',hL,r'⟩) hok I.bare
theorem Inv.call {g':Array GenState} {t':Nat} {d':Drawn} {ch:List Addr} (I:Inv X pins σ H s) (u:Un (frs X.stack) ch H H' s.heap h') (hok:HOk X.prog X.w H' h') (hg:AllBare g')
  (hch:∀ b∈ch,(b∈X.ex∨X.s₀.heap.objs.size≤b)∧b≠X.env.locals∧(∀ x c,X.env.cells.lookup x=some c→c≠b)∧∀ p∈X.pn++pins,p.1≠b) :
  Inv X pins σ H' { s with heap:=h',gens:=g',drawn:=d',toks:=t' }:=by
 obtain ⟨m,⟨o,es,ep,ho,r⟩,_⟩:=id I.loc
 obtain ⟨sl,hL⟩:=u.any ho I.free fun z=>(hch _ z).2.1 rfl
 exact I.step (ch:=ch) hch (fun b o hL hb hc e n=>u.keep b o e n (fun z=>(List.mem_cons.mp (I.stkSub b z)).elim hL hb) hc) (fun b o _ _ hc e n=>u.any e n hc) (fun b o hc e n=>u.free b o e n hc) (fun b o hc e=>u.there b o e hc) u.tups u.frzs u.tbls (fun m' hm=>by
  obtain ⟨o',es',ep',ho',r'⟩:=hm
  rw [ho] at ho';cases ho'
  exact ⟨_,es',ep',hL,r'⟩) hok hg
theorem Inv.turned {t':Nat} {it:Addr} (I:Inv X pins σ H s) (k:∀ b o,b≠it→s.heap.get? b=some o→h'.get? b=some o) (hn:H it=none) (hL:it≠X.env.locals)
  (h1:it∈X.ex∨X.s₀.heap.objs.size≤it) (h2:∀ x c,X.env.cells.lookup x=some c→c≠it) (h3:∀ p∈X.pn++pins,p.1≠it):Inv X pins σ H { s with heap:=h',toks:=t' }:=by
 have nit:∀ b u,H b=some u→b≠it:=fun b u e z=>by rw [z,hn] at e;cases e
 refine I.step (g':=s.gens) (d':=s.drawn) (ch:=[it]) (fun b hb=>?_) (fun b o _ _ hc e _=>k b o (fun z=>hc (by simp [z])) e) (fun b o _ _ hc e _=>⟨o.slots,k b o (fun z=>hc (by simp [z])) e⟩) (fun _ _ _ _ n=>n)
  (fun b o hc e=>⟨o,k b o (fun z=>hc (by simp [z])) e⟩) (fun _ _ e=>e) (fun _ _ _ e=>e) (fun b ps e=>⟨#[],by rw [e];simp⟩) (fun m hm=>?_) (fun b u e=>?_) I.bare
 ·have e:b=it:=by simpa using hb
  subst e
  exact ⟨h1,hL,h2,h3⟩
 ·obtain ⟨o,es,ep,ho,r⟩:=hm
  exact ⟨o,es,ep,k _ o (Ne.symm hL) ho,r⟩
 ·refine (I.hok b u e).stay (fun c v hc q=>k c v ?_ q) (fun _ q=>q) fun _ _ q=>q
  rcases hc with z | z
  ·rw [z];exact nit b u e
  ·exact nit c _ z
theorem Inv.tok (I:Inv X pins σ H s) (t:Nat):Inv X pins σ H { s with toks:=t }:=I.un (h':=s.heap) (t':=t) Un.refl I.hok
theorem Inv.kept {t':Nat} (I:Inv X pins σ H s) (k:∀ b u,s.heap.get? b=some u→h'.get? b=some u):Inv X pins σ H { s with heap:=h',toks:=t' }:=I.un (Un.kept k) (I.hok.kept k)
theorem Inv.laid {a:Addr} {o:HO} {t':Nat} (I:Inv X pins σ H s) (k:∀ b u,s.heap.get? b=some u→h'.get? b=some u) (hp:s.heap.objs.size≤a) (new:ObjOk X.prog X.w (upd H a o) h' a o) :
  Inv X pins σ (upd H a o) { s with heap:=h',toks:=t' }:=I.un (Un.laid k hp (I.hok.fresh hp)) (I.hok.laid k hp new)
theorem Inv.write {x e:Addr} {o:HO} {t':Nat} (I:Inv X pins σ H s) (mu:Mut (H x)) (he:e=x∨H e=some (.own x)) (k:∀ b u,b≠e→s.heap.get? b=some u→h'.get? b=some u) (heo:∃ u,h'.get? e=some u)
  (new:ObjOk X.prog X.w (upd H x o) h' x o):Inv X pins σ (upd H x o) { s with heap:=h',toks:=t' }:=I.un (Un.write mu he k heo) (I.hok.write mu he k heo new)
theorem Inv.pins_of {pins':List (Addr × Obj)} (I:Inv X pins σ H s) (h:∀ p∈pins',s.heap.get? p.1=some p.2∧H p.1=none∧p.1≠X.env.locals∧p.1 ∉ X.fs∧∀ v,p.2.data≠.cell v):Inv X pins' σ H s:=
 ⟨I.ok,I.os,I.bare,I.base,I.loc,I.cell,I.free,I.freeC,fun p hp=>(List.mem_append.mp hp).elim (fun z=>I.pin p (List.mem_append_left _ z)) (h p),I.hok,I.len⟩
theorem nodup_ix {N:List Str} (hN:N.Nodup) {i j:Nat} {x:Str} (a:N[i]?=some x) (b:N[j]?=some x):i=j:=by
 obtain ⟨h1,e1⟩:=List.getElem?_eq_some_iff.mp a
 obtain ⟨h2,e2⟩:=List.getElem?_eq_some_iff.mp b
 exact (List.getElem_inj hN).mp (e1.trans e2.symm)
theorem store_ok2 {M:Model} {A:Around} {E:Value→Shared→Prop} {i:Nat} {x:Str} {v:V} {u:Value} {Q:Unit→Shared→Prop} (I:Inv X pins σ H s) (hN:X.N.Nodup) (hi:X.N[i]?=some x) (hx:Loc X.env.scope x) (r:RelV v u)
  (h:∀ s',Inv X pins (σ.set i (some v)) H s'→(∃ a,Heap.SameBut a s.heap s'.heap∧(a=X.env.locals∨X.env.cells.lookup x=some a))→Q () s') (hf:X.fn x=true∨X.env.scope.names.lookup x=some .local:=by first | exact .inl rfl | exact .inr rfl | assumption):wpAny M A (storeName X.env x u) Q E s:=by
 obtain ⟨m,hn,hl⟩:=id I.loc
 have hcls:(X.env.scope.kind == .class || (X.env.scope.kind == .module && X.env.locals != X.env.globals))=false:=by rw [I.ok.kind];rfl
 have hiσ:i < σ.length:=by rw [I.len];exact (List.getElem?_eq_some_iff.mp hi).1
 have cne:=I.cne
 have tracked:∀ {a:Addr} {h':Heap},(∃ o,s.heap.get? a=some o∧H a=none)→Heap.SameBut a s.heap h'→HOk X.prog X.w H h':=fun {a h'} ha hs b ob e=>by
  obtain ⟨_,_,hfree⟩:=ha
  refine (I.hok b ob e).stay (fun c w' hc q=>(hs.2 c ?_).trans q) (fun _ q=>q) fun _ _ q=>q
  rintro rfl
  rcases hc with rfl | hc
  ·rw [hfree] at e;cases e
  ·rw [hfree] at hc;cases hc
 rcases hx with hk | hk
 ·refine wpAny_storeName_local hk hn (fun h' hn' hs=>?_) hcls
  obtain ⟨oL,_,_,hoL,_⟩:=id hn
  refine h _ ⟨I.ok,I.os,I.bare,⟨fun b o e n hb hx=>?_,fun b o e n hb hx=>?_,I.base.free,fun b o e hx=>?_,I.base.tups,I.base.frzs,I.base.tbls⟩,⟨_,hn',fun j y v' e1 e2 e3=>?_⟩,fun y c e=>?_,I.free,I.freeC,fun p hp=>?_,tracked ⟨oL,hoL,I.free⟩ hs,by simpa using I.len⟩ ⟨_,hs,.inl rfl⟩
  ·exact (hs.2 b (Nat.ne_of_lt (Nat.lt_of_lt_of_le (Heap.lt_size e) I.ok.above))).trans (I.base.keep b o e n hb hx)
  ·obtain ⟨sl,e1⟩:=I.base.slot b o e n hb hx
   exact ⟨sl,(hs.2 b (Nat.ne_of_lt (Nat.lt_of_lt_of_le (Heap.lt_size e) I.ok.above))).trans e1⟩
  ·obtain ⟨o',e1⟩:=I.base.there b o e hx
   exact ⟨o',(hs.2 b (Nat.ne_of_lt (Nat.lt_of_lt_of_le (Heap.lt_size e) I.ok.above))).trans e1⟩
  ·by_cases hj:j=i
   ·subst hj
    rw [hi] at e1;cases e1
    rw [List.getElem?_set_self hiσ] at e2
    cases e2
    exact ⟨u,r,.inl ⟨hk,by simp⟩⟩
   ·rw [List.getElem?_set_ne (Ne.symm hj)] at e2
    obtain ⟨u',r',q⟩:=hl j y v' e1 e2 e3
    refine ⟨u',r',?_⟩
    rcases q with ⟨k,e⟩ | ⟨k,c,e,z⟩
    ·refine .inl ⟨k,?_⟩
     have:y≠x:=fun e=>hj (nodup_ix hN e1 (e ▸ hi))
     simp [this,e]
    ·exact .inr ⟨k,c,e,z.sameBut hs (cne y c e)⟩
  ·obtain ⟨w',z⟩:=I.cell y c e
   exact ⟨w',z.sameBut hs (cne y c e)⟩
  ·obtain ⟨e,n,ne,nf,d⟩:=I.pin p hp
   exact ⟨(hs.2 p.1 ne).trans e,n,ne,nf,d⟩
 ·have hfn:X.fn x=true:=by
   rcases hf with z | z
   ·exact z
   ·rw [z] at hk;cases hk
  obtain ⟨c,hc⟩:=I.ok.has x (.inl hk)
  obtain ⟨w',z⟩:=I.cell x c hc
  refine wpAny_storeName_cell I.ok.kind hk hc z (fun h' hc' hs=>?_)
  obtain ⟨oc,hoc,hocd⟩:=id z
  refine h { s with heap:=h' } ⟨I.ok,I.os,I.bare,⟨fun b o e n hb hx=>?_,fun b o e n hb hx=>?_,I.base.free,fun b o e hx=>?_,I.base.tups,I.base.frzs,I.base.tbls⟩,⟨m,hn.sameBut hs (Ne.symm (cne x c hc)),fun j y v' e1 e2 e3=>?_⟩,fun y c' e=>?_,I.free,I.freeC,fun p hp=>?_,tracked ⟨oc,hoc,I.freeC x c hc⟩ hs,by simpa using I.len⟩ ⟨c,hs,.inr hc⟩
  ·exact (hs.2 b (Nat.ne_of_lt (Nat.lt_of_lt_of_le (Heap.lt_size e) (I.ok.cab x c hfn hc)))).trans (I.base.keep b o e n hb hx)
  ·obtain ⟨sl,e1⟩:=I.base.slot b o e n hb hx
   exact ⟨sl,(hs.2 b (Nat.ne_of_lt (Nat.lt_of_lt_of_le (Heap.lt_size e) (I.ok.cab x c hfn hc)))).trans e1⟩
  ·obtain ⟨o',e1⟩:=I.base.there b o e hx
   exact ⟨o',(hs.2 b (Nat.ne_of_lt (Nat.lt_of_lt_of_le (Heap.lt_size e) (I.ok.cab x c hfn hc)))).trans e1⟩
  ·by_cases hj:j=i
   ·subst hj
    rw [hi] at e1;cases e1
    rw [List.getElem?_set_self hiσ] at e2
    cases e2
    exact ⟨u,r,.inr ⟨.inl hk,c,hc,hc'⟩⟩
   ·rw [List.getElem?_set_ne (Ne.symm hj)] at e2
    obtain ⟨u',r',q⟩:=hl j y v' e1 e2 e3
    refine ⟨u',r',?_⟩
    rcases q with q | ⟨k,c',e,z'⟩
    ·exact .inl q
    ·refine .inr ⟨k,c',e,z'.sameBut hs ?_⟩
     rintro rfl
     exact hj (nodup_ix hN e1 (I.ok.inj _ _ _ e hc ▸ hi))
  ·by_cases hcc:c'=c
   ·subst hcc;exact ⟨_,hc'⟩
   ·obtain ⟨w2,z2⟩:=I.cell y c' e
    exact ⟨w2,z2.sameBut hs hcc⟩
  ·obtain ⟨e,n,ne,nf,d⟩:=I.pin p hp
   refine ⟨(hs.2 p.1 ?_).trans e,n,ne,nf,d⟩
   intro q
   rw [q,hoc] at e
   have q':oc=p.2:=Option.some.inj e
   exact d w' (by rw [← q'];exact hocd)
theorem gN {M:Model} {A:Around} {E:Value→Shared→Prop} {i:Nat} {x:Str} {v:V} {u:Value} {Q:Unit→Shared→Prop} (I:Inv X pins σ H s) (hN:X.N.Nodup) (hi:X.N[i]?=some x) (hx:Loc X.env.scope x) (r:RelV v u)
  (h:∀ s',Inv X pins (σ.set i (some v)) H s'→Q () s') (hf:X.fn x=true∨X.env.scope.names.lookup x=some .local:=by first | exact .inl rfl | exact .inr rfl | assumption):wpAny M A (storeName X.env x u) Q E s:=
 store_ok2 I hN hi hx r (fun s' I' _=>h s' I') hf
theorem Inv.call' {s':Shared} {ch:List Addr} (I:Inv X pins σ H s) (ho:s'.os=s.os) (u:Un (frs X.stack) ch H H' s.heap s'.heap) (hok:HOk X.prog X.w H' s'.heap) (hg:AllBare s'.gens)
  (hch:∀ b∈ch,(b∈X.ex∨X.s₀.heap.objs.size≤b)∧b≠X.env.locals∧(∀ x c,X.env.cells.lookup x=some c→c≠b)∧∀ p∈X.pn++pins,p.1≠b):Inv X pins σ H' s':=by
 obtain ⟨h',g',d',t',o'⟩:=s'
 have e:o'=s.os:=ho
 subst e
 exact I.call (g':=g') (t':=t') (d':=d') u hok hg hch
end
abbrev XK:=Value→Option Addr→Hp→Prop
abbrev St:=List (Option V)
abbrev VK:=V→Hp→Prop
abbrev TE:=St→Hp→VK→Prop
abbrev TT:=St→Hp→(Bool→Hp→Prop)→Prop
abbrev TA:=St→Hp→(List V→Hp→Prop)→Prop
structure Ends where
 nx:St→Hp→Prop
 rt:VK
 bk:St→Hp→Prop:=fun _ _=>False
 ct:St→Hp→Prop:=fun _ _=>False
abbrev TS:=Ends→St→Hp→Prop
def EP (X:Cx) (pins:List (Addr × Obj)) (σ:St) (Q:VK) (u:Value) (s':Shared):Prop:=∃ v H',Inv X pins σ H' s'∧RelV v u∧Q v H'
def TP (X:Cx) (pins:List (Addr × Obj)) (σ:St) (Q:Bool→Hp→Prop) (b:Bool) (s':Shared):Prop:=∃ H',Inv X pins σ H' s'∧Q b H'
def AP (X:Cx) (pins:List (Addr × Obj)) (σ:St) (Q:List V→Hp→Prop) (us:List Value) (s':Shared):Prop:=∃ vs H',Inv X pins σ H' s'∧Vals vs us∧Q vs H'
def SP (X:Cx) (pins:List (Addr × Obj)) (D:Ends) (f:Flow) (s':Shared):Prop:=
 match f with
 | .next=>∃ σ' H',Inv X pins σ' H' s'∧D.nx σ' H'
 | .brk=>∃ σ' H',Inv X pins σ' H' s'∧D.bk σ' H'
 | .cont=>∃ σ' H',Inv X pins σ' H' s'∧D.ct σ' H'
 | .ret u=>∃ v σ' H',Inv X pins σ' H' s'∧RelV v u∧D.rt v H'
def PE (X:Cx) (e:Expr) (t:TE):Prop:=
 ∀ (pins:List (Addr × Obj)) (s:Shared) (σ:St) (H:Hp) (Q:VK),Inv X pins σ H s→t σ H Q→wpAny (model X.prog X.w) X.A (eval e X.env) (EP X pins σ Q) X.xe s
def PT (X:Cx) (e:Expr) (t:TT):Prop:=
 ∀ (pins:List (Addr × Obj)) (s:Shared) (σ:St) (H:Hp) (Q:Bool→Hp→Prop),Inv X pins σ H s→t σ H Q→wpAny (model X.prog X.w) X.A (isTrue e X.env (eval e X.env)) (TP X pins σ Q) X.xe s
def PW (X:Cx) (e:Expr) (t:TT):Prop:=
 ∀ (whole:Sem Value) (pins:List (Addr × Obj)) (s:Shared) (σ:St) (H:Hp) (Q:Bool→Hp→Prop),Inv X pins σ H s→t σ H Q→wpAny (model X.prog X.w) X.A (isTrue e X.env whole) (TP X pins σ Q) X.xe s
theorem PW.pt {X:Cx} {e:Expr} {t:TT} (h:PW X e t):PT X e t:=h _
def PA (X:Cx) (es:List Expr) (t:TA):Prop:=
 ∀ (pos:Pos) (pins:List (Addr × Obj)) (s:Shared) (σ:St) (H:Hp) (Q:List V→Hp→Prop),Inv X pins σ H s→t σ H Q→wpAny (model X.prog X.w) X.A (spliced (backTo pos (starEach es X.env))) (AP X pins σ Q) X.xe s
def PS (X:Cx) (st:Stmt) (t:TS):Prop:=
 ∀ (pins:List (Addr × Obj)) (s:Shared) (σ:St) (H:Hp) (D:Ends),Inv X pins σ H s→t D σ H→wpAny (model X.prog X.w) X.A (exec st X.env) (SP X pins D) X.xe s
def PSs (X:Cx) (st:List Stmt) (t:TS):Prop:=
 ∀ (pins:List (Addr × Obj)) (s:Shared) (σ:St) (H:Hp) (D:Ends),Inv X pins σ H s→t D σ H→wpAny (model X.prog X.w) X.A (execs st X.env) (SP X pins D) X.xe s
theorem thn {α:Type} {t:Sem α} {Q Q':α→Shared→Prop} {M:Model} {A:Around} {E:Value→Shared→Prop} {s:Shared} (h:wpAny M A t Q E s) (hQ:∀ a s,Q a s→Q' a s):wpAny M A t Q' E s:=wpAny_mono h hQ fun _ _ x=>x
end L2
namespace L2
open PySem PySem.Spec PyProof.Rows
section
variable {X:Cx}
inductive ItVar (i:Nat) (σ:St) (H:Hp) (Q:VK):Prop
 | mk (v:_) (h1:σ[i]?=some (some v)) (h2:Q v H):ItVar i σ H Q
def tVar (i:Nat):TE:=fun σ H Q=>ItVar i σ H Q
def tC (v:V):TE:=fun _ H Q=>Q v H
theorem pe_var {i:Nat} {x:Str} {pos:Pos} (hN:X.N[i]?=some x) (hv:Vis X.env.scope x) (hd:(x == ("__debug__":Str))=false:=by decide) (hcd:(x == ("__classdict__":Str))=false:=by decide):PE X (.Name x pos) (tVar i):=by
 intro pins s σ H Q I h
 obtain ⟨v,e,h⟩:=h
 obtain ⟨m,hn,hl⟩:=I.loc
 obtain ⟨u,r,l⟩:=hl i x v hN e hv
 have fin:EP X pins σ Q u s:=⟨v,H,I,r,h⟩
 rcases l with ⟨hk,hm⟩ | ⟨hk,c,hc,hcell⟩
 ·exact wpAny_Name (wpAny_loadName_local I.ok.kind hk hn hm fin) hd
 ·rcases hk with hk | hk
  ·exact wpAny_Name (wpAny_loadName_cell I.ok.kind hk hc hcell fin) hd
  ·exact wpAny_Name (wpAny_loadName_free I.ok.kind hk hc hcell fin hcd) hd
theorem af {i j pos}:PE X (.Constant (.int i) j pos) (tC (.int i)):=fun _ _ _ H _ I h=>wpAny_Constant_int ⟨.int i,H,I.tok _,⟨_,rfl⟩,h⟩
theorem fu {b j pos}:PE X (.Constant (.bool b) j pos) (tC (.bl b)):=fun _ _ _ H _ I h=>Constant_bool ⟨.bl b,H,I,rfl,h⟩
theorem br {j pos}:PE X (.Constant .none j pos) (tC .non):=fun _ _ _ H _ I h=>Constant_none ⟨.non,H,I,rfl,h⟩
theorem aK {x j pos}:PE X (.Constant (.str x) j pos) (tC (.str x)):=fun _ _ _ H _ I h=>Calls.Constant_str ⟨.str x,H,I.tok _,⟨_,rfl⟩,h⟩
def Gl (X:Cx) (x:Str):Prop:=X.env.kindOf x=some .globalImplicit
theorem dP {E:Value→Shared→Prop} {pins:List (Addr × Obj)} {s:Shared} {σ:St} {H:Hp} {x:Str} {u:Value} {pos:Pos} {Q:Value→Shared→Prop} (I:Inv X pins σ H s) (hg:Gl X x) (hm:X.mg x=some u) (h:Q u s)
  (hd:(x == ("__debug__":Str))=false:=by decide):wpAny (model X.prog X.w) X.A (eval (.Name x pos) X.env) Q E s:=
 Calls.Name_function_global I.ok.kind hg (Calls.loadGlobal_global (by rw [I.ok.glob];exact I.mod.glob.keeps I.bk) hm h) hd
theorem ld_blt {E:Value→Shared→Prop} {pins:List (Addr × Obj)} {s:Shared} {σ:St} {H:Hp} {x:Str} {u:Value} {pos:Pos} {Q:Value→Shared→Prop} (I:Inv X pins σ H s) (hg:Gl X x) (hm:X.mg x=none) (hv:bootBuiltins x=some u) (h:Q u s)
  (hn:x≠"__name__":=by decide) (hd:(x == ("__debug__":Str))=false:=by decide):wpAny (model X.prog X.w) X.A (eval (.Name x pos) X.env) Q E s:=by
 obtain ⟨mb,h1,h2⟩:=I.mod.blt
 exact Calls.Name_function_global I.ok.kind hg (Calls.loadGlobal_builtin (by rw [I.ok.glob];exact I.mod.glob.keeps I.bk) hm (by rw [I.ok.blt];exact h1.keeps I.bk) ((h2 x hn).trans hv) h) hd
theorem aM {x:Str} {v:V} {u:Value} {pos:Pos} (hg:Gl X x) (hm:X.mg x=some u) (r:RelV v u) (hd:(x == ("__debug__":Str))=false:=by decide):PE X (.Name x pos) (tC v):=
 fun _ _ _ H _ I h=>dP I hg hm ⟨v,H,I,r,h⟩ hd
theorem fb {x:Str} {v:V} {u:Value} {pos:Pos} (hg:Gl X x) (hm:X.mg x=none) (hv:bootBuiltins x=some u) (r:RelV v u) (hn:x≠"__name__":=by decide) (hd:(x == ("__debug__":Str))=false:=by decide):PE X (.Name x pos) (tC v):=
 fun _ _ _ H _ I h=>ld_blt I hg hm hv ⟨v,H,I,r,h⟩ hn hd
def t2I (ta tb:TE) (k:Int→Int→Hp→Prop):St→Hp→Prop:=fun σ H=>ta σ H fun x H1=>tb σ H1 fun y H2=>∃ i j,x=.int i∧y=.int j∧k i j H2
def tAdd (ta tb:TE):TE:=fun σ H Q=>t2I ta tb (fun i j H2=>Q (.int (i+j)) H2) σ H
def tSub (ta tb:TE):TE:=fun σ H Q=>t2I ta tb (fun i j H2=>Q (.int (i-j)) H2) σ H
def tMul (ta tb:TE):TE:=fun σ H Q=>t2I ta tb (fun i j H2=>(-(2 ^ 64)<i∧i<2 ^ 64)∧Q (.int (i*j)) H2) σ H
variable {a b:Expr} {ta tb:TE} {pos:Pos}
def PC (X:Cx) (op:CmpOp) (a b:Expr) (t:TE):Prop:=
 ∀ (pins:List (Addr × Obj)) (s:Shared) (σ:St) (H:Hp) (Q:VK),Inv X pins σ H s→t σ H Q→
  wpAny (model X.prog X.w) X.A (eval a X.env) (fun v s₁=>wpAny (model X.prog X.w) X.A (eval b X.env) (fun u s₂=>wpAny (model X.prog X.w) X.A (compareOp op v u) (EP X pins σ Q) X.xe s₂) X.xe s₁) X.xe s
def tCmp (p:Int→Int→Bool) (ta tb:TE):TE:=fun σ H Q=>t2I ta tb (fun i j H2=>Q (.bl (p i j)) H2) σ H
abbrev tLt:TE→TE→TE:=tCmp fun i j=>decide (i<j)
abbrev tLe:TE→TE→TE:=tCmp fun i j=>decide (i≤j)
abbrev tGt:TE→TE→TE:=tCmp fun i j=>decide (j<i)
abbrev tGe:TE→TE→TE:=tCmp fun i j=>decide (j≤i)
abbrev tEqI:TE→TE→TE:=tCmp fun i j=>decide (i=j)
abbrev tNeI:TE→TE→TE:=tCmp fun i j=>!decide (i=j)
def tIsN (ta:TE):TE:=fun σ H Q=>ta σ H fun x H1=>Q (.bl (decide (x=.non))) H1
def tNotN (ta:TE):TE:=fun σ H Q=>ta σ H fun x H1=>Q (.bl (!decide (x=.non))) H1
inductive ItB (Q:Bool→Hp→Prop) (x:V) (H1:Hp):Prop
 | mk (c:_) (h1:x=.bl c) (h2:Q c H1):ItB Q x H1
def tB (t:TE):TT:=fun σ H Q=>t σ H fun x H1=>ItB Q x H1
theorem gu {op:CmpOp} {t:TE} (h:PC X op a b t) (h1:behindInMarks op b=false:=by first | exact nobehind _ (by decide) (by decide) | rfl):PT X (.Compare a [op] [b] pos) (tB t):=by
 intro pins s σ H Q I hw
 refine wpAny_isTrue_Compare1 (thn (h pins s σ H _ I hw) fun v s1 h1=>thn h1 fun u s2 h2=>thn h2 fun c s3 ⟨x,H1,I1,r1,q1⟩=>?_) h1
 obtain ⟨d,rfl,q⟩:=q1
 cases r1
 exact wpAny_truthy_bool ⟨H1,I1,q⟩
theorem aJ {e:Expr} {t:TE} (h:PE X e t) (he:∀ whole,isTrue e X.env whole=(do let v ← whole;standAt e.pos;holding [v] (truthy v)):=by intro _;rfl):PT X e (tB t):=by
 intro pins s σ H Q I hw
 refine isTrue_plain (thn (h pins s σ H _ I hw) fun v s1 ⟨x,H1,I1,r1,q1⟩=>?_) (he _)
 obtain ⟨d,rfl,q⟩:=q1
 cases r1
 exact wpAny_truthy_bool ⟨H1,I1,q⟩
variable {tA tB':TT} {rest:List Expr}
def tAnd (t u:TT):TT:=fun σ H Q=>t σ H fun c H1=>if c=true then u σ H1 Q else Q false H1
def tOr (t u:TT):TT:=fun σ H Q=>t σ H fun c H1=>if c=true then Q true H1 else u σ H1 Q
def tNot (t:TT):TT:=fun σ H Q=>t σ H fun c H1=>Q (!c) H1
theorem fV (ha:PT X a tA):PW X (.BoolOp .And [a] pos) tA:=by
 intro wh pins s σ H Q I h
 refine isTrue_and (thn (ha pins s σ H Q I h) fun c s1 e=>?_)
 cases c with
 | true=>exact isTrue_and_nil e
 | false=>exact e
theorem du (ha:PT X a tA):PW X (.BoolOp .Or [a] pos) tA:=by
 intro wh pins s σ H Q I h
 refine isTrue_or (thn (ha pins s σ H Q I h) fun c s1 e=>?_)
 cases c with
 | false=>exact isTrue_or_nil e
 | true=>exact e
theorem gt (ha:PT X a tA) (hb:PW X (.BoolOp .And (b::rest) pos) tB'):PW X (.BoolOp .And (a::b::rest) pos) (tAnd tA tB'):=by
 intro wh pins s σ H Q I h
 refine isTrue_and (thn (ha pins s σ H _ I h) fun c s1 ⟨H1,I1,q1⟩=>?_)
 cases c with
 | true=>exact hb wh pins s1 σ H1 Q I1 q1
 | false=>exact ⟨H1,I1,q1⟩
theorem cE (ha:PT X a tA) (hb:PW X (.BoolOp .Or (b::rest) pos) tB'):PW X (.BoolOp .Or (a::b::rest) pos) (tOr tA tB'):=by
 intro wh pins s σ H Q I h
 refine isTrue_or (thn (ha pins s σ H _ I h) fun c s1 ⟨H1,I1,q1⟩=>?_)
 cases c with
 | true=>exact ⟨H1,I1,q1⟩
 | false=>exact hb wh pins s1 σ H1 Q I1 q1
theorem cY (ha:PT X a tA):PT X (.UnaryOp .Not a pos) (tNot tA):=by
 intro pins s σ H Q I h
 exact isTrue_not (ha pins s σ H (fun c H1=>Q (!c) H1) I h)
def tAndV (ta tb:TE):TE:=fun σ H Q=>ta σ H fun x H1=>∃ c,x=.bl c∧if c=true then tb σ H1 Q else Q (.bl false) H1
def tOrV (ta tb:TE):TE:=fun σ H Q=>ta σ H fun x H1=>∃ c,x=.bl c∧if c=true then Q (.bl true) H1 else tb σ H1 Q
def tNotV (ta:TE):TE:=fun σ H Q=>ta σ H fun x H1=>∃ c,x=.bl c∧Q (.bl (!c)) H1
theorem pe_one {op} {t:TE} (h:PE X a t):PE X (.BoolOp op [a] pos) t:=fun pins s σ H Q I hw=>BoolOp_one (h pins s σ H Q I hw)
theorem gx (ha:PE X a ta) (hb:PE X (.BoolOp .And (b::rest) pos) tb):PE X (.BoolOp .And (a::b::rest) pos) (tAndV ta tb):=by
 intro pins s σ H Q I h
 refine BoolOp_and (thn (ha pins s σ H _ I h) fun v s1 ⟨x,H1,I1,r1,q1⟩=>?_)
 obtain ⟨c,rfl,q1⟩:=q1
 cases r1
 refine wpAny_truthy_bool ?_
 cases c with
 | true=>exact hb pins s1 σ H1 Q I1 q1
 | false=>exact ⟨.bl false,H1,I1,rfl,q1⟩
theorem pe_not (ha:PE X a ta):PE X (.UnaryOp .Not a pos) (tNotV ta):=by
 intro pins s σ H Q I h
 refine UnaryOp_ (thn (ha pins s σ H _ I h) fun v s1 ⟨x,H1,I1,r1,q1⟩=>?_)
 obtain ⟨c,rfl,q1⟩:=q1
 cases r1
 exact not_of (wpAny_truthy_bool ⟨.bl (!c),H1,I1,rfl,q1⟩)
def tIf (t:TT) (ta tb:TE):TE:=fun σ H Q=>t σ H fun c H1=>if c=true then ta σ H1 Q else tb σ H1 Q
theorem pe_ifExp {c:Expr} (hc:PT X c tA) (ha:PE X a ta) (hb:PE X b tb):PE X (.IfExp c a b pos) (tIf tA ta tb):=by
 intro pins s σ H Q I h
 refine wpAny_IfExp (thn (hc pins s σ H _ I h) fun d s1 ⟨H1,I1,q1⟩=>?_)
 cases d with
 | true=>exact ha pins s1 σ H1 Q I1 q1
 | false=>exact hb pins s1 σ H1 Q I1 q1
end
end L2
namespace L2
open PySem PySem.Spec PyProof.Rows
def SqL (K:PySem.W.Frag) (H:Hp) (a:Addr) (xs:List V):Prop:=
 Rd H a (.lst xs)∨
  ∃ (o:Obj) (its:Array Value) (n:Nat),K.lookup a=some o∧o.cls=.type "list"∧o.dict=none∧o.data=.seq its n∧its.size≤sizeLine∧Vals xs its.toList
def SqT (K:PySem.W.Frag) (H:Hp) (a:Addr) (xs:List V):Prop:=
 Rd H a (.tup xs)∨
  ∃ (o:Obj) (its:Array Value) (n:Nat),K.lookup a=some o∧o.cls=.type "tuple"∧o.data=.seq its n∧its.size≤sizeLine∧Vals xs its.toList
def absV:Value→Option V
 | .none=>some .non
 | .bool b=>some (.bl b)
 | .int i _=>some (.int i)
 | .str x _=>some (.str x)
 | .bytes b _=>some (.byt b)
 | .float b _=>some (.flt b)
 | .ref a=>some (.ref a)
 | .type n=>some (.ty n)
 | _=>none
theorem RelV.abs {x:V} {u:Value} (r:RelV x u):absV u=some x:=by
 cases x with
 | non=>cases r;rfl
 | bl _=>cases r;rfl
 | int _=>obtain ⟨t,rfl⟩:=r;rfl
 | str _=>obtain ⟨t,rfl⟩:=r;rfl
 | byt _=>obtain ⟨t,rfl⟩:=r;rfl
 | flt _=>obtain ⟨t,rfl⟩:=r;rfl
 | ref _=>cases r;rfl
 | ty _=>cases r;rfl
theorem RelV.inj {x y:V} {u:Value} (r:RelV x u) (q:RelV y u):x=y:=Option.some.inj (r.abs.symm.trans q.abs)
theorem Vals.inj:∀ {xs ys:List V} {us:List Value},Vals xs us→Vals ys us→xs=ys
 | _,_,_,.nil,.nil=>rfl
 | _,_,_,.cons r t,.cons r' t'=>by rw [r.inj r',Vals.inj t t']
section
variable {X:Cx} {pins:List (Addr × Obj)} {σ:St} {H:Hp} {s:Shared} {a:Addr} {xs ys:List V}
theorem SqL.of {K:PySem.W.Frag} (h:H a=some (.lst xs)):SqL K H a xs:=.inl (.inl h)
theorem SqT.of {K:PySem.W.Frag} (h:H a=some (.tup xs)):SqT K H a xs:=.inl (.inl h)
theorem Inv.list (I:Inv X pins σ H s) (h:SqL X.K H a xs):∃ its:List Value,Vals xs its∧PlainL s.heap a its.toArray∧xs.length≤sizeLine:=by
 rcases h with h | ⟨o,its,n,hk,hc,hd,hs,hz,r⟩
 ·obtain ⟨z,its,n,r,e⟩:=h.ok I.hok
  exact ⟨its,r,⟨_,n,e,rfl,rfl,rfl⟩,z⟩
 ·refine ⟨its.toList,r,⟨o,n,I.kIn a o hk,hc,hd,by simpa using hs⟩,?_⟩
  have e:=r.length
  simp only [Array.length_toList] at e
  omega
theorem Inv.tuple (I:Inv X pins σ H s) (h:SqT X.K H a xs):∃ its:List Value,Vals xs its∧IsTup s.heap a its.toArray∧xs.length≤sizeLine:=by
 rcases h with h | ⟨o,its,n,hk,hc,hs,hz,r⟩
 ·obtain ⟨z,its,r,p⟩:=h.ok I.hok
  exact ⟨its,r,p,z⟩
 ·refine ⟨its.toList,r,⟨o,I.kIn a o hk,hc,n,by simpa using hs⟩,?_⟩
  have e:=r.length
  simp only [Array.length_toList] at e
  omega
theorem Inv.list_inj (I:Inv X pins σ H s) (h:SqL X.K H a xs) (h':SqL X.K H a ys):xs=ys:=by
 obtain ⟨its,r,⟨o,n,e,_,_,d⟩,_⟩:=I.list h
 obtain ⟨its',r',⟨o',n',e',_,_,d'⟩,_⟩:=I.list h'
 rw [e] at e';cases e'
 rw [d] at d'
 injection d' with d1 _
 have:its=its':=by simpa using congrArg Array.toList d1
 subst this
 exact r.inj r'
theorem Inv.tuple_inj (I:Inv X pins σ H s) (h:SqT X.K H a xs) (h':SqT X.K H a ys):xs=ys:=by
 obtain ⟨its,r,⟨o,e,_,n,d⟩,_⟩:=I.tuple h
 obtain ⟨its',r',⟨o',e',_,n',d'⟩,_⟩:=I.tuple h'
 rw [e] at e';cases e'
 rw [d] at d'
 injection d' with d1 _
 have:its=its':=by simpa using congrArg Array.toList d1
 subst this
 exact r.inj r'
end
abbrev Cx.wish (X:Cx) (E:Value→Shared→Prop):Cx:={ X with xe:=E }
abbrev Cx.nox (X:Cx):Cx:=X.wish fun _ _=>False
theorem Cx.Ok.wish {X:Cx} (ok:X.Ok) (E:Value→Shared→Prop):(X.wish E).Ok:=
 ⟨ok.mod,ok.kind,ok.glob,ok.blt,ok.above,ok.inj,ok.has,ok.cab,ok.hd,ok.frames,ok.stk,ok.exf,ok.bs,ok.bsz,ok.noex,ok.exfs,ok.funs,ok.frf⟩
theorem Cx.Ok.unwish {X:Cx} {E:Value→Shared→Prop} (ok:(X.wish E).Ok):X.Ok:=
 ⟨ok.mod,ok.kind,ok.glob,ok.blt,ok.above,ok.inj,ok.has,ok.cab,ok.hd,ok.frames,ok.stk,ok.exf,ok.bs,ok.bsz,ok.noex,ok.exfs,ok.funs,ok.frf⟩
section
variable {X:Cx} {pins:List (Addr × Obj)} {σ:St} {H:Hp} {s:Shared} {E:Value→Shared→Prop}
theorem Inv.wish (I:Inv X pins σ H s) (E:Value→Shared→Prop):Inv (X.wish E) pins σ H s:=⟨I.ok.wish E,I.os,I.bare,I.base,I.loc,I.cell,I.free,I.freeC,I.pin,I.hok,I.len⟩
theorem Inv.unwish (I:Inv (X.wish E) pins σ H s):Inv X pins σ H s:=⟨I.ok.unwish,I.os,I.bare,I.base,I.loc,I.cell,I.free,I.freeC,I.pin,I.hok,I.len⟩
theorem SP.unwish {D:Ends} {f:Flow} {s':Shared} (h:SP (X.wish E) pins D f s'):SP X pins D f s':=by
 cases f with
 | next=>obtain ⟨σ',H',I,q⟩:=h;exact ⟨σ',H',I.unwish,q⟩
 | brk=>obtain ⟨σ',H',I,q⟩:=h;exact ⟨σ',H',I.unwish,q⟩
 | cont=>obtain ⟨σ',H',I,q⟩:=h;exact ⟨σ',H',I.unwish,q⟩
 | ret u=>obtain ⟨v,σ',H',I,r,q⟩:=h;exact ⟨v,σ',H',I.unwish,r,q⟩
theorem PSs.nox {st:List Stmt} {t:TS} (h:PSs X.nox st t):PSs X st t:=fun pins s σ H D I hw=>
 wpAny_mono (h pins s σ H D (I.wish _) hw) (fun _ _ q=>q.unwish) fun _ _ z=>False.elim z
end
section
variable {X:Cx} {st:Stmt} {rest:List Stmt} {t u:TS} {e:Expr} {te:TE} {pos:Pos}
def tNext:TS:=fun D σ H=>D.nx σ H
def tSeq (t u:TS):TS:=fun D σ H=>t { D with nx:=u D } σ H
theorem al:PSs X [] tNext:=fun _ _ σ H _ I h=>wpAny_execs_nil ⟨σ,H,I,h⟩
theorem ae (h1:PS X st t) (h2:PSs X rest u):PSs X (st::rest) (tSeq t u):=by
 intro pins s σ H D I h
 refine wpAny_execs_cons (thn (h1 pins s σ H { D with nx:=u D } I h) fun f s1 q=>?_)
 cases f with
 | next=>
  obtain ⟨σ',H',I',q⟩:=q
  exact h2 pins s1 σ' H' D I' q
 | ret v=>exact q
 | brk=>exact q
 | cont=>exact q
theorem ai (h1:PS X st t):PSs X [st] t:=by
 intro pins s σ H D I h
 refine wpAny_execs_cons (thn (h1 pins s σ H D I h) fun f s1 q=>?_)
 cases f with
 | next=>exact wpAny_execs_nil q
 | ret v=>exact q
 | brk=>exact q
 | cont=>exact q
def tBreak:TS:=fun D σ H=>D.bk σ H
def tCont:TS:=fun D σ H=>D.ct σ H
theorem Inv.quiet {pins:List (Addr × Obj)} {σ:St} {H:Hp} {s:Shared} (I:Inv X pins σ H s):interactive X.env=false:=by simp [interactive,I.ok.kind]
def tDrop (te:TE):TS:=fun D σ H=>te σ H fun _ H1=>D.nx σ H1
theorem aI (he:PE X e te) (hs:swapsWith e none pos.line X.env=pure false:=by rfl):PS X (.Expr e pos) (tDrop te):=by
 intro pins s σ H D I h
 exact wpAny_Expr_any (thn (he pins s σ H _ I h) fun v s1 ⟨x,H1,I1,r1,q1⟩=>⟨σ,H1,I1,q1⟩) I.quiet hs
def tRet (te:TE):TS:=fun D σ H=>te σ H D.rt
theorem aw (he:PE X e te):PS X (.Return (some e) pos) (tRet te):=by
 intro pins s σ H D I h
 exact wpAny_Return_some (thn (he pins s σ H _ I h) fun v s1 ⟨x,H1,I1,r1,q1⟩=>⟨x,σ,H1,I1,r1,q1⟩)
def tRetN:TS:=fun D _ H=>D.rt .non H
def tIfS (c:TT) (t u:TS):TS:=fun D σ H=>c σ H fun b H1=>if b=true then t D σ H1 else u D σ H1
theorem aC {c:Expr} {a b:List Stmt} {tc:TT} (hc:PT X c tc) (ha:PSs X a t) (hb:PSs X b u):PS X (.If c a b pos) (tIfS tc t u):=by
 intro pins s σ H D I h
 refine wpAny_If (thn (hc pins s σ H _ I h) fun d s1 ⟨H1,I1,q1⟩=>?_)
 cases d with
 | true=>exact ha pins s1 σ H1 D I1 q1
 | false=>exact hb pins s1 σ H1 D I1 q1
def tNever:TS:=fun _ _ _=>False
theorem bX:PS X st tNever:=fun _ _ _ _ _ _ h=>h.elim
end
abbrev TG:=V→St→Hp→(St→Hp→Prop)→Prop
abbrev TGs:=List V→St→Hp→(St→Hp→Prop)→Prop
def PG (X:Cx) (target:Expr) (t:TG):Prop:=
 ∀ (pins:List (Addr × Obj)) (s:Shared) (σ:St) (H:Hp) (v:V) (u:Value) (Q:St→Hp→Prop),Inv X pins σ H s→RelV v u→t v σ H Q→
  wpAny (model X.prog X.w) X.A (assign target X.env u) (fun _ s'=>∃ σ' H',Inv X pins σ' H' s'∧Q σ' H') X.xe s
def PGs (X:Cx) (ts:List Expr) (t:TGs):Prop:=
 ∀ (pins:List (Addr × Obj)) (s:Shared) (σ:St) (H:Hp) (vs:List V) (us:List Value) (Q:St→Hp→Prop),Inv X pins σ H s→Vals vs us→t vs σ H Q→
  wpAny (model X.prog X.w) X.A (assignInOrder ((assignEach ts X.env).map (·.2)) us) (fun _ s'=>∃ σ' H',Inv X pins σ' H' s'∧Q σ' H') X.xe s
abbrev TSet:=V→V→V→Hp→(Hp→Prop)→Prop
def PSet (X:Cx) (t:TSet):Prop:=
 ∀ (pins:List (Addr × Obj)) (s:Shared) (σ:St) (H:Hp) (o i v:V) (ov iv u:Value) (Q:Hp→Prop),Inv X pins σ H s→RelV o ov→RelV i iv→RelV v u→t o i v H Q→
  wpAny (model X.prog X.w) X.A (setItem ov iv u) (fun _ s'=>∃ H',Inv X pins σ H' s'∧Q H') X.xe s
abbrev TIp:=V→V→Hp→VK→Prop
def PIp (X:Cx) (op:Operator) (t:TIp):Prop:=
 ∀ (pins:List (Addr × Obj)) (s:Shared) (σ:St) (H:Hp) (x y:V) (v u:Value) (Q:VK),Inv X pins σ H s→RelV x v→RelV y u→t x y H Q→
  wpAny (model X.prog X.w) X.A (inplaceOp op v u) (EP X pins σ Q) X.xe s
section
variable {X:Cx} {pos:Pos}
def gName (i:Nat):TG:=fun v σ H Q=>Q (σ.set i (some v)) H
theorem aA {i:Nat} {x:Str} (hN:X.N.Nodup) (hi:X.N[i]?=some x) (hx:Loc X.env.scope x) (hf:X.fn x=true∨X.env.scope.names.lookup x=some .local:=by first | exact .inl rfl | exact .inr rfl | assumption):PG X (.Name x pos) (gName i):=by
 intro pins s σ H v u Q I r h
 exact wpAny_assign_Name (gN I hN hi hx r (fun s' I'=>⟨_,H,I',h⟩) hf)
def gNil:TGs:=fun vs σ H Q=>vs=[]∧Q σ H
inductive IgCons (t:TG) (u:TGs) (vs:List V) (σ:St) (H:Hp) (Q:St→Hp→Prop):Prop
 | mk (v:_) (r:_) (h1:vs=v::r) (h2:t v σ H fun σ' H'=>u r σ' H' Q):IgCons t u vs σ H Q
def gCons (t:TG) (u:TGs):TGs:=fun vs σ H Q=>IgCons t u vs σ H Q
theorem dN:PGs X [] gNil:=by
 intro pins s σ H vs us Q I r h
 obtain ⟨e,h⟩:=h
 subst e
 cases r
 exact assignInOrder_nil ⟨σ,H,I,h⟩
theorem aQ {e:Expr} {es:List Expr} {t:TG} {u:TGs} (h1:PG X e t) (h2:PGs X es u)
  (hs:(assignEach (e::es) X.env).map (·.2)=assign e X.env::(assignEach es X.env).map (·.2):=by rfl):PGs X (e::es) (gCons t u):=by
 intro pins s σ H vs us Q I r h
 obtain ⟨v,vr,e1,h⟩:=h
 subst e1
 cases r with
 | cons r rr=>
  rw [hs]
  refine assignInOrder_cons (thn (h1 pins s σ H _ _ _ I r h) fun _ s1 ⟨σ1,H1,I1,q1⟩=>?_)
  exact h2 pins s1 σ1 H1 _ _ Q I1 rr q1
inductive IgTup (K:PySem.W.Frag) (n:Nat) (t:TGs) (v:V) (σ:St) (H:Hp) (Q:St→Hp→Prop):Prop
 | mk (a:_) (xs:_) (h1:v=.ref a) (h2:SqT K H a xs) (h3:xs.length=n) (h4:t xs σ H Q):IgTup K n t v σ H Q
def gTup (K:PySem.W.Frag) (n:Nat) (t:TGs):TG:=fun v σ H Q=>IgTup K n t v σ H Q
theorem gv {es:List Expr} {k:Nat} {t:TGs} {n:Nat} (hc:X.calm=true) (h:PGs X es t)
  (hn:(assignEach es X.env).length=n:=by rfl) (hst:(assignEach es X.env).findIdx? (·.1)=none:=by rfl):PG X (.Tuple es k pos) (gTup X.K n t):=by
 intro pins s σ H v u Q I r hw
 obtain ⟨a,xs,e1,hq,hl,hw⟩:=hw
 subst e1
 cases r
 obtain ⟨its,rv,ht,hz⟩:=I.tuple hq
 refine assign_Tuple_tuple (I.ok.hd hc) ht (by simp [hn,← hl,rv.length]) hst fun h' hx=>?_
 have I1:Inv X pins σ H { s with heap:=h' }:=I.kept (t':=s.toks) fun b o e=>hx b o (Nat.ne_of_lt (Heap.lt_size e)) e
 exact h pins _ σ H xs _ Q I1 (by simpa using rv) hw
def gSub (to ti:TE) (t:TSet):TG:=fun v σ H Q=>to σ H fun o H1=>ti σ H1 fun i H2=>t o i v H2 fun H3=>Q σ H3
theorem pg_sub {o i:Expr} {to ti:TE} {t:TSet} (ho:PE X o to) (hi:PE X i ti) (hs:PSet X t)
  (ha:∀ v,assign (.Subscript o i pos) X.env v=(do
   let ov ← holding [v] (eval o X.env)
   let iv ← holding [v,ov] (eval i X.env)
   standAt pos
   holding [v,ov,iv] (setItem ov iv v)
   release [v,ov,iv] []):=by intro _;rfl):PG X (.Subscript o i pos) (gSub to ti t):=by
 intro pins s σ H v u Q I r h
 rw [ha]
 refine wpAny_bind (wpAny_holding (thn (ho pins s σ H _ I h) fun ov s1 ⟨x,H1,I1,r1,q1⟩=>?_))
 refine wpAny_bind (wpAny_holding (thn (hi pins s1 σ H1 _ I1 q1) fun iv s2 ⟨y,H2,I2,r2,q2⟩=>?_))
 refine wpAny_bind (wpAny_standAt (wpAny_bind (wpAny_holding (thn (hs pins s2 σ H2 x y v ov iv u _ I2 r1 r2 r q2) fun _ s3 ⟨H3,I3,q3⟩=>?_))))
 exact wpAny_release ⟨σ,H3,I3,q3⟩
def tAsg (te:TE) (g:TG):TS:=fun D σ H=>te σ H fun x H1=>g x σ H1 D.nx
theorem ps_asg {tg e:Expr} {te:TE} {g:TG} (he:PE X e te) (hg:PG X tg g) (hs:swapsWithSole [tg] e pos.line X.env=pure false:=by rfl) (hw:swappedStores [tg] e X.env=pure none:=by rfl)
  (h1:(assignEach [tg] X.env).map (·.2)=[assign tg X.env]:=by rfl):PS X (.Assign [tg] e pos) (tAsg te g):=by
 intro pins s σ H D I h
 refine wpAny_Assign_stores (thn (he pins s σ H _ I h) fun v s1 ⟨x,H1,I1,r1,q1⟩=>?_) hs hw
 rw [h1]
 exact thn (hg pins s1 σ H1 x v _ I1 r1 q1) fun _ s2 q=>q
theorem ar {i:Nat} {x:Str} {e:Expr} {te:TE} {pos':Pos} (hN:X.N.Nodup) (hi:X.N[i]?=some x) (hx:Loc X.env.scope x) (he:PE X e te) (hs:swapsWith e (some (.Name x pos')) pos.line X.env=pure false:=by rfl) (hf:X.fn x=true∨X.env.scope.names.lookup x=some .local:=by first | exact .inl rfl | exact .inr rfl | assumption) :
  PS X (.Assign [.Name x pos'] e pos) (tAsg te (gName i)):=by
 intro pins s σ H D I h
 refine wpAny_Assign_Name (thn (he pins s σ H _ I h) fun v s1 ⟨y,H1,I1,r1,q1⟩=>?_) hs
 exact gN I1 hN hi hx r1 (fun s2 I2=>⟨_,H1,I2,q1⟩) hf
inductive ItPar (i:Nat) (j:Nat) (D:Ends) (σ:St) (vs:List V) (H1:Hp):Prop
 | mk (v:_) (w:_) (h1:vs=[v,w]) (h2:D.nx ((σ.set i (some v)).set j (some w)) H1):ItPar i j D σ vs H1
def tPar (i j:Nat) (ta:TA):TS:=fun D σ H=>ta σ H fun vs H1=>ItPar i j D σ vs H1
def tAug (i:Nat) (te:TE) (ti:TIp):TS:=fun D σ H=>∃ x,σ[i]?=some (some x)∧te σ H fun y H1=>ti x y H1 fun z H2=>D.nx (σ.set i (some z)) H2
def tAugS (to ti te:TE) (tget:V→V→Hp→VK→Prop) (tip:TIp) (tset:TSet):TS:=fun D σ H=>to σ H fun o H1=>ti σ H1 fun i H2=>tget o i H2 fun x H3=>te σ H3 fun y H4=>tip x y H4 fun z H5=>tset o i z H5 fun H6=>D.nx σ H6
def PGet (X:Cx) (t:V→V→Hp→VK→Prop):Prop:=
 ∀ (pins:List (Addr × Obj)) (s:Shared) (σ:St) (H:Hp) (o i:V) (ov iv:Value) (Q:VK),Inv X pins σ H s→RelV o ov→RelV i iv→t o i H Q→
  wpAny (model X.prog X.w) X.A (getItem ov iv) (EP X pins σ Q) X.xe s
def ipI (f:Int→Int→Int):TIp:=fun x y H Q=>∃ i j,x=.int i∧y=.int j∧Q (.int (f i j)) H
end
section
variable {X:Cx} {pos:Pos}
def tWhile (c:TT) (tb:TS):TS:=fun D σ H=>∃ W:Nat→St→Hp→Prop,(∃ m,W m σ H)∧∀ m σ H,W m σ H→
 c σ H fun b H1=>if b=true then ∃ N:St→Hp→Prop,(∀ σ' H',N σ' H'→∃ m',m'<m∧W m' σ' H')∧tb { D with nx:=N,ct:=N,bk:=D.nx } σ H1 else D.nx σ H1
theorem ps_while {c:Expr} {body:List Stmt} {tc:TT} {tb:TS} (hp:PassesOwn (model X.prog X.w) X.A X.env X.xe) (hc:PT X c tc) (hb:PSs X body tb):PS X (.While c body [] pos) (tWhile tc tb):=by
 intro pins s σ H D I h
 obtain ⟨W,⟨m0,w0⟩,turn⟩:=h
 refine wpAny_While (codeAny_whileLoop (fun n s'=>∃ σ' H',Inv X pins σ' H' s'∧W n σ' H') ?_ m0 ⟨σ,H,I,w0⟩)
 rintro n s1 ⟨σ1,H1,I1,w1⟩
 refine wpAny_passesOwn hp (thn (hc pins s1 σ1 H1 _ I1 (turn n σ1 H1 w1)) fun b s2 ⟨H2,I2,q2⟩=>?_)
 cases b with
 | true=>
  obtain ⟨N,hN,q2⟩:=q2
  rw [if_pos rfl]
  refine wpAny_passesOwn hp (thn (hb pins s2 σ1 H2 _ I2 q2) fun f s3 q3=>?_)
  cases f with
  | next=>
   obtain ⟨σ3,H3,I3,n3⟩:=q3
   obtain ⟨m',hm,w3⟩:=hN σ3 H3 n3
   exact ⟨m',hm,σ3,H3,I3,w3⟩
  | cont=>
   obtain ⟨σ3,H3,I3,n3⟩:=q3
   obtain ⟨m',hm,w3⟩:=hN σ3 H3 n3
   exact ⟨m',hm,σ3,H3,I3,w3⟩
  | brk=>exact q3
  | ret v=>exact q3
 | false=>
  rw [if_neg Bool.false_ne_true]
  exact wpAny_execs_nil ⟨σ1,H2,I2,q2⟩
end
structure It where
 go:Nat→Hp→Prop
 yld:Nat→Hp→V→Hp→Prop
 stop:Nat→Hp→Prop
def FpOk (X:Cx) (pins:List (Addr × Obj)) (H:Hp) (b:Addr):Prop:=
 H b=none∧b≠X.env.locals∧b ∉ X.fs∧(b∈X.ex∨X.s₀.heap.objs.size≤b)∧(∀ x c,X.env.cells.lookup x=some c→c≠b)∧∀ p∈X.pn++pins,p.1≠b
theorem Inv.fpOk {X:Cx} {pins:List (Addr × Obj)} {σ:St} {H H':Hp} {s:Shared} {b:Addr} (I:Inv X pins σ H s) (hb:s.heap.objs.size≤b) (hn:H' b=none):FpOk X pins H' b:=by
 refine ⟨hn,Nat.ne_of_gt (Nat.lt_of_lt_of_le I.lt hb),I.nofs hb,.inr (Nat.le_trans I.sz hb),fun x c e z=>?_,fun p hp z=>?_⟩
 ·obtain ⟨v,q⟩:=I.cell x c e
  exact absurd (Nat.lt_of_lt_of_le q.lt (by rw [z];exact hb)) (Nat.lt_irrefl _)
 ·exact absurd (Nat.lt_of_lt_of_le (Heap.lt_size (I.pin p hp).1) (by rw [z];exact hb)) (Nat.lt_irrefl _)
structure Turn (P:Program) (w:World) (K:PySem.W.Frag) (tg:Expr) (J:It) (fp:List Addr) (it:Addr) (tn:Nat→Heap→Prop):Prop where
 mem:it∈fp
 obj:∀ i h,tn i h→∀ b∈fp,∃ o,h.get? b=some o∧∀ v,o.data≠.cell v
 keep:∀ i h h',tn i h→(∀ b∈fp,∀ o,h.get? b=some o→h'.get? b=some o)→tn i h'
 item:∀ (X:Cx),X.prog=P→X.w=w→X.K=K→X.calm=true→∀ (i:Nat) (pins:List (Addr × Obj)) (s:Shared) (σ:St) (H:Hp) (E:Value→Shared→Prop),Inv X pins σ H s→(∀ b∈fp,FpOk X pins H b)→tn i s.heap→J.go i H→
  wpAny (model P w) X.A (pyNext (.ref it)) (fun r s1=>∃ u,r=some u∧
   wpAny (model P w) X.A (letOwnedTupleGo tg (.ref it) u) (fun _ s2=>∃ x H',Inv X pins σ H' s2∧RelV x u∧J.yld i H x H'∧tn (i+1) s2.heap∧∀ b∈fp,H' b=none) E s1) E s
 done:∀ (X:Cx),X.prog=P→X.w=w→X.K=K→X.calm=true→∀ (i:Nat) (pins:List (Addr × Obj)) (s:Shared) (σ:St) (H:Hp) (E:Value→Shared→Prop),Inv X pins σ H s→(∀ b∈fp,FpOk X pins H b)→tn i s.heap→J.stop i H→
  wpAny (model P w) X.A (pyNext (.ref it)) (fun r s1=>r=none∧Inv X pins σ H s1) E s
 self:∀ (A:Around) (i:Nat) (s:Shared) (Q:Value→Shared→Prop) (E:Value→Shared→Prop),tn i s.heap→Q (.ref it) s→wpAny (model P w) A (pyIter (.ref it)) Q E s
abbrev TI:=St→Hp→(It→Hp→Prop)→Prop
def PIE (X:Cx) (pins:List (Addr × Obj)) (σ:St) (tg:Expr) (R:It→Hp→Prop) (itv:Value) (s2:Shared):Prop:=
 ∃ (it:Addr) (fp:List Addr) (tn:Nat→Heap→Prop) (J:It) (H':Hp),itv=.ref it∧Inv X pins σ H' s2∧Turn X.prog X.w X.K tg J fp it tn∧tn 0 s2.heap∧(∀ b∈fp,FpOk X pins H' b)∧R J H'
def PI (X:Cx) (tg iter:Expr) (wi:TI):Prop:=
 ∀ (pins:List (Addr × Obj)) (s:Shared) (σ:St) (H:Hp) (R:It→Hp→Prop),Inv X pins σ H s→wi σ H R→
  wpAny (model X.prog X.w) X.A (eval iter X.env) (fun v s1=>wpAny (model X.prog X.w) X.A (pyIter v) (PIE X pins σ tg R) X.xe s1) X.xe s
theorem go_of {M:Model} {A:Around} {E:Value→Shared→Prop} {s:Shared} {tg:Expr} {it:Addr} {u:Value} {o:Obj} {n:String} {vs:Array Value} {Q:Unit→Shared→Prop} (ho:s.heap.get? it=some o) (hc:o.cls=.type n) (hd:o.data=.fields vs)
    (hn:["enumerate","zip","dict_itemiterator","dict_reverseitemiterator","odict_iterator","itertools.zip_longest","itertools.pairwise"].contains n=false) (hQ:Q () s):wpAny M A (letOwnedTupleGo tg (.ref it) u) Q E s:=by
  unfold letOwnedTupleGo
  cases tg <;> first
    | exact wpAny_pure hQ
    | (cases u <;> first
        | exact wpAny_pure hQ
        | (refine wpAny_bind (wpAny_load ho ?_)
           rw [hc,hd]
           show wpAny M A (if (["enumerate","zip","dict_itemiterator","dict_reverseitemiterator","odict_iterator","itertools.zip_longest","itertools.pairwise"].contains n && vs[0]? == some (rawInt _))=true then _ else _) Q E s
           rw [if_neg (by intro h;rw [hn,Bool.false_and] at h;cases h)]
           exact wpAny_pure hQ))
def Itl (K:PySem.W.Frag) (a:Addr):It:=
 ⟨fun i H=>∃ xs x,SqL K H a xs∧xs[i]?=some x,fun i H x H'=>H'=H∧∀ xs,SqL K H a xs→xs[i]?=some x,fun i H=>∃ xs,SqL K H a xs∧xs.length≤i⟩
def Itt (K:PySem.W.Frag) (a:Addr):It:=
 ⟨fun i H=>∃ xs x,SqT K H a xs∧xs[i]?=some x,fun i H x H'=>H'=H∧∀ xs,SqT K H a xs→xs[i]?=some x,fun i H=>∃ xs,SqT K H a xs∧xs.length≤i⟩
def Itr (lo:Int) (n:Nat):It:=⟨fun i _=>i<n,fun i H x H'=>H'=H∧x=.int (lo+i),fun i _=>n≤i⟩
theorem turn_list {P:Program} {w:World} {K:PySem.W.Frag} {tg:Expr} (a it:Addr):Turn P w K tg (Itl K a) [it] it (fun i h=>h.IsListIter it a i) where
 mem:=by simp
 obj:=fun i h st b hb=>by
  have e:b=it:=by simpa using hb
  subst e
  obtain ⟨o,e,c,d⟩:=st
  exact ⟨o,e,fun v z=>by rw [d] at z;cases z⟩
 keep:=fun i h h' st k=>st.at fun o e=>k it (by simp) o e
 item:=by
  intro X hP hw hK hc i pins s σ H E I hf st hg
  subst hP hw hK
  obtain ⟨xs,x,hq,hx⟩:=hg
  obtain ⟨its,rv,p,hz⟩:=I.list hq
  obtain ⟨u,hu,ru⟩:=rv.get hx
  obtain ⟨f0,f1,f2,f3,f4,f5⟩:=hf it (by simp)
  refine wpAny_pyNext_list_item st p.isList (x:=u) (by simpa using hu) fun h' st' sb=>?_
  have I1:Inv X pins σ H { s with heap:=h' }:=I.turned (t':=s.toks) (fun b o hb e=>(sb.2 b hb).trans e) f0 f1 f3 f4 f5
  obtain ⟨o,e,c,d⟩:=id st'
  exact ⟨u,rfl,go_of (s:={ s with heap:=h' }) e c d (by decide) ⟨x,H,I1,ru,⟨rfl,fun ys hy=>by rw [I.list_inj hy hq];exact hx⟩,st',fun b hb=>(hf b hb).1⟩⟩
 done:=by
  intro X hP hw hK hc i pins s σ H E I hf st hg
  subst hP hw hK
  obtain ⟨xs,hq,hx⟩:=hg
  obtain ⟨its,rv,p,hz⟩:=I.list hq
  obtain ⟨f0,f1,f2,f3,f4,f5⟩:=hf it (by simp)
  have hl:=rv.length
  exact wpAny_pyNext_list_end (I.ok.hd hc) st p.isList (by simp;omega) fun h' eb=>⟨rfl,I.turned (t':=s.toks) (fun b o hb e=>eb b o hb e) f0 f1 f3 f4 f5⟩
 self:=fun _ _ _ _ _ st h=>wpAny_pyIter_listiter st h
theorem turn_tuple {P:Program} {w:World} {K:PySem.W.Frag} {tg:Expr} (a it:Addr):Turn P w K tg (Itt K a) [it] it (fun i h=>h.IsTupleIter it a i) where
 mem:=by simp
 obj:=fun i h st b hb=>by
  have e:b=it:=by simpa using hb
  subst e
  obtain ⟨o,e,c,d⟩:=st
  exact ⟨o,e,fun v z=>by rw [d] at z;cases z⟩
 keep:=fun i h h' st k=>st.at fun o e=>k it (by simp) o e
 item:=by
  intro X hP hw hK hc i pins s σ H E I hf st hg
  subst hP hw hK
  obtain ⟨xs,x,hq,hx⟩:=hg
  obtain ⟨its,rv,p,hz⟩:=I.tuple hq
  obtain ⟨u,hu,ru⟩:=rv.get hx
  obtain ⟨f0,f1,f2,f3,f4,f5⟩:=hf it (by simp)
  refine wpAny_pyNext_tuple_item st (show s.heap.IsTuple a its.toArray from p) (x:=u) (by simpa using hu) fun h' st' sb=>?_
  have I1:Inv X pins σ H { s with heap:=h' }:=I.turned (t':=s.toks) (fun b o hb e=>(sb.2 b hb).trans e) f0 f1 f3 f4 f5
  obtain ⟨o,e,c,d⟩:=id st'
  exact ⟨u,rfl,go_of (s:={ s with heap:=h' }) e c d (by decide) ⟨x,H,I1,ru,⟨rfl,fun ys hy=>by rw [I.tuple_inj hy hq];exact hx⟩,st',fun b hb=>(hf b hb).1⟩⟩
 done:=by
  intro X hP hw hK hc i pins s σ H E I hf st hg
  subst hP hw hK
  obtain ⟨xs,hq,hx⟩:=hg
  obtain ⟨its,rv,p,hz⟩:=I.tuple hq
  obtain ⟨f0,f1,f2,f3,f4,f5⟩:=hf it (by simp)
  have hl:=rv.length
  exact wpAny_pyNext_tuple_end (I.ok.hd hc) st (show s.heap.IsTuple a its.toArray from p) (by simp;omega) fun h' eb=>⟨rfl,I.turned (t':=s.toks) (fun b o hb e=>eb b o hb e) f0 f1 f3 f4 f5⟩
 self:=fun _ _ _ _ _ st h=>wpAny_pyIter_tupleiter st h
theorem turn_range {P:Program} {w:World} {K:PySem.W.Frag} {tg:Expr} (it:Addr) (lo:Int) (n:Nat):Turn P w K tg (Itr lo n) [it] it (fun i h=>IsRangeIter h it (lo+(i:Nat)*1) ((n:Int)-(i:Nat)) 1) where
 mem:=by simp
 obj:=fun i h st b hb=>by
  have e:b=it:=by simpa using hb
  subst e
  exact ⟨_,st,fun v z=>by
   have z':Data.fields _=Data.cell v:=z
   cases z'⟩
 keep:=fun i h h' st k=>k it (by simp) _ st
 item:=by
  intro X hP hw hK hc i pins s σ H E I hf st hg
  subst hP hw hK
  obtain ⟨f0,f1,f2,f3,f4,f5⟩:=hf it (by simp)
  have W:=Walks.range (prog:=X.prog) (w:=X.w) (I.ok.hd hc) it lo 1 n
  refine W.item i s _ _ hg st fun v h' tk hv st' kk=>?_
  obtain ⟨t,rfl⟩:=hv
  have I1:Inv X pins σ H { s with heap:=h',toks:=tk }:=I.turned (fun b o hb e=>kk b o (by simpa using hb) e) f0 f1 f3 f4 f5
  refine ⟨_,rfl,go_of (s:={ s with heap:=h',toks:=tk }) (n:="range_iterator") st' rfl rfl (by decide) ⟨.int (lo+i),H,I1,⟨t,?_⟩,⟨rfl,rfl⟩,st',fun b hb=>(hf b hb).1⟩⟩
  rw [Int.mul_one]
 done:=by
  intro X hP hw hK hc i pins s σ H E I hf st hg
  subst hP hw hK
  obtain ⟨f0,f1,f2,f3,f4,f5⟩:=hf it (by simp)
  exact wpAny_pyNext_range_end (I.ok.hd hc) st (by have:n≤i:=hg;omega) fun h' eb=>⟨rfl,I.turned (t':=s.toks) (fun b o hb e=>eb b o hb e) f0 f1 f3 f4 f5⟩
 self:=fun _ _ _ _ _ st h=>wpAny_pyIter_rangeiter st h
end L2
namespace L2
open PySem PySem.Spec PyProof.Rows
section
variable {X:Cx} {tg:Expr}
inductive IiList (K:PySem.W.Frag) (R:It→Hp→Prop) (x:V) (H1:Hp):Prop
 | mk (a:_) (h1:x=.ref a) (h2:(∃ xs,SqL K H1 a xs)) (h3:R (Itl K a) H1):IiList K R x H1
def iList (K:PySem.W.Frag) (tl:TE):TI:=fun σ H R=>tl σ H fun x H1=>IiList K R x H1
inductive IiTup (K:PySem.W.Frag) (R:It→Hp→Prop) (x:V) (H1:Hp):Prop
 | mk (a:_) (h1:x=.ref a) (h2:(∃ xs,SqT K H1 a xs)) (h3:R (Itt K a) H1):IiTup K R x H1
def iTup (K:PySem.W.Frag) (tl:TE):TI:=fun σ H R=>tl σ H fun x H1=>IiTup K R x H1
theorem bH {l:Expr} {tl:TE} (hl:PE X l tl):PI X tg l (iList X.K tl):=by
 intro pins s σ H R I h
 refine thn (hl pins s σ H _ I h) fun v s1 ⟨x,H1,I1,r1,q1⟩=>?_
 obtain ⟨a,e,⟨xs,hq⟩,q⟩:=q1
 subst e
 cases r1
 obtain ⟨its,rv,p,hz⟩:=I1.list hq
 refine wpAny_pyIter_list p.isList ?_
 refine ⟨s1.heap.objs.size,[s1.heap.objs.size],_,_,H1,rfl,I1.kept (t':=s1.toks) fun b o e=>Heap.get?_push_of_some _ e,turn_list a _,⟨_,Heap.get?_push_size _ rfl,rfl,rfl⟩,fun b hb=>?_,q⟩
 have e:b=s1.heap.objs.size:=by simpa using hb
 subst e
 exact I1.fpOk (Nat.le_refl _) (I1.hok.fresh (Nat.le_refl _))
theorem pi_tup {l:Expr} {tl:TE} (hl:PE X l tl):PI X tg l (iTup X.K tl):=by
 intro pins s σ H R I h
 refine thn (hl pins s σ H _ I h) fun v s1 ⟨x,H1,I1,r1,q1⟩=>?_
 obtain ⟨a,e,⟨xs,hq⟩,q⟩:=q1
 subst e
 cases r1
 obtain ⟨its,rv,p,hz⟩:=I1.tuple hq
 refine wpAny_pyIter_tuple (show s1.heap.IsTuple a its.toArray from p) ?_
 refine ⟨s1.heap.objs.size,[s1.heap.objs.size],_,_,H1,rfl,I1.kept (t':=s1.toks) fun b o e=>Heap.get?_push_of_some _ e,turn_tuple a _,⟨_,Heap.get?_push_size _ rfl,rfl,rfl⟩,fun b hb=>?_,q⟩
 have e:b=s1.heap.objs.size:=by simpa using hb
 subst e
 exact I1.fpOk (Nat.le_refl _) (I1.hok.fresh (Nat.le_refl _))
theorem range_it {pins:List (Addr × Obj)} {σ:St} {H:Hp} {s:Shared} {R:It→Hp→Prop} {E:Value→Shared→Prop} {lo hi:Int} {t u v:Tok} {tk:Nat} (I:Inv X pins σ H s) (h1:-(2 ^ 62)≤lo) (h2:lo<2 ^ 62) (h3:-(2 ^ 62)≤hi) (h4:hi<2 ^ 62)
  (q:R (Itr lo (hi-lo).toNat) H):wpAny (model X.prog X.w) X.A (pyIter (.ref s.heap.objs.size)) (PIE X pins σ tg R) E { s with heap:=s.heap.push { cls:=.type "range",data:=.fields #[.int lo t,.int hi u,.int 1 v] },toks:=tk }:=by
 refine wpAny_pyIter_range (IsRange.new ..) (small_one h1 h2 h3 h4) ?_
 have I1:Inv X pins σ H { s with heap:=s.heap.push { cls:=.type "range",data:=.fields #[.int lo t,.int hi u,.int 1 v] },toks:=tk }:=I.kept fun b o e=>Heap.get?_push_of_some _ e
 refine ⟨(s.heap.push { cls:=.type "range",data:=.fields #[.int lo t,.int hi u,.int 1 v] }).objs.size,[(s.heap.push { cls:=.type "range",data:=.fields #[.int lo t,.int hi u,.int 1 v] }).objs.size],_,_,H,rfl,
  I1.kept (t':=tk) fun b o e=>Heap.get?_push_of_some _ e,turn_range _ lo (hi-lo).toNat,?_,fun b hb=>?_,q⟩
 ·have e1:lo+((0:Nat):Int)*1=lo:=by simp
  have e2:(((hi-lo).toNat:Nat):Int)-((0:Nat):Int)=Builtin.Range.rangeSize lo hi 1:=by rw [rangeSize_one];split <;> omega
  show IsRangeIter _ _ (lo+((0:Nat):Int)*1) ((((hi-lo).toNat:Nat):Int)-((0:Nat):Int)) 1
  rw [e1,e2]
  exact Heap.get?_push_size _ rfl
 ·have e:b=(s.heap.push { cls:=.type "range",data:=.fields #[.int lo t,.int hi u,.int 1 v] }).objs.size:=by simpa using hb
  subst e
  exact I1.fpOk (Nat.le_refl _) (I1.hok.fresh (Nat.le_refl _))
def iRng1 (ta:TA):TI:=fun σ H R=>ta σ H fun vs H1=>∃ j:Int,vs=[.int j]∧-(2 ^ 62)≤j∧j<2 ^ 62∧R (Itr 0 j.toNat) H1
def iRng2 (ta:TA):TI:=fun σ H R=>ta σ H fun vs H1=>∃ i j:Int,vs=[.int i,.int j]∧(-(2 ^ 62)≤i∧i<2 ^ 62∧-(2 ^ 62)≤j∧j<2 ^ 62)∧R (Itr i (j-i).toNat) H1
theorem bo {a:Expr} {ta:TA} {p pos:Pos} (hg:Gl X "range") (hm:X.mg "range"=none) (ha:PA X [a] ta) (hs:starEach [a] X.env=[(false,eval a X.env)]:=by rfl):PI X tg (.Call (.Name "range" p) [a] [] pos) (iRng1 ta):=by
 intro pins s σ H R I h
 refine Call_ (ld_blt I hg hm boot_range (PyProof.Rows.callWith_type1 (thn (ha pos pins s σ H _ I h) fun us s1 ⟨vs,H1,I1,r1,q1⟩=>?_) hs rfl))
 obtain ⟨j,e,q1,q2,q⟩:=q1
 subst e
 cases r1 with
 | cons r rr=>
  cases rr
  obtain ⟨t,rfl⟩:=r
  exact call_range_1 (range_it I1 (by omega) (by omega) q1 q2 (by simpa using q))
def tFor (wi:TI) (g:TG) (tb:TS):TS:=fun D σ H=>wi σ H fun J H1=>∃ W:Nat→Nat→St→Hp→Prop,(∃ m,W 0 m σ H1)∧∀ i m σ H,W i m σ H→
 (J.stop i H∧D.nx σ H)∨(J.go i H∧∃ N:St→Hp→Prop,(∀ σ' H',N σ' H'→∃ m',m'<m∧W (i+1) m' σ' H')∧∀ x H',J.yld i H x H'→g x σ H' fun σ2 H2=>tb { D with nx:=N,ct:=N,bk:=D.nx } σ2 H2)
def pinsAt (fp:List Addr) (h:Heap):List (Addr × Obj):=fp.filterMap fun b=>(h.get? b).map fun o=>(b,o)
theorem dz {fp:List Addr} {h:Heap} {b:Addr} {o:Obj} (hb:b∈fp) (e:h.get? b=some o):(b,o)∈pinsAt fp h:=List.mem_filterMap.mpr ⟨b,hb,by rw [e];rfl⟩
theorem of_pinsAt {fp:List Addr} {h:Heap} {p:Addr × Obj} (hp:p∈pinsAt fp h):p.1∈fp∧h.get? p.1=some p.2:=by
 obtain ⟨b,hb,e⟩:=List.mem_filterMap.mp hp
 cases q:h.get? b with
 | none=>rw [q] at e;cases e
 | some o=>
  rw [q] at e
  have e':(b,o)=p:=Option.some.inj e
  subst e'
  exact ⟨hb,q⟩
theorem Inv.pinned {pins:List (Addr × Obj)} {σ:St} {H:Hp} {s:Shared} {fp:List Addr} (I:Inv X pins σ H s) (hf:∀ b∈fp,FpOk X pins H b) (ho:∀ b∈fp,∃ o,s.heap.get? b=some o∧∀ v,o.data≠.cell v):Inv X (pins++pinsAt fp s.heap) σ H s:=
 I.pins_of fun p hp=>(List.mem_append.mp hp).elim (fun z=>I.pin p (List.mem_append_right _ z)) fun z=>by
  obtain ⟨hb,e⟩:=of_pinsAt z
  obtain ⟨f0,f1,f2,_⟩:=hf p.1 hb
  obtain ⟨o,e',d⟩:=ho p.1 hb
  rw [e] at e';cases e'
  exact ⟨e,f0,f1,f2,d⟩
theorem Inv.unpinned {pins pl:List (Addr × Obj)} {σ:St} {H:Hp} {s:Shared} (I:Inv X (pins++pl) σ H s):Inv X pins σ H s:=I.pins_of fun p hp=>I.pin p (List.mem_append_right _ (List.mem_append_left _ hp))
theorem bu {iter:Expr} {body:List Stmt} {wi:TI} {g:TG} {tb:TS} {pos:Pos} (hp:PassesOwn (model X.prog X.w) X.A X.env X.xe) (hc:X.calm=true) (hi:PI X tg iter wi) (hg:PG X tg g) (hb:PSs X body tb)
  (hs:∀ x,foldedSetIterable iter X.env x=pure x:=by intro _;rfl):PS X (.For tg iter body [] pos) (tFor wi g tb):=by
 intro pins s σ H D I h
 refine wpAny_For (thn (hi pins s σ H _ I h) fun v s1 h1=>thn h1 fun itv s2 h2=>?_) hs
 obtain ⟨it,fp,tn,J,H2,e,I2,T,st2,f2,W,⟨m0,w0⟩,turn⟩:=h2
 subst e
 have stat:∀ {H':Hp},(∀ b∈fp,H' b=none)→∀ b∈fp,FpOk X pins H' b:=fun hn b hb=>⟨hn b hb,(f2 b hb).2⟩
 refine codeAny_forLoop_any (fun n s'=>∃ i σ' H',Inv X pins σ' H' s'∧tn i s'.heap∧(∀ b∈fp,H' b=none)∧W i n σ' H') ?_ m0 ⟨0,σ,H2,I2,st2,fun b hb=>(f2 b hb).1,w0⟩
 rintro n s3 ⟨i,σ3,H3,I3,st3,fr3,w3⟩
 rcases turn i n σ3 H3 w3 with ⟨stop,qn⟩ | ⟨go,N,hN,step⟩
 ·refine wpAny_passesOwn hp (thn (T.done X rfl rfl rfl hc i pins s3 σ3 H3 X.xe I3 (stat fr3) st3 stop) fun r s4 ⟨hr,I4⟩=>?_)
  subst hr
  exact wpAny_execs_nil ⟨σ3,H3,I4,qn⟩
 ·refine wpAny_passesOwn hp (thn (T.item X rfl rfl rfl hc i pins s3 σ3 H3 X.xe I3 (stat fr3) st3 go) fun r s4 ⟨u,hr,h4⟩=>?_)
  subst hr
  refine wpAny_passesOwn hp (thn h4 fun _ s5 ⟨x,H5,I5,r5,y5,st5,fr5⟩=>?_)
  have I5':=I5.pinned (stat fr5) (T.obj _ _ st5)
  refine wpAny_passesOwn hp (thn (hg _ s5 σ3 H5 x u _ I5' r5 (step x H5 y5)) fun _ s6 ⟨σ6,H6,I6,q6⟩=>?_)
  refine wpAny_passesOwn hp (thn (hb _ s6 σ6 H6 _ I6 q6) fun f s7 q7=>?_)
  have again:∀ {σ7:St} {H7:Hp},Inv X (pins++pinsAt fp s5.heap) σ7 H7 s7→N σ7 H7→∃ m,m<n∧∃ i σ' H',Inv X pins σ' H' s7∧tn i s7.heap∧(∀ b∈fp,H' b=none)∧W i m σ' H':=fun {σ7 H7} I7 n7=>by
   obtain ⟨m',hm,w7⟩:=hN σ7 H7 n7
   refine ⟨m',hm,i+1,σ7,H7,I7.unpinned,T.keep _ _ _ st5 fun b hb o e=>(I7.pin (b,o) (List.mem_append_right _ (List.mem_append_right _ (dz hb e)))).1,fun b hb=>?_,w7⟩
   obtain ⟨o,e,d⟩:=T.obj _ _ st5 b hb
   exact (I7.pin (b,o) (List.mem_append_right _ (List.mem_append_right _ (dz hb e)))).2.1
  cases f with
  | next=>obtain ⟨σ7,H7,I7,n7⟩:=q7;exact again I7 n7
  | cont=>obtain ⟨σ7,H7,I7,n7⟩:=q7;exact again I7 n7
  | brk=>obtain ⟨σ7,H7,I7,q7⟩:=q7;exact ⟨σ7,H7,I7.unpinned,q7⟩
  | ret v=>obtain ⟨x7,σ7,H7,I7,r7,q7⟩:=q7;exact ⟨x7,σ7,H7,I7.unpinned,r7,q7⟩
end
theorem bO {K:PySem.W.Frag} {a:Addr} {xs:List V} {g:TG} {tb:TS} {D:Ends} {σ:St} {H:Hp} (Pv:Nat→St→Hp→Prop) (h0:Pv 0 σ H) (hl:∀ i σ H,i≤xs.length→Pv i σ H→SqL K H a xs)
  (hs:∀ i x σ H,xs[i]?=some x→Pv i σ H→g x σ H fun σ2 H2=>tb { D with nx:=Pv (i+1),ct:=Pv (i+1),bk:=D.nx } σ2 H2) (hd:∀ σ H,Pv xs.length σ H→D.nx σ H) :
  ∃ W:Nat→Nat→St→Hp→Prop,(∃ m,W 0 m σ H)∧∀ i m σ H,W i m σ H→
   ((Itl K a).stop i H∧D.nx σ H)∨((Itl K a).go i H∧∃ N:St→Hp→Prop,(∀ σ' H',N σ' H'→∃ m',m'<m∧W (i+1) m' σ' H')∧∀ x H',(Itl K a).yld i H x H'→g x σ H' fun σ2 H2=>tb { D with nx:=N,ct:=N,bk:=D.nx } σ2 H2):=by
 refine ⟨fun i m σ H=>m=xs.length-i∧i≤xs.length∧Pv i σ H,⟨xs.length,by simp,Nat.zero_le _,h0⟩,?_⟩
 rintro i m σ H ⟨rfl,hi,p⟩
 have q:=hl i σ H hi p
 by_cases hlt:i<xs.length
 ·refine .inr ⟨⟨xs,xs[i],q,by simp [hlt]⟩,Pv (i+1),fun σ' H' p'=>⟨xs.length-(i+1),by omega,rfl,hlt,p'⟩,fun x H' y=>?_⟩
  obtain ⟨e,y⟩:=y
  subst e
  exact hs i x σ _ (y xs q) p
 ·have e:i=xs.length:=by omega
  subst e
  exact .inl ⟨⟨xs,q,Nat.le_refl _⟩,hd σ H p⟩
theorem for_tup {K:PySem.W.Frag} {a:Addr} {xs:List V} {g:TG} {tb:TS} {D:Ends} {σ:St} {H:Hp} (Pv:Nat→St→Hp→Prop) (h0:Pv 0 σ H) (hl:∀ i σ H,i≤xs.length→Pv i σ H→SqT K H a xs)
  (hs:∀ i x σ H,xs[i]?=some x→Pv i σ H→g x σ H fun σ2 H2=>tb { D with nx:=Pv (i+1),ct:=Pv (i+1),bk:=D.nx } σ2 H2) (hd:∀ σ H,Pv xs.length σ H→D.nx σ H) :
  ∃ W:Nat→Nat→St→Hp→Prop,(∃ m,W 0 m σ H)∧∀ i m σ H,W i m σ H→
   ((Itt K a).stop i H∧D.nx σ H)∨((Itt K a).go i H∧∃ N:St→Hp→Prop,(∀ σ' H',N σ' H'→∃ m',m'<m∧W (i+1) m' σ' H')∧∀ x H',(Itt K a).yld i H x H'→g x σ H' fun σ2 H2=>tb { D with nx:=N,ct:=N,bk:=D.nx } σ2 H2):=by
 refine ⟨fun i m σ H=>m=xs.length-i∧i≤xs.length∧Pv i σ H,⟨xs.length,by simp,Nat.zero_le _,h0⟩,?_⟩
 rintro i m σ H ⟨rfl,hi,p⟩
 have q:=hl i σ H hi p
 by_cases hlt:i<xs.length
 ·refine .inr ⟨⟨xs,xs[i],q,by simp [hlt]⟩,Pv (i+1),fun σ' H' p'=>⟨xs.length-(i+1),by omega,rfl,hlt,p'⟩,fun x H' y=>?_⟩
  obtain ⟨e,y⟩:=y
  subst e
  exact hs i x σ _ (y xs q) p
 ·have e:i=xs.length:=by omega
  subst e
  exact .inl ⟨⟨xs,q,Nat.le_refl _⟩,hd σ H p⟩
theorem dA {lo:Int} {n:Nat} {g:TG} {tb:TS} {D:Ends} {σ:St} {H:Hp} (Pv:Nat→St→Hp→Prop) (h0:Pv 0 σ H)
  (hs:∀ i σ H,i<n→Pv i σ H→g (.int (lo+i)) σ H fun σ2 H2=>tb { D with nx:=Pv (i+1),ct:=Pv (i+1),bk:=D.nx } σ2 H2) (hd:∀ σ H,Pv n σ H→D.nx σ H) :
  ∃ W:Nat→Nat→St→Hp→Prop,(∃ m,W 0 m σ H)∧∀ i m σ H,W i m σ H→
   ((Itr lo n).stop i H∧D.nx σ H)∨((Itr lo n).go i H∧∃ N:St→Hp→Prop,(∀ σ' H',N σ' H'→∃ m',m'<m∧W (i+1) m' σ' H')∧∀ x H',(Itr lo n).yld i H x H'→g x σ H' fun σ2 H2=>tb { D with nx:=N,ct:=N,bk:=D.nx } σ2 H2):=by
 refine ⟨fun i m σ H=>m=n-i∧i≤n∧Pv i σ H,⟨n,by simp,Nat.zero_le _,h0⟩,?_⟩
 rintro i m σ H ⟨rfl,hi,p⟩
 by_cases hlt:i<n
 ·refine .inr ⟨hlt,Pv (i+1),fun σ' H' p'=>⟨n-(i+1),by omega,rfl,hlt,p'⟩,fun x H' y=>?_⟩
  obtain ⟨e,y⟩:=y
  subst e y
  exact hs i σ _ hlt p
 ·have e:i=n:=by omega
  subst e
  exact .inl ⟨Nat.le_refl _,hd σ H p⟩
theorem while_by {c:TT} {tb:TS} {D:Ends} {σ:St} {H:Hp} (Pv:St→Hp→Prop) (μ:St→Hp→Nat) (h0:Pv σ H)
  (hs:∀ σ H,Pv σ H→c σ H fun b H1=>if b=true then tb { D with nx:=fun σ' H'=>Pv σ' H'∧μ σ' H' < μ σ H,ct:=fun σ' H'=>Pv σ' H'∧μ σ' H' < μ σ H,bk:=D.nx } σ H1 else D.nx σ H1)
  (mono:∀ σ H Q Q',(∀ b H1,Q b H1→Q' b H1)→c σ H Q→c σ H Q'):tWhile c tb D σ H:=by
 refine ⟨fun m σ H=>m = μ σ H∧Pv σ H,⟨_,rfl,h0⟩,?_⟩
 rintro m σ H ⟨rfl,p⟩
 refine mono σ H _ _ (fun b H1 q=>?_) (hs σ H p)
 cases b with
 | true=>exact ⟨_,fun σ' H' ⟨p',l⟩=>⟨_,l,rfl,p'⟩,q⟩
 | false=>exact q
end L2
namespace L2
open PySem PySem.Spec PyProof.Rows
abbrev R2:=V→V→Hp→VK→Prop
def OpR (X:Cx) (f:Value→Value→Sem Value) (r:R2):Prop:=
 ∀ (pins:List (Addr × Obj)) (s:Shared) (σ:St) (H:Hp) (x y:V) (v u:Value) (Q:VK),Inv X pins σ H s→RelV x v→RelV y u→r x y H Q→
  wpAny (model X.prog X.w) X.A (f v u) (EP X pins σ Q) X.xe s
def UnR (X:Cx) (f:Value→Sem Value) (r:V→Hp→VK→Prop):Prop:=
 ∀ (pins:List (Addr × Obj)) (s:Shared) (σ:St) (H:Hp) (x:V) (v:Value) (Q:VK),Inv X pins σ H s→RelV x v→r x H Q→
  wpAny (model X.prog X.w) X.A (f v) (EP X pins σ Q) X.xe s
def gj (X:Cx) (f:Value) (r:List V→Hp→VK→Prop):Prop:=
 ∀ (pins:List (Addr × Obj)) (s:Shared) (σ:St) (H:Hp) (xs:List V) (us:List Value) (Q:VK),Inv X pins σ H s→Vals xs us→r xs H Q→
  wpAny (model X.prog X.w) X.A (call f us) (EP X pins σ Q) X.xe s
def TruR (X:Cx) (r:V→Hp→(Bool→Hp→Prop)→Prop):Prop:=
 ∀ (pins:List (Addr × Obj)) (s:Shared) (σ:St) (H:Hp) (x:V) (v:Value) (Q:Bool→Hp→Prop),Inv X pins σ H s→RelV x v→r x H Q→
  wpAny (model X.prog X.w) X.A (truthy v) (TP X pins σ Q) X.xe s
def tOp (r:R2) (ta tb:TE):TE:=fun σ H Q=>ta σ H fun x H1=>tb σ H1 fun y H2=>r x y H2 Q
def tUn (r:V→Hp→VK→Prop) (ta:TE):TE:=fun σ H Q=>ta σ H fun x H1=>r x H1 Q
def rI (C:Int→Int→Prop) (g:Int→Int→V):R2:=fun x y H Q=>∃ i j,x=.int i∧y=.int j∧C i j∧Q (g i j) H
inductive IrI0 (g:Int→Int→V) (x:V) (y:V) (H:Hp) (Q:VK):Prop
 | mk (i:_) (j:_) (h1:x=.int i) (h2:y=.int j) (h3:Q (g i j) H):IrI0 g x y H Q
def rI0 (g:Int→Int→V):R2:=fun x y H Q=>IrI0 g x y H Q
inductive IrU (g:Int→V) (x:V) (H:Hp) (Q:VK):Prop
 | mk (i:_) (h1:x=.int i) (h2:Q (g i) H):IrU g x H Q
def rU (g:Int→V):V→Hp→VK→Prop:=fun x H Q=>IrU g x H Q
section
variable {X:Cx} {a b c:Expr} {ta tb tc:TE} {pos:Pos}
theorem binT (ha:PE X a ta) (hb:PE X b tb) {pins:List (Addr × Obj)} {s:Shared} {σ:St} {H:Hp} {R:V→V→Hp→Prop} (I:Inv X pins σ H s)
  (h:ta σ H fun x H1=>tb σ H1 fun y H2=>R x y H2) {Q:Value→Shared→Prop} {f:Value→Value→Sem Value}
  (hf:∀ v u s2 x y H2,Inv X pins σ H2 s2→RelV x v→RelV y u→R x y H2→wpAny (model X.prog X.w) X.A (f v u) Q X.xe s2) :
  wpAny (model X.prog X.w) X.A (eval a X.env) (fun v s₁=>wpAny (model X.prog X.w) X.A (eval b X.env) (fun u s₂=>wpAny (model X.prog X.w) X.A (f v u) Q X.xe s₂) X.xe s₁) X.xe s:=by
 refine thn (ha pins s σ H _ I h) fun v s1 ⟨x,H1,I1,r1,q1⟩=>?_
 refine thn (hb pins s1 σ H1 _ I1 q1) fun u s2 ⟨y,H2,I2,r2,q2⟩=>?_
 exact hf v u s2 x y H2 I2 r1 r2 q2
theorem ao {op:Operator} {r:R2} (ho:OpR X (binaryOp op) r) (ha:PE X a ta) (hb:PE X b tb):PE X (.BinOp a op b pos) (tOp r ta tb):=by
 intro pins s σ H Q I h
 exact wpAny_BinOp (binT ha hb I h fun v u s2 x y H2 I2 rx ry q=>ho pins s2 σ H2 x y v u Q I2 rx ry q)
theorem pe_un {op:UnaryOp} {r:V→Hp→VK→Prop} (ho:UnR X (unaryOp op) r) (ha:PE X a ta):PE X (.UnaryOp op a pos) (tUn r ta):=by
 intro pins s σ H Q I h
 exact UnaryOp_ (thn (ha pins s σ H _ I h) fun v s1 ⟨x,H1,I1,r1,q1⟩=>ho pins s1 σ H1 x v Q I1 r1 q1)
theorem opI {f:Value→Value→Sem Value} {C:Int→Int→Prop} {g:Int→Int→Int}
  (rule:∀ (i j:Int) (t u:Tok) (s:Shared) (Q:Value→Shared→Prop) (E:Value→Shared→Prop),C i j→Q (.int (g i j) s.toks) { s with toks:=s.toks+1 }→wpAny (model X.prog X.w) X.A (f (.int i t) (.int j u)) Q E s) :
  OpR X f (rI C fun i j=>.int (g i j)):=by
 intro pins s σ H x y v u Q I rx ry h
 obtain ⟨i,j,rfl,rfl,hc,q⟩:=h
 obtain ⟨t,rfl⟩:=rx
 obtain ⟨t',rfl⟩:=ry
 exact rule i j t t' s _ _ hc ⟨.int (g i j),H,I.tok _,⟨_,rfl⟩,q⟩
theorem opI0 {f:Value→Value→Sem Value} {g:Int→Int→Int}
  (rule:∀ (i j:Int) (t u:Tok) (s:Shared) (Q:Value→Shared→Prop) (E:Value→Shared→Prop),Q (.int (g i j) s.toks) { s with toks:=s.toks+1 }→wpAny (model X.prog X.w) X.A (f (.int i t) (.int j u)) Q E s) :
  OpR X f (rI0 fun i j=>.int (g i j)):=by
 intro pins s σ H x y v u Q I rx ry h
 obtain ⟨i,j,rfl,rfl,q⟩:=h
 obtain ⟨t,rfl⟩:=rx
 obtain ⟨t',rfl⟩:=ry
 exact rule i j t t' s _ _ ⟨.int (g i j),H,I.tok _,⟨_,rfl⟩,q⟩
theorem opB0 {f:Value→Value→Sem Value} {g:Int→Int→Bool}
  (rule:∀ (i j:Int) (t u:Tok) (s:Shared) (Q:Value→Shared→Prop) (E:Value→Shared→Prop),Q (.bool (g i j)) s→wpAny (model X.prog X.w) X.A (f (.int i t) (.int j u)) Q E s) :
  OpR X f (rI0 fun i j=>.bl (g i j)):=by
 intro pins s σ H x y v u Q I rx ry h
 obtain ⟨i,j,rfl,rfl,q⟩:=h
 obtain ⟨t,rfl⟩:=rx
 obtain ⟨t',rfl⟩:=ry
 exact rule i j t t' s _ _ ⟨.bl (g i j),H,I,rfl,q⟩
def CDiv (i j:Int):Prop:=0<j∧j<1073741824
def CDivN (i j:Int):Prop:=j≠0∧j.natAbs<1073741824
def CPow (i j:Int):Prop:=0≤j∧j≤1000000∧i.natAbs<2 ^ 64
def CMul (i j:Int):Prop:=(-(2 ^ 64)<i∧i<2 ^ 64)∨(-(2 ^ 64)<j∧j<2 ^ 64)
theorem CMul.ok {i j:Int} (h:CMul i j):IntMulOk i j:=by
 rcases h with ⟨h1,h2⟩ | ⟨h1,h2⟩
 ·exact .of_left (intBits_le_64 h1 h2)
 ·exact .of_right (intBits_le_64 h1 h2)
theorem bY:OpR X (binaryOp .Add) (rI0 fun i j=>.int (i+j)):=opI0 fun _ _ _ _ _ _ _ q=>add_int q
theorem fL:OpR X (binaryOp .Sub) (rI0 fun i j=>.int (i-j)):=opI0 fun _ _ _ _ _ _ _ q=>sub_int q
theorem op_mul:OpR X (binaryOp .Mult) (rI CMul fun i j=>.int (i*j)):=opI fun _ _ _ _ _ _ _ hc q=>mul_int q hc.ok
theorem bp:OpR X (binaryOp .FloorDiv) (rI CDiv fun i j=>.int (i / j)):=opI fun i j _ _ _ _ _ hc q=>by
 have h1:(0:Int)<j:=hc.1
 have h2:j<1073741824:=hc.2
 exact floordiv_int (by omega) (by rw [Int.fdiv_eq_ediv_of_nonneg i (by omega)];exact q) (.inl (PyProof.noPylong_small (by omega)))
theorem aW:OpR X (binaryOp .Mod) (rI (fun _ j=>0<j) fun i j=>.int (i % j)):=opI fun i j _ _ _ _ _ hc q=>by
 have h1:(0:Int)<j:=hc
 exact mod_int' (by omega) (by rw [Int.fmod_eq_emod_of_nonneg i (by omega)];exact q)
theorem op_pow:OpR X (binaryOp .Pow) (rI CPow fun i j=>.int (i ^ j.toNat)):=opI fun _ _ _ _ _ _ _ hc q=>pow_int_small hc.1 hc.2.1 hc.2.2 q
theorem unI {f:Value→Sem Value} {g:Int→Int}
  (rule:∀ (i:Int) (t:Tok) (s:Shared) (Q:Value→Shared→Prop) (E:Value→Shared→Prop),Q (.int (g i) s.toks) { s with toks:=s.toks+1 }→wpAny (model X.prog X.w) X.A (f (.int i t)) Q E s) :
  UnR X f (rU fun i=>.int (g i)):=by
 intro pins s σ H x v Q I rx h
 obtain ⟨i,rfl,q⟩:=h
 obtain ⟨t,rfl⟩:=rx
 exact rule i t s _ _ ⟨.int (g i),H,I.tok _,⟨_,rfl⟩,q⟩
theorem un_neg:UnR X (unaryOp .USub) (rU fun i=>.int (-i)):=unI fun _ _ _ _ _ q=>neg_int q
end
def scal:V→V→Bool
 | .non,.non=>true | .non,.int _=>true | .int _,.non=>true | .non,.bl _=>true | .bl _,.non=>true | .non,.str _=>true | .str _,.non=>true
 | .int _,.int _=>true | .bl _,.bl _=>true | .str _,.str _=>true | .byt _,.byt _=>true
 | .int _,.str _=>true | .str _,.int _=>true | .bl _,.str _=>true | .str _,.bl _=>true
 | _,_=>false
def rEq:R2:=fun x y H Q=>scal x y=true∧Q (.bl (decide (x=y))) H
def rNe:R2:=fun x y H Q=>scal x y=true∧Q (.bl (!decide (x=y))) H
theorem dec_int {i j:Int}:decide (V.int i=V.int j)=(i == j):=by
 rw [Bool.eq_iff_iff]
 simp
theorem dec_bl {i j:Bool}:decide (V.bl i=V.bl j)=(i == j):=by
 rw [Bool.eq_iff_iff]
 simp
theorem dec_str {i j:Str}:decide (V.str i=V.str j)=(i == j):=by
 rw [Bool.eq_iff_iff]
 simp
theorem dec_byt {i j:Array UInt8}:decide (V.byt i=V.byt j)=(i.toList == j.toList):=by
 rw [Bool.eq_iff_iff]
 cases i
 cases j
 simp
section
variable {X:Cx} {a b c:Expr} {ta tb tc:TE} {pos:Pos}
theorem a5 {pins:List (Addr × Obj)} {σ:St} {H:Hp} {s:Shared} {Q:VK} {k k':Bool} (I:Inv X pins σ H s) (q:Q (.bl k) H) (e:k=k'):EP X pins σ Q (.bool k') s:=by
 subst e
 exact ⟨.bl k,H,I,rfl,q⟩
theorem cA:OpR X (compareOp .Eq) rEq:=by
 intro pins s σ H x y v u Q I rx ry h
 obtain ⟨hs,q⟩:=h
 cases x with
 | non=>
  cases rx
  cases y with
  | non=>cases ry;exact PySem.EqNone.eq_none_none (a5 I q (by simp))
  | bl j=>cases ry;exact PySem.EqNone.eq_none_bool (a5 I q (by simp))
  | int j=>obtain ⟨t',rfl⟩:=ry;exact PySem.EqNone.eq_none_int (a5 I q (by simp))
  | str j=>obtain ⟨t',rfl⟩:=ry;exact PySem.EqNone.eq_none_str (a5 I q (by simp))
  | _=>exact absurd (show false=true from hs) Bool.false_ne_true
 | bl i=>
  cases rx
  cases y with
  | non=>cases ry;exact PySem.EqNone.eq_bool_none (a5 I q (by simp))
  | bl j=>cases ry;exact eq_bool (a5 I q dec_bl)
  | str j=>obtain ⟨t',rfl⟩:=ry;exact PySem.EqMixed.eq_bool_str (a5 I q (by simp))
  | _=>exact absurd (show false=true from hs) Bool.false_ne_true
 | int i=>
  obtain ⟨t,rfl⟩:=rx
  cases y with
  | non=>cases ry;exact PySem.EqNone.eq_int_none (a5 I q (by simp))
  | int j=>obtain ⟨t',rfl⟩:=ry;exact eq_int (a5 I q dec_int)
  | str j=>obtain ⟨t',rfl⟩:=ry;exact PySem.EqMixed.eq_int_str (a5 I q (by simp))
  | _=>exact absurd (show false=true from hs) Bool.false_ne_true
 | str i=>
  obtain ⟨t,rfl⟩:=rx
  cases y with
  | non=>cases ry;exact PySem.EqNone.eq_str_none (a5 I q (by simp))
  | bl j=>cases ry;exact PySem.EqMixed.eq_str_bool (a5 I q (by simp))
  | int j=>obtain ⟨t',rfl⟩:=ry;exact PySem.EqMixed.eq_str_int (a5 I q (by simp))
  | str j=>obtain ⟨t',rfl⟩:=ry;exact eq_str (a5 I q dec_str)
  | _=>exact absurd (show false=true from hs) Bool.false_ne_true
 | byt i=>
  obtain ⟨t,rfl⟩:=rx
  cases y with
  | byt j=>obtain ⟨t',rfl⟩:=ry;exact PySem.W.eq_bytes (a5 I q dec_byt)
  | _=>exact absurd (show false=true from hs) Bool.false_ne_true
 | _=>cases y <;> exact absurd (show false=true from hs) Bool.false_ne_true
theorem op_ne:OpR X (compareOp .NotEq) rNe:=by
 intro pins s σ H x y v u Q I rx ry h
 obtain ⟨hs,q⟩:=h
 cases x with
 | non=>
  cases rx
  cases y with
  | non=>cases ry;exact PySem.EqNone.ne_none_none (a5 I q (by simp))
  | bl j=>cases ry;exact PySem.EqNone.ne_none_bool (a5 I q (by simp))
  | int j=>obtain ⟨t',rfl⟩:=ry;exact PySem.EqNone.ne_none_int (a5 I q (by simp))
  | str j=>obtain ⟨t',rfl⟩:=ry;exact PySem.EqNone.ne_none_str (a5 I q (by simp))
  | _=>exact absurd (show false=true from hs) Bool.false_ne_true
 | bl i=>
  cases rx
  cases y with
  | non=>cases ry;exact PySem.EqNone.ne_bool_none (a5 I q (by simp))
  | bl j=>cases ry;exact ne_bool (a5 I q (congrArg not dec_bl))
  | str j=>obtain ⟨t',rfl⟩:=ry;exact PySem.EqMixed.ne_bool_str (a5 I q (by simp))
  | _=>exact absurd (show false=true from hs) Bool.false_ne_true
 | int i=>
  obtain ⟨t,rfl⟩:=rx
  cases y with
  | non=>cases ry;exact PySem.EqNone.ne_int_none (a5 I q (by simp))
  | int j=>obtain ⟨t',rfl⟩:=ry;exact ne_int (a5 I q (congrArg not dec_int))
  | str j=>obtain ⟨t',rfl⟩:=ry;exact PySem.EqMixed.ne_int_str (a5 I q (by simp))
  | _=>exact absurd (show false=true from hs) Bool.false_ne_true
 | str i=>
  obtain ⟨t,rfl⟩:=rx
  cases y with
  | non=>cases ry;exact PySem.EqNone.ne_str_none (a5 I q (by simp))
  | bl j=>cases ry;exact PySem.EqMixed.ne_str_bool (a5 I q (by simp))
  | int j=>obtain ⟨t',rfl⟩:=ry;exact PySem.EqMixed.ne_str_int (a5 I q (by simp))
  | str j=>obtain ⟨t',rfl⟩:=ry;exact ne_str (a5 I q (congrArg not dec_str))
  | _=>exact absurd (show false=true from hs) Bool.false_ne_true
 | byt i=>
  obtain ⟨t,rfl⟩:=rx
  cases y with
  | byt j=>obtain ⟨t',rfl⟩:=ry;exact PySem.W.ne_bytes (a5 I q (congrArg not dec_byt))
  | _=>exact absurd (show false=true from hs) Bool.false_ne_true
 | _=>cases y <;> exact absurd (show false=true from hs) Bool.false_ne_true
theorem dG:OpR X (compareOp .Lt) (rI0 fun i j=>.bl (decide (i<j))):=opB0 fun _ _ _ _ _ _ _ q=>lt_int q
theorem op_le:OpR X (compareOp .LtE) (rI0 fun i j=>.bl (decide (i≤j))):=opB0 fun _ _ _ _ _ _ _ q=>le_int q
theorem op_gt:OpR X (compareOp .Gt) (rI0 fun i j=>.bl (decide (j<i))):=opB0 fun _ _ _ _ _ _ _ q=>gt_int q
theorem op_isN:OpR X (compareOp .Is) (fun x y H Q=>y=.non∧Q (.bl (decide (x=.non))) H):=by
 intro pins s σ H x y v u Q I rx ry h
 obtain ⟨rfl,q⟩:=h
 cases ry
 refine is_none_gen (a5 I q ?_)
 cases x <;> first
  | (cases rx;rfl)
  | (obtain ⟨t,rfl⟩:=rx;rfl)
theorem cF:OpR X (compareOp .IsNot) (fun x y H Q=>y=.non∧Q (.bl (!decide (x=.non))) H):=by
 intro pins s σ H x y v u Q I rx ry h
 obtain ⟨rfl,q⟩:=h
 cases ry
 refine isnot_none_gen (a5 I q ?_)
 cases x <;> first
  | (cases rx;rfl)
  | (obtain ⟨t,rfl⟩:=rx;rfl)
def isObj:HO→Bool
 | .lst _=>true
 | .ins _ _ _=>true
 | _=>false
theorem aD (b:Expr) {op:CmpOp} (h:op≠.In:=by decide) (h2:op≠.NotIn:=by decide):behindInMarks op b=false:=by
 have e1:(op == CmpOp.In)=false:=by cases op <;> first | rfl | exact absurd rfl h
 have e2:(op == CmpOp.NotIn)=false:=by cases op <;> first | rfl | exact absurd rfl h2
 cases b <;> simp [behindInMarks,e1,e2]
theorem e9 {op:CmpOp} {r:R2} (ho:OpR X (compareOp op) r) (ha:PE X a ta) (hb:PE X b tb) (hm:behindInMarks op b=false):PE X (.Compare a [op] [b] pos) (tOp r ta tb):=by
 intro pins s σ H Q I h
 exact wpAny_Compare1 (binT ha hb I h fun v u s2 x y H2 I2 rx ry q=>ho pins s2 σ H2 x y v u Q I2 rx ry q) hm
inductive ItTest (Q:Bool→Hp→Prop) (x:V) (H':Hp):Prop
 | mk (k:_) (h1:x=.bl k) (h2:Q k H'):ItTest Q x H'
def tTest (t:TE):TT:=fun σ H Q=>t σ H fun x H'=>ItTest Q x H'
theorem ax {op:CmpOp} {r:R2} (ho:OpR X (compareOp op) r) (ha:PE X a ta) (hb:PE X b tb) (hm:behindInMarks op b=false):PT X (.Compare a [op] [b] pos) (tTest (tOp r ta tb)):=by
 intro pins s σ H Q I h
 refine wpAny_isTrue_Compare1 (thn (ha pins s σ H _ I h) fun v s1 ⟨x,H1,I1,r1,q1⟩=>thn (hb pins s1 σ H1 _ I1 q1) fun u s2 ⟨y,H2,I2,r2,q2⟩=>
  thn (ho pins s2 σ H2 x y v u _ I2 r1 r2 q2) fun c s3 ⟨z,H3,I3,r3,k,e,q3⟩=>?_) hm
 subst e
 cases r3
 exact wpAny_truthy_bool ⟨H3,I3,q3⟩
def tChain (r r':R2) (ta tb tc:TE):TE:=fun σ H Q=>ta σ H fun x H1=>tb σ H1 fun y H2=>r x y H2 fun z H3=>∃ k,z=.bl k∧
 (if k=true then tc σ H3 fun w' H4=>r' y w' H4 Q else Q (.bl false) H3)
def TruV (K:PySem.W.Frag) (x:V) (H:Hp) (k:Bool):Prop:=
 match x with
 | .non=>k=false
 | .bl b=>k=b
 | .int i=>k=(i != 0)
 | .str y=>y.length≤sizeLine∧k=((y.length:Int) != 0)
 | .byt y=>y.size≤sizeLine∧k=((y.size:Int) != 0)
 | .ref p=>(∃ xs,SqL K H p xs∧k = !xs.isEmpty)∨(∃ xs,SqT K H p xs∧k = !xs.isEmpty)∨∃ kvs,H p=some (.dK kvs)∧k = !kvs.isEmpty
 | _=>False
theorem line63:(sizeLine:Nat)<2 ^ 63:=by rw [sizeLine_eq];decide
theorem op_add_str:OpR X (binaryOp .Add) (fun x y H Q=>∃ i j,x=.str i∧y=.str j∧i.length+j.length≤sizeLine∧Q (.str (i++j)) H):=by
 intro pins s σ H x y v u Q I rx ry h
 obtain ⟨i,j,rfl,rfl,hz,q⟩:=h
 obtain ⟨t,rfl⟩:=rx
 obtain ⟨t',rfl⟩:=ry
 exact add_str (fun t' tk=>⟨.str (i++j),H,I.tok _,⟨_,rfl⟩,q⟩) hz
def PlainIxT (b:Expr):Prop:=∀ o i,subscripted b false o i=operate [o,i] (getItem o i)
theorem vals1 {x:V} {us:List Value} (r:Vals [x] us):∃ u,us=[u]∧RelV x u:=by
 cases r with
 | cons r1 r2=>cases r2;exact ⟨_,rfl,r1⟩
theorem vals2 {x y:V} {us:List Value} (r:Vals [x,y] us):∃ u w',us=[u,w']∧RelV x u∧RelV y w':=by
 cases r with
 | cons r1 r2=>
  cases r2 with
  | cons r3 r4=>cases r4;exact ⟨_,_,rfl,r1,r3⟩
theorem d8:gj X (.builtin "abs") (fun xs H Q=>∃ i,xs=[.int i]∧Q (.int (if i<0 then -i else i)) H):=by
 intro pins s σ H xs us Q I r h
 obtain ⟨i,rfl,q⟩:=h
 obtain ⟨u,rfl,t,rfl⟩:=vals1 r
 exact call_abs_int fun u tk=>⟨.int (if i<0 then -i else i),H,I.tok _,⟨_,rfl⟩,q⟩
theorem call_max2 (hc:X.calm=true):gj X (.builtin "max") (fun xs H Q=>∃ i j,xs=[.int i,.int j]∧Q (.int (if j > i then j else i)) H):=by
 intro pins s σ H xs us Q I r h
 obtain ⟨i,j,rfl,q⟩:=h
 obtain ⟨u,w',rfl,⟨t,rfl⟩,⟨t',rfl⟩⟩:=vals2 r
 refine max_two_ints (I.ok.hd hc) fun h' tk k=>⟨_,H,I.kept k,?_,q⟩
 by_cases hj:j > i
 ·rw [if_pos hj,if_pos hj];exact ⟨_,rfl⟩
 ·rw [if_neg hj,if_neg hj];exact ⟨_,rfl⟩
def LenV (K:PySem.W.Frag) (x:V) (H:Hp) (n:Nat):Prop:=
 match x with
 | .str y=>y.length≤sizeLine∧n=y.length
 | .byt y=>y.size≤sizeLine∧n=y.size
 | .ref p=>(∃ xs,SqL K H p xs∧n=xs.length)∨∃ xs,SqT K H p xs∧n=xs.length
 | _=>False
end
end L2
namespace L2
open PySem PySem.Spec PyProof.Rows
structure ObjM (h:Heap) (x dx C:Addr) (mA:Str→Option Value):Prop where
 obj:h.get? x=some (PySem.W.instObj C dx)
 ns:h.Ns1 dx mA
 ne:dx≠x
theorem lookIn_ns {h:Heap} {dx:Addr} {mA:Str→Option Value} (n:h.Ns1 dx mA):∃ od,h.get? dx=some od∧∀ name,PySem.W.lookIn name od=some (mA name):=by
 obtain ⟨o,es,ep,ho,hd,hk,_,hm⟩:=n
 refine ⟨o,ho,fun name=>?_⟩
 have e:=hm name
 unfold nsFind findBy at e
 rw [← Array.find?_toList] at e
 unfold PySem.W.lookIn
 rw [hd]
 dsimp only
 split
 ·rename_i y q
  rw [q] at e
  exact congrArg some e
 ·rename_i q
  rw [q] at e
  have a:es.toList.any (·.refKey)=false:=by
   rw [List.any_eq_false]
   intro y hy
   obtain ⟨z,t,hkey⟩:=hk y (Array.mem_toList_iff.mp hy)
   simp [DictEntry.refKey,hkey]
  have a':¬ es.toList.any (·.refKey)=true:=by rw [a];exact Bool.false_ne_true
  rw [if_neg a']
  exact congrArg some e
theorem ObjM.look {h:Heap} {x dx C:Addr} {mA:Str→Option Value} (I:ObjM h x dx C mA):∃ od,PySem.W.InstAt h x (PySem.W.instObj C dx) C (some od)∧∀ name,PySem.W.lookIn name od=some (mA name):=
 let ⟨od,ho,hl⟩:=lookIn_ns I.ns
 ⟨od,⟨I.obj,rfl,rfl,ho⟩,hl⟩
section
variable {prog:Program} {w:World} {A:Around} {E:Value→Shared→Prop} {s:Shared} {K:PySem.W.Frag} {x dx C f:Addr} {mA:Str→Option Value} {name:Str} {v:Value}
theorem get_map {expr:Bool} {Q:Value→Shared→Prop} (X:K.In s.heap) (I:ObjM s.heap x dx C mA) (hg:PySem.W.plainGet K C name=true) (hh:PySem.W.hasDictIn K C=true)
  (ha:PySem.W.findIn K (.ref C) name=some none) (hv:mA name=some v) (hv':PySem.W.handedIn v=true) (h:Q v { s with toks:=s.toks+1 }) :
  wpAny (model prog w) A (getAttr (.ref x) name expr) Q E s:=by
 obtain ⟨od,J,hl⟩:=I.look
 exact PySem.W.get_value X J (PySem.W.plainGet_of hg).1 (PySem.W.findObj_own hh ha rfl (by rw [hl,hv])) hv' h
theorem get_meth {pl:Sem Bool} {Q:Value × List Value→Shared→Prop} (X:K.In s.heap) (I:ObjM s.heap x dx C mA) (hg:PySem.W.plainGet K C name=true)
  (hf:PySem.W.findIn K (.ref C) name=some (some (.ref f))) (ht:PySem.W.isFn K (.ref f)=true) (hv:mA name=none) (h:Q (.ref f,[.ref x]) s) :
  wpAny (model prog w) A (getMethod (.ref x) name pl) Q E s:=by
 obtain ⟨od,J,hl⟩:=I.look
 exact PySem.W.method_fn X J (PySem.W.plainGet_of hg).1 (PySem.W.plainGet_of hg).2 hf (beq_iff_eq.mp ht) (by show (PySem.W.lookIn name od).map (·.isSome)=some false;rw [hl,hv];rfl) h
theorem set_map {ns:List Str} {Q:Unit→Shared→Prop} (X:K.In s.heap) (I:ObjM s.heap x dx C mA)
  (hs:PySem.W.findIn K (.ref C) "__setattr__"=some (some (.builtin "object.__setattr__"))) (hp:PySem.W.plainOver K C=true) (ht:PySem.W.takerIn K C name=some none) (hh:PySem.W.hasDictIn K C=true)
  (hw:PySem.Within mA ns) (hsz:ns.length≤sizeLine)
  (h:∀ h',ObjM h' x dx C (fun y=>if y=name then some v else mA y)→Heap.SameBut dx s.heap h'→Q () { s with heap:=h',toks:=s.toks+2 }) :
  wpAny (model prog w) A (setAttr (.ref x) name v) Q E s:=by
 obtain ⟨od,J,hl⟩:=I.look
 refine PySem.W.set_plain X J hs (PySem.W.osa_open (s:={ s with toks:=s.toks+1 }) (r:=none) X J hp ht fun b=>?_)
 obtain ⟨cd,hc,hd'⟩:=PySem.W.any_some hh
 have hx:s.heap.get? x=some ⟨.ref C,some dx,.plain,#[]⟩:=I.obj
 refine wpAny_bind (wpAny_pure (wpAny_bind (wpAny_bind (wpAny_loadPart hx (wpAny_bind (PySem.W.Looks.here (s:={ s with toks:=s.toks+1 }) (PySem.W.looks_clsIn X hc) ?_))))))
 rw [hd']
 refine wpAny_pure (a:=some dx) (wpAny_bind (wpAny_pure (wpAny_bind ?_)))
 refine wpAny_nsSet1 (s:={ s with toks:=s.toks+1 }) I.ns fun h' hn2 hs2=>?_
 obtain ⟨oD,esD,epD,hoD,hdD,hcD⟩:=hn2.count (PySem.Within.cons name v hw)
 refine wpAny_bind (wpAny_lookBehind hoD (by rw [hdD];exact pastItsLine_dict (Nat.le_trans hcD (by rw [List.length_cons];omega))) ?_)
 exact wpAny_pure (h _ ⟨(hs2.2 _ (Ne.symm I.ne)).trans I.obj,hn2,I.ne⟩ hs2)
theorem make_map {R:Result→Shared→Prop} {vs:List Value} {kw:List (Str × Value)} (X:K.In s.heap) (hm:PySem.W.makesIn K C=true)
  (hi:PySem.W.findIn K (.ref C) "__init__"=some (some (.ref f))) (hf:PySem.W.typeIn K (.ref f)=some (.type "function"))
  (h:codeAny (model prog w) (A.under (.builtin "type.__call__" ⟨.ref C::vs,kw⟩)) (.call (.ref f) ⟨.ref (s.heap.objs.size+1)::vs,kw⟩) (PySem.W.InitBack (s.heap.objs.size+1) R)
   { s with heap:=(s.heap.push PySem.W.emptyDict).push (PySem.W.instObj C s.heap.objs.size) }) :
  codeAny (model prog w) A (.call (.ref C) ⟨vs,kw⟩) R s:=by
 obtain ⟨hh,g,d,t,os⟩:=s
 exact PySem.W.make_core (PySem.W.makes_of X hm) (PySem.W.looks_findIn X hi) (fun self=>PySem.W.bind_fn X self hf) (.inl rfl) h
end
def bQ (f:Str) (v:V):List (Str × V)→List (Str × V)
 | []=>[(f,v)]
 | (g,x)::r=>if g=f then (g,v)::r else (g,x)::bQ f v r
theorem cT (f g:Str) (v:V):∀ fs:List (Str × V),(bQ f v fs).lookup g=if g=f then some v else fs.lookup g
 | []=>by
  show List.lookup g [(f,v)]=_
  by_cases h:g=f
  ·have hb:(g == f)=true:=beq_iff_eq.mpr h
   simp only [List.lookup,hb,if_pos h]
  ·have hb:(g == f)=false:=beq_eq_false_iff_ne.mpr h
   simp only [List.lookup,hb,if_neg h]
 | (k,x)::r=>by
  have ih:=cT f g v r
  rw [show bQ f v ((k,x)::r)=(if k=f then (k,v)::r else (k,x)::bQ f v r) from rfl]
  by_cases hk:k=f
  ·rw [if_pos hk]
   by_cases h:g=k
   ·have hb:(g == k)=true:=beq_iff_eq.mpr h
    simp only [List.lookup,hb,if_pos (h.trans hk)]
   ·have hb:(g == k)=false:=beq_eq_false_iff_ne.mpr h
    simp only [List.lookup,hb,if_neg (fun e:g=f=>h (e.trans hk.symm))]
  ·rw [if_neg hk]
   by_cases h:g=k
   ·have hb:(g == k)=true:=beq_iff_eq.mpr h
    simp only [List.lookup,hb,if_neg (fun e:g=f=>hk (h.symm.trans e))]
   ·have hb:(g == k)=false:=beq_eq_false_iff_ne.mpr h
    simp only [List.lookup,hb]
    exact ih
theorem keys_putF (f:Str) (v:V):∀ fs:List (Str × V),f∈(bQ f v fs).map (·.1)∧∀ g,g∈fs.map (·.1)→g∈(bQ f v fs).map (·.1)
 | []=>⟨by simp [bQ],fun g h=>by simp at h⟩
 | (k,x)::r=>by
  obtain ⟨i1,i2⟩:=keys_putF f v r
  rw [show bQ f v ((k,x)::r)=(if k=f then (k,v)::r else (k,x)::bQ f v r) from rfl]
  by_cases hk:k=f
  ·rw [if_pos hk]
   subst hk
   exact ⟨by simp,fun g h=>by simpa using h⟩
  ·rw [if_neg hk]
   refine ⟨?_,fun g h=>?_⟩
   ·rw [List.map_cons]
    exact List.mem_cons_of_mem _ i1
   ·rw [List.map_cons] at h ⊢
    rcases List.mem_cons.mp h with e | e
    ·exact List.mem_cons.mpr (.inl e)
    ·exact List.mem_cons_of_mem _ (i2 g e)
theorem bM (f:Str) (v:V):∀ fs:List (Str × V),(bQ f v fs).length≤fs.length+1
 | []=>by simp [bQ]
 | (k,x)::r=>by
  have ih:=bM f v r
  rw [show bQ f v ((k,x)::r)=(if k=f then (k,v)::r else (k,x)::bQ f v r) from rfl]
  by_cases hk:k=f
  ·rw [if_pos hk,List.length_cons,List.length_cons];omega
  ·rw [if_neg hk,List.length_cons,List.length_cons];omega
theorem RelO.some_of {v:V} {o:Option Value} (r:RelO (some v) o):∃ u,o=some u∧RelV v u:=by
 cases o with
 | none=>exact (show False from r).elim
 | some u=>exact ⟨u,rfl,r⟩
theorem RelO.none_of {o:Option Value} (r:RelO none o):o=none:=by
 cases o with
 | none=>rfl
 | some u=>exact (show False from r).elim
theorem handed_of {v:V} {u:Value} (r:RelV v u):PySem.W.handedIn u=true:=by
 cases v with
 | non=>cases (show u=Value.none from r);rfl
 | bl b=>cases (show u=Value.bool b from r);rfl
 | int i=>obtain ⟨t,e⟩:=(show ∃ t,u=Value.int i t from r);cases e;rfl
 | str x=>obtain ⟨t,e⟩:=(show ∃ t,u=Value.str x t from r);cases e;rfl
 | byt b=>obtain ⟨t,e⟩:=(show ∃ t,u=Value.bytes b t from r);cases e;rfl
 | flt b=>obtain ⟨t,e⟩:=(show ∃ t,u=Value.float b t from r);cases e;rfl
 | ref a=>cases (show u=Value.ref a from r);rfl
 | ty n=>cases (show u=Value.type n from r);rfl
section
variable {P:Program} {w:World} {H H':Hp} {h h':Heap} {a C dx:Addr} {fs fs':List (Str × V)}
theorem ins_get (hok:HOk P w H h) (e:H a=some (.ins C dx fs)):∃ mA,ObjM h a dx C mA∧(∀ f,RelO (fs.lookup f) (mA f))∧PySem.Within mA (fs.map (·.1))∧fs.length≤1000∧H dx=some (.own a):=by
 obtain ⟨d,z,ne,ob,mA,n,r,q⟩:=(show ObjOk P w H h a (.ins C dx fs) from hok a _ e)
 exact ⟨mA,⟨ob,n,ne⟩,r,q,z,d⟩
end
structure Cls (K:PySem.W.Frag) (C:Addr):Prop where
 pg:PySem.W.plainGet K C Str.empty=true
 hd:PySem.W.hasDictIn K C=true
 po:PySem.W.plainOver K C=true
 sa:PySem.W.findIn K (.ref C) "__setattr__"=some (some (.builtin "object.__setattr__"))
theorem Cls.get {K:PySem.W.Frag} {C:Addr} (c:Cls K C) (f:Str):PySem.W.plainGet K C f=true:=c.pg
def NoAttr (K:PySem.W.Frag) (C:Addr) (f:Str):Prop:=PySem.W.findIn K (.ref C) f=some none
theorem NoAttr.taker {K:PySem.W.Frag} {C:Addr} {f:Str} (n:NoAttr K C f):PySem.W.takerIn K C f=some none:=by
 unfold PySem.W.takerIn
 rw [show PySem.W.findIn K (.ref C) f=some none from n]
 rfl
structure Con (K:PySem.W.Frag) (C:Addr) (f:Str) (v:V) (u:Value):Prop where
 at_:PySem.W.findIn K (.ref C) f=some (some u)
 rel:RelV v u
 get:PySem.W.specialIn K u "__get__"=some none
 cp:PySem.W.copiedNames.contains f=false
structure Meth (K:PySem.W.Frag) (C:Addr) (m:Str) (f:Addr):Prop where
 at_:PySem.W.findIn K (.ref C) m=some (some (.ref f))
 fn:PySem.W.isFn K (.ref f)=true
 kp:PySem.W.keepIn K (.ref f)=true
section
variable {X:Cx} {pins:List (Addr × Obj)} {σ:St} {H:Hp} {s:Shared} {a C dx:Addr} {fs:List (Str × V)} {f:Str} {v:V} {A:Around} {E:Value→Shared→Prop}
theorem gG {b:Bool} {Q:Value→Shared→Prop} (I:Inv X pins σ H s) (e:H a=some (.ins C dx fs)) (c:Cls X.K C) (n:NoAttr X.K C f) (l:fs.lookup f=some v)
  (h:∀ u s',Inv X pins σ H s'→RelV v u→Q u s'):wpAny (model X.prog X.w) A (getAttr (.ref a) f b) Q E s:=by
 obtain ⟨mA,O,r,_,_,_⟩:=ins_get I.hok e
 obtain ⟨u,hu,ru⟩:=RelO.some_of (v:=v) (o:=mA f) (by rw [← l];exact r f)
 exact get_map I.kIn O (c.get f) c.hd n hu (handed_of ru) (h u _ (I.tok _) ru)
theorem fg {m:Str} {g:Addr} {pl:Sem Bool} {Q:Value × List Value→Shared→Prop} (I:Inv X pins σ H s) (e:H a=some (.ins C dx fs)) (c:Cls X.K C) (k:Meth X.K C m g) (l:fs.lookup m=none)
  (h:Q (.ref g,[.ref a]) s):wpAny (model X.prog X.w) A (getMethod (.ref a) m pl) Q E s:=by
 obtain ⟨mA,O,r,_,_,_⟩:=ins_get I.hok e
 have hn:mA m=none:=RelO.none_of (by rw [← l];exact r m)
 exact get_meth I.kIn O (c.get m) k.at_ k.fn hn h
theorem setattr_ok {y:V} {u:Value} {Q:Unit→Shared→Prop} (I:Inv X pins σ H s) (e:H a=some (.ins C dx fs)) (c:Cls X.K C) (n:NoAttr X.K C f) (hl:fs.length<1000) (ry:RelV y u)
  (h:∀ s',Inv X pins σ (upd H a (.ins C dx (bQ f y fs))) s'→Q () s'):wpAny (model X.prog X.w) A (setAttr (.ref a) f u) Q E s:=by
 obtain ⟨mA,O,r,wi,_,ho⟩:=ins_get I.hok e
 have hz:(fs.map (·.1)).length≤sizeLine:=by rw [List.length_map,sizeLine_eq];omega
 refine set_map I.kIn O c.sa c.po n.taker c.hd wi hz fun h' O' sb=>h _ ?_
 have hd:∃ o,h'.get? dx=some o:=let ⟨o,_,_,e',_⟩:=O'.ns;⟨o,e'⟩
 refine I.write (x:=a) (e:=dx) (by rw [e];exact True.intro) (.inr ho) (fun b q hb z=>(sb.2 b hb).trans z) hd ?_
 refine ⟨by rw [ak O.ne];exact ho,?_,O.ne,O'.obj,_,O'.ns,fun g=>?_,fun g hg=>?_⟩
 ·have:=bM f y fs;omega
 ·show RelO ((bQ f y fs).lookup g) (if g=f then some u else mA g)
  rw [cT]
  by_cases q:g=f
  ·rw [if_pos q,if_pos q];exact ry
  ·rw [if_neg q,if_neg q];exact r g
 ·by_cases q:g=f
  ·rw [q];exact (keys_putF f y fs).1
  ·refine (keys_putF f y fs).2 g (wi g fun z=>hg ?_)
   show (if g=f then some u else mA g)=none
   rw [if_neg q];exact z
theorem Inv.made (I:Inv X pins σ H s):Inv X pins σ (upd (upd H s.heap.objs.size (.own (s.heap.objs.size+1))) (s.heap.objs.size+1) (.ins C s.heap.objs.size []))
  { s with heap:=(s.heap.push PySem.W.emptyDict).push (PySem.W.instObj C s.heap.objs.size) }:=by
 have e1:(s.heap.push PySem.W.emptyDict).get? s.heap.objs.size=some PySem.W.emptyDict:=Heap.get?_push_size s.heap rfl
 have e2:((s.heap.push PySem.W.emptyDict).push (PySem.W.instObj C s.heap.objs.size)).get? (s.heap.objs.size+1)=some (PySem.W.instObj C s.heap.objs.size):=by
  have:=Heap.get?_push_size (s.heap.push PySem.W.emptyDict) (o:=PySem.W.instObj C s.heap.objs.size) rfl
  rwa [Heap.size_push] at this
 have e3:(s.heap.push PySem.W.emptyDict).Ns s.heap.objs.size (fun _=>none):=⟨PySem.W.emptyDict,#[],_,e1,rfl,(fun e he=>absurd he (by simp)),fun _=>rfl⟩
 have I1:=I.laid (a:=s.heap.objs.size) (o:=.own (s.heap.objs.size+1)) (h':=s.heap.push PySem.W.emptyDict) (t':=s.toks) (fun b u q=>Heap.get?_push_of_some _ q) (Nat.le_refl _) ⟨_,e1⟩
 refine I1.laid (a:=s.heap.objs.size+1) (o:=.ins C s.heap.objs.size []) (t':=s.toks) (fun b u q=>Heap.get?_push_of_some _ q) (Nat.le_of_eq (Heap.size_push _ _)) ?_
 have ne:s.heap.objs.size≠s.heap.objs.size+1:=Nat.ne_of_lt (Nat.lt_succ_self _)
 refine ⟨by rw [ak ne,ad],Nat.zero_le _,ne,e2,fun _=>none,(Heap.Ns1.of_empty e3).at fun o q=>Heap.get?_push_of_some _ q,fun _=>True.intro,fun y hy=>absurd rfl hy⟩
theorem attr_of {prog:Program} {w:World} {env:Env} {e:Expr} {f:Str} {pos:Pos} {s:Shared} {Q:Value→Shared→Prop} (hb:attributeBase e f env (eval e env)=eval e env)
  (h:wpAny (model prog w) A (eval e env) (fun o s₁=>wpAny (model prog w) A (getAttr o f true) Q E s₁) E s):wpAny (model prog w) A (eval (.Attribute e f pos) env) Q E s:=
 Attribute_any_ h (by rw [arm_eval_Attribute,hb])
end
inductive ItFld (K:PySem.W.Frag) (f:Str) (Q:VK) (x:V) (H1:Hp):Prop
 | mk (a:_) (C:_) (dx:_) (fs:_) (v:_) (h1:x=.ref a) (h2:H1 a=some (.ins C dx fs)) (h3:Cls K C) (h4:NoAttr K C f) (h5:fs.lookup f=some v) (h6:Q v H1):ItFld K f Q x H1
def tFld (K:PySem.W.Frag) (ta:TE) (f:Str):TE:=fun σ H Q=>ta σ H fun x H1=>ItFld K f Q x H1
def tCon (K:PySem.W.Frag) (ta:TE) (f:Str):TE:=fun σ H Q=>ta σ H fun x H1=>∃ a C dx fs v u,x=.ref a∧H1 a=some (.ins C dx fs)∧Cls K C∧Con K C f v u∧fs.lookup f=none∧Q v H1
def sFld (K:PySem.W.Frag) (ta tv:TE) (f:Str):TS:=fun D σ H=>tv σ H fun y H1=>ta σ H1 fun x H2=>∃ a C dx fs,x=.ref a∧H2 a=some (.ins C dx fs)∧Cls K C∧NoAttr K C f∧fs.length<1000∧
 D.nx σ (upd H2 a (.ins C dx (bQ f y fs)))
def InOp (X:Cx) (op:Operator) (rd:V→V→Hp→VK→Prop):Prop:=
 ∀ (pins:List (Addr × Obj)) (s:Shared) (σ:St) (H:Hp) (x y:V) (u v:Value) (Q:VK),Inv X pins σ H s→RelV x u→RelV y v→rd x y H Q→wpAny (model X.prog X.w) X.A (inplaceOp op u v) (EP X pins σ Q) X.xe s
def sFldAug (K:PySem.W.Frag) (ta tv:TE) (rd:V→V→Hp→VK→Prop) (f:Str):TS:=fun D σ H=>ta σ H fun x H1=>∃ a C dx fs v,x=.ref a∧H1 a=some (.ins C dx fs)∧Cls K C∧NoAttr K C f∧fs.lookup f=some v∧
 tv σ H1 fun y H2=>rd v y H2 fun z H3=>∃ dx' fs',H3 a=some (.ins C dx' fs')∧fs'.length<1000∧D.nx σ (upd H3 a (.ins C dx' (bQ f z fs')))
section
variable {X:Cx} {o e value:Expr} {f:Str} {pos pos' tpos:Pos} {ta tv:TE}
theorem bc (he:PE X e ta) (hb:attributeBase e f X.env (eval e X.env)=eval e X.env):PE X (.Attribute e f pos) (tFld X.K ta f):=by
 intro pins s σ H Q I h
 refine attr_of hb (thn (he pins s σ H _ I h) fun u s1 ⟨x,H1,I1,rx,a,C,dx,fs,v,ex,ea,c,n,l,q⟩=>?_)
 subst ex
 obtain rfl:u=Value.ref a:=rx
 exact gG I1 ea c n l fun u' s2 I2 ru=>⟨v,H1,I2,ru,q⟩
theorem dv (ha:PE X o ta) (hv:PE X value tv) (hs:swapsWith value (some (.Attribute o f pos')) pos.line X.env=pure false):PS X (.Assign [.Attribute o f pos'] value pos) (sFld X.K ta tv f):=by
 intro pins s σ H D I h
 refine plainObj_wpAny_Assign_Attribute (thn (hv pins s σ H _ I h) fun u s1 ⟨y,H1,I1,ry,q⟩=>thn (ha pins s1 σ H1 _ I1 q) fun ov s2 ⟨x,H2,I2,rx,a,C,dx,fs,ex,ea,c,n,l,q2⟩=>?_) hs
 subst ex
 obtain rfl:ov=Value.ref a:=rx
 exact setattr_ok I2 ea c n l ry fun s3 I3=>⟨σ,_,I3,q2⟩
def rAdd:V→V→Hp→VK→Prop:=fun x y H Q=>∃ i j,x=.int i∧y=.int j∧Q (.int (i+j)) H
def rSub:V→V→Hp→VK→Prop:=fun x y H Q=>∃ i j,x=.int i∧y=.int j∧Q (.int (i-j)) H
end
section
variable {X:Cx} {pins:List (Addr × Obj)} {σ:St} {H:Hp} {s:Shared} {A:Around} {E:Value→Shared→Prop} {Q:Value→Shared→Prop} {c:Value} {b:Bool}
inductive TyOf (K:PySem.W.Frag) (H:Hp):V→Value→Prop where
 | non:TyOf K H .non (.type "NoneType")
 | bl (x:Bool):TyOf K H (.bl x) (.type "bool")
 | int (i:Int):TyOf K H (.int i) (.type "int")
 | str (x:Str):TyOf K H (.str x) (.type "str")
 | flt (x:UInt64):TyOf K H (.flt x) (.type "float")
 | lst {a:Addr} {xs:List V} (e:H a=some (.lst xs)):TyOf K H (.ref a) (.type "list")
 | frz {a:Addr} {o:Obj} {xs:List V} (e:H a=some (.frz o (.lst xs))):TyOf K H (.ref a) (.type "list")
 | tup {a:Addr} {xs:List V} (e:H a=some (.tup xs)):TyOf K H (.ref a) (.type "tuple")
 | dK {a:Addr} {kvs:List (Key × V)} (e:H a=some (.dK kvs)):TyOf K H (.ref a) (.type "dict")
 | dT {a:Addr} {kvs:List (List Key × V)} (e:H a=some (.dT kvs)):TyOf K H (.ref a) (.type "dict")
 | ins {a C dx:Addr} {fs:List (Str × V)} (e:H a=some (.ins C dx fs)) (cl:Cls K C) (ha:PySem.W.findIn K (.ref C) "__class__"=some (some (.builtin "object.__class__")))
   (hn:PySem.W.specialIn K (.builtin "object.__class__") "__get__"=some (some (.builtin "getset_descriptor.__get__"))) (htk:PySem.W.takesIn K (.builtin "object.__class__")=some true)
   (hm:PySem.W.mroIn K C (.type "object")=some true):TyOf K H (.ref a) (.ref C)
theorem isinst_ok {x:V} {u t:Value} (I:Inv X pins σ H s) (rx:RelV x u) (ty:TyOf X.K H x t) (e:PySem.W.kitOne X.K t c=some b) (h:∀ tk,Q (.bool b) { s with toks:=tk }) :
  wpAny (model X.prog X.w) A (call (.builtin "isinstance") [u,c]) Q E s:=by
 cases ty with
 | non=>cases (show u=Value.none from rx);exact PySem.W.kia_one PySem.W.kitx_none I.kIn True.intro e (fun z=>nomatch z) h
 | bl y=>cases (show u=Value.bool y from rx);exact PySem.W.kia_one PySem.W.kitx_bool I.kIn True.intro e (fun z=>nomatch z) h
 | int i=>obtain ⟨t,q⟩:=(show ∃ t,u=Value.int i t from rx);cases q;exact PySem.W.kia_one PySem.W.kitx_int I.kIn True.intro e (fun z=>nomatch z) h
 | str y=>obtain ⟨t,q⟩:=(show ∃ t,u=Value.str y t from rx);cases q;exact PySem.W.kia_one PySem.W.kitx_str I.kIn True.intro e (fun z=>nomatch z) h
 | flt y=>obtain ⟨t,q⟩:=(show ∃ t,u=Value.float y t from rx);cases q;exact PySem.W.kia_one PySem.W.kitx_float I.kIn True.intro e (fun z=>nomatch z) h
 | @lst a xs ea=>
  cases (show u=Value.ref a from rx)
  obtain ⟨_,_,n,_,h1⟩:=(show ObjOk X.prog X.w H s.heap a (.lst xs) from I.hok a _ ea)
  exact PySem.W.kia_one PySem.W.kitx_list I.kIn ⟨_,h1,rfl⟩ e (fun z=>nomatch z) h
 | @frz a ob xs ea=>
  cases (show u=Value.ref a from rx)
  obtain ⟨_,_,_,n,_,h1⟩:=(show ObjOk X.prog X.w H s.heap a (.frz ob (.lst xs)) from I.hok a _ ea)
  exact PySem.W.kia_one PySem.W.kitx_list I.kIn ⟨_,h1,rfl⟩ e (fun z=>nomatch z) h
 | @tup a xs ea=>
  cases (show u=Value.ref a from rx)
  obtain ⟨_,_,_,p⟩:=(show ObjOk X.prog X.w H s.heap a (.tup xs) from I.hok a _ ea)
  obtain ⟨o,h1,h2,_⟩:=p
  exact PySem.W.kia_one PySem.W.kitx_tuple I.kIn ⟨o,h1,h2⟩ e (fun z=>nomatch z) h
 | @dK a kvs ea=>
  cases (show u=Value.ref a from rx)
  obtain ⟨_,_,vs,_,p⟩:=(show ObjOk X.prog X.w H s.heap a (.dK kvs) from I.hok a _ ea)
  obtain ⟨o,es,ep,h1,h2,_⟩:=p
  exact PySem.W.kia_one PySem.W.kitx_dict I.kIn ⟨o,h1,h2.1⟩ e (fun z=>nomatch z) h
 | @dT a kvs ea=>
  cases (show u=Value.ref a from rx)
  obtain ⟨_,_,xs,_,o,es,ep,h1,h2,_⟩:=(show ObjOk X.prog X.w H s.heap a (.dT kvs) from I.hok a _ ea)
  exact PySem.W.kia_one PySem.W.kitx_dict I.kIn ⟨o,h1,h2.1⟩ e (fun z=>nomatch z) h
 | @ins a C dx fs ea cl ha hn htk hm=>
  cases (show u=Value.ref a from rx)
  obtain ⟨mA,O,_⟩:=ins_get I.hok ea
  obtain ⟨od,J,_⟩:=O.look
  exact PySem.W.kia_one (PySem.W.kitx_own (cl.get _) cl.hd ha hn htk hm) I.kIn J e (fun z=>nomatch z) h
end
end L2
namespace L2
open PySem PySem.Spec PyProof.Rows
structure Room (k:Nat) (A:Around):Prop where
 hd:A.handled=none
 dp:A.depth+3*k+5<recursionLimit
 un:A.units+16*k+200<cLine
theorem Room.mono {j k:Nat} {A:Around} (r:Room k A) (h:j≤k):Room j A:=⟨r.hd,by have:=r.dp;omega,by have:=r.un;omega⟩
theorem Room.deeper {k:Nat} {A:Around} (r:Room (k+1) A) (env:Env):Room k (A.deeper env):=
 ⟨r.hd,by have:=r.dp;show A.depth+1+3*k+5<_;omega,by have:=r.un;show A.units+3+16*k+200<_;omega⟩
theorem make_depth {A:Around} {C:Addr} {us:List Value} {kw:List (Str × Value)}:(A.under (.builtin "type.__call__" ⟨.ref C::us,kw⟩)).depth=A.depth+1:=by
 first | rfl | simp [Around.under,Code.weight,Code.isCreation,Code.isGuard,Code.isCaller,Code.frames,Code.isFrame,guardIds]
theorem make_units {A:Around} {C:Addr} {us:List Value} {kw:List (Str × Value)}:(A.under (.builtin "type.__call__" ⟨.ref C::us,kw⟩)).units=A.units+1:=by
 first | rfl | simp [Around.under,Code.cUnits,Code.frames,Code.isFrame]
theorem Room.make {k:Nat} {A:Around} (r:Room (k+1) A) (C:Addr) (us:List Value) (kw:List (Str × Value)):Room k (A.under (.builtin "type.__call__" ⟨.ref C::us,kw⟩)):=
 ⟨r.hd,by have:=r.dp;rw [make_depth];omega,by have:=r.un;rw [make_units];omega⟩
theorem Room.depth {k:Nat} {A:Around} (r:Room k A):A.depth<recursionLimit:=by have:=r.dp;omega
theorem Room.units {k:Nat} {A:Around} (r:Room k A):A.units+64<cLine:=by have:=r.un;omega
theorem Room.units0 {k:Nat} {A:Around} (r:Room k A):A.units<cLine:=by have:=r.un;omega
def tNil:TA:=fun _ H Q=>Q [] H
def tCons (ta:TE) (tr:TA):TA:=fun σ H Q=>ta σ H fun x H1=>tr σ H1 fun xs H2=>Q (x::xs) H2
section
variable {X:Cx} {e:Expr} {es:List Expr} {te:TE} {t:TA} {pos:Pos}
theorem ac:PA X [] tNil:=fun _ _ _ _ H Q I h=>Calls.spliced_nil ⟨[],H,I,.nil,h⟩
theorem aa (ha:PE X e te) (hr:PA X es t) (hs:starEach (e::es) X.env=(false,eval e X.env)::starEach es X.env:=by rfl):PA X (e::es) (tCons te t):=by
 intro pos pins s σ H Q I h
 rw [hs]
 show wpAny _ _ (spliced ((false,eval e X.env)::backTo pos (starEach es X.env))) _ _ s
 refine Calls.spliced_cons (thn (ha pins s σ H _ I h) fun u s1 ⟨x,H1,I1,r1,q1⟩=>?_)
 exact thn (hr pos pins s1 σ H1 _ I1 q1) fun us s2 ⟨xs,H2,I2,r2,q2⟩=>⟨x::xs,H2,I2,.cons r1 r2,q2⟩
def tTup (t:TA):TE:=fun σ H Q=>t σ H fun xs H1=>xs.length≤sizeLine∧∀ p,H1 p=none→Q (.ref p) (upd H1 p (.tup xs))
def tLst (t:TA):TE:=fun σ H Q=>t σ H fun xs H1=>xs.length≤sizeLine∧∀ p,H1 p=none→Q (.ref p) (upd H1 p (.lst xs))
theorem aR {x1} (h:PA X es t):PE X (.Tuple es x1 pos) (tTup t):=by
 intro pins s σ H Q I hq
 refine wpAny_Tuple_spliced (thn (h pos pins s σ H _ I hq) fun us s1 ⟨xs,H1,I1,r,z,q⟩=>⟨by rw [← r.length];exact z,?_⟩)
 have hf:H1 s1.heap.objs.size=none:=I1.hok.fresh (Nat.le_refl _)
 refine ⟨.ref s1.heap.objs.size,upd H1 s1.heap.objs.size (.tup xs),I1.laid (t':=s1.toks) (fun b u e=>Heap.get?_push_of_some _ e) (Nat.le_refl _) ?_,rfl,q _ hf⟩
 exact ⟨z,us,r,⟨_,Heap.get?_push_size _ rfl,rfl,_,rfl⟩⟩
theorem cB (h:PA X es t):PE X (.List es pos) (tLst t):=by
 intro pins s σ H Q I hq
 refine wpAny_List_spliced (thn (h pos pins s σ H _ I hq) fun us s1 ⟨xs,H1,I1,r,z,q⟩=>⟨by rw [← r.length];exact z,?_⟩)
 have hf:H1 s1.heap.objs.size=none:=I1.hok.fresh (Nat.le_refl _)
 refine ⟨.ref s1.heap.objs.size,upd H1 s1.heap.objs.size (.lst xs),I1.laid (t':=s1.toks) (fun b u e=>Heap.get?_push_of_some _ e) (Nat.le_refl _) ?_,rfl,q _ hf⟩
 exact ⟨z,us,0,r,Heap.get?_push_size _ rfl⟩
end
abbrev Sp:=List V→Hp→VK→XK→Prop
abbrev CXT:=List Env→Hp→Shared→XK→Value→Shared→Prop
structure Env0 (P:Program) (w:World) (K:PySem.W.Frag) (mg:Str→Option Value) (base:Heap) (A:Around) (outer:List Env) (s:Shared) (H:Hp):Prop where
 frames:A.frames=some outer
 mod:Mod K mg base
 bs:∀ b o,base.get? b=some o→s.heap.get? b=some o∧H b=none
 bsz:base.objs.size≤s.heap.objs.size
 funs:s.heap.FunFrames base outer
 frf:∀ b∈frs outer,H b=none
 hok:HOk P w H s.heap
 bare:AllBare s.gens
def CE (outer:List Env) (P:Program) (w:World) (H:Hp) (s:Shared) (Q:VK) (u:Value) (s':Shared):Prop:=
 ∃ v H',s'.os=s.os∧AllBare s'.gens∧Un (frs outer) [] H H' s.heap s'.heap∧HOk P w H' s'.heap∧RelV v u∧Q v H'
def CR (CX:CXT) (outer:List Env) (P:Program) (w:World) (H:Hp) (s:Shared) (Q:VK) (E:XK) (r:Result) (s':Shared):Prop:=
 match r with
 | .ok (.ret u)=>CE outer P w H s Q u s'
 | .ok _=>False
 | .error e=>CX outer H s E e s'
structure FnOk (P:Program) (w:World) (K:PySem.W.Frag) (mg:Str→Option Value) (base:Heap) (CX:CXT) (k:Nat) (f:Addr) (fd:FuncData) (ps:List Str) (sp:Sp):Prop where
 len:∀ vs H Q E,sp vs H Q E→vs.length=ps.length
 run:∀ (A:Around) (outer:List Env) (s:Shared) (H:Hp) (args:Args) (us:List Value) (vs:List V) (Q:VK) (E:XK),Room k A→Env0 P w K mg base A outer s H→BindsTo s fd args (ps.zip us)→Vals vs us→sp vs H Q E→
  codeAny (model P w) A (.call (.ref f) args) (CR CX outer P w H s Q E) s
theorem Env0.make {P:Program} {w:World} {K:PySem.W.Frag} {mg:Str→Option Value} {base:Heap} {A:Around} {outer:List Env} {s:Shared} {H:Hp} (e:Env0 P w K mg base A outer s H) (C:Addr) (us:List Value) (kw:List (Str × Value)) :
  Env0 P w K mg base (A.under (.builtin "type.__call__" ⟨.ref C::us,kw⟩)) outer s H:=⟨by first | exact e.frames | (simpa [Around.under,Code.envs,Code.isFrame,pushEnvs] using e.frames),e.mod,e.bs,e.bsz,e.funs,e.frf,e.hok,e.bare⟩
section
variable {X:Cx} {pins:List (Addr × Obj)} {σ:St} {H:Hp} {s s':Shared}
theorem Inv.env0 (I:Inv X pins σ H s):Env0 X.prog X.w X.K X.mg X.base X.A X.stack s H:=
 ⟨I.ok.frames,I.ok.mod,I.bs,Nat.le_trans I.ok.bsz I.sz,I.stack,I.stkFree,I.hok,I.bare⟩
theorem Inv.after {Q:VK} {u:Value} (I:Inv X pins σ H s) (h:CE X.stack X.prog X.w H s Q u s'):EP X pins σ Q u s':=by
 obtain ⟨v,H',os,bare,un,hok,r,q⟩:=h
 obtain ⟨hh,g,d,t,os'⟩:=s'
 obtain rfl:os'=s.os:=os
 exact ⟨v,H',I.call (h':=hh) (g':=g) (d':=d) (t':=t) (ch:=[]) un hok bare (fun b z=>absurd z (by simp)),r,q⟩
end
def tCall (sp:Sp) (dvs:List V) (E:XK) (t:TA):TE:=fun σ H Q=>t σ H fun vs H1=>sp (vs++dvs) H1 Q E
inductive ItMeth (C:Addr) (m:Str) (sp:Sp) (dvs:List V) (E:XK) (t:TA) (σ:St) (Q:VK) (x:V) (H1:Hp):Prop
 | mk (a:_) (dx:_) (fs:_) (h1:x=.ref a) (h2:H1 a=some (.ins C dx fs)) (h3:fs.lookup m=none) (h4:t σ H1 fun vs H2=>sp (x::(vs++dvs)) H2 Q E):ItMeth C m sp dvs E t σ Q x H1
def tMeth (C:Addr) (m:Str) (sp:Sp) (dvs:List V) (E:XK) (ta:TE) (t:TA):TE:=fun σ H Q=>ta σ H fun x H1=>ItMeth C m sp dvs E t σ Q x H1
def tMake (C:Addr) (sp:Sp) (dvs:List V) (E:XK) (t:TA):TE:=fun σ H Q=>t σ H fun vs H1=>∀ x dx,H1 x=none→H1 dx=none→dx≠x→
 sp (.ref x::(vs++dvs)) (upd (upd H1 dx (.own x)) x (.ins C dx [])) (fun v H2=>v=.non∧Q (.ref x) H2) E
def Binds (K:PySem.W.Frag) (fd:FuncData) (ps:List Str) (ds:List Value):Prop:=
 ∀ (s:Shared) (us:List Value),K.In s.heap→(us++ds).length=ps.length→BindsTo s fd ⟨us,[]⟩ (ps.zip (us++ds))
theorem Binds.all {K:PySem.W.Frag} {fd:FuncData} {ps:List Str} (h:∀ us:List Value,us.length=ps.length→bindArgs fd ⟨us,[]⟩=pure (ps.zip us)):Binds K fd ps []:=fun s us _ hl=>by
 rw [List.append_nil] at hl ⊢
 exact .of_eq (h us hl)
def cI (CX:CXT) (X:Cx) (E:XK):Prop:=∀ (pins:List (Addr × Obj)) (σ:St) (H:Hp) (s:Shared) (e:Value) (s':Shared),Inv X pins σ H s→CX X.stack H s E e s'→X.xe e s'
section
variable {X:Cx} {CX:CXT} {k:Nat} {f C:Addr} {fd:FuncData} {ps:List Str} {sp:Sp} {dvs:List V} {ds:List Value} {E:XK} {x m:Str} {p pos apos:Pos} {e o:Expr} {es:List Expr} {ta:TE} {t:TA}
theorem run_fn {pins:List (Addr × Obj)} {σ:St} {H:Hp} {s:Shared} {Q:VK} {us:List Value} {vs:List V} (F:FnOk X.prog X.w X.K X.mg X.base CX k f fd ps sp) (hr:Room k X.A) (hb:Binds X.K fd ps ds) (hd:Vals dvs ds) (hx:cI CX X E)
  (I:Inv X pins σ H s) (r:Vals vs us) (h:sp (vs++dvs) H Q E):wpAny (model X.prog X.w) X.A (call (.ref f) us) (EP X pins σ Q) X.xe s:=by
 have r2:Vals (vs++dvs) (us++ds):=r.append hd
 have hl:(us++ds).length=ps.length:=by rw [← r2.length];exact F.len _ _ _ _ h
 refine wpAny_call (codeAny_mono (F.run X.A X.stack s H ⟨us,[]⟩ (us++ds) (vs++dvs) Q E hr I.env0 (hb s us I.kIn hl) r2 h) fun r s' hq=>?_)
 cases r with
 | error e=>exact hx pins σ H s e s' I hq
 | ok fl=>
  cases fl with
  | ret u=>exact I.after hq
  | next=>exact False.elim hq
  | brk=>exact False.elim hq
  | cont=>exact False.elim hq
theorem pe_call (F:FnOk X.prog X.w X.K X.mg X.base CX k f fd ps sp) (hr:Room k X.A) (hg:Gl X x) (hm:X.mg x=some (.ref f)) (hk:PySem.W.keepIn X.K (.ref f)=true) (hb:Binds X.K fd ps ds) (hd:Vals dvs ds) (hx:cI CX X E)
  (ha:PA X (e::es) t) (hdb:(x == ("__debug__":Str))=false:=by decide) (he:starEach (e::es) X.env=(false,eval e X.env)::starEach es X.env:=by rfl) (hpl:(backTo pos (starEach es X.env)).any (·.1)=false:=by rfl) :
  PE X (.Call (.Name x p) (e::es) [] pos) (tCall sp dvs E t):=by
 intro pins s σ H Q I h
 refine wpAny_Call_Name_kw (dP I hg hm ?_ hdb)
 refine PySem.W.callWith_K (h₀:=X.base) I.ok.mod.kin hk (thn (ha pos pins s σ H _ I h) fun us s1 ⟨vs,H1,I1,r,q⟩=>⟨I1.kIn,?_⟩) he hpl
 exact run_fn F hr hb hd hx I1 r q
structure Mk (K:PySem.W.Frag) (C f:Addr):Prop where
 makes:PySem.W.makesIn K C=true
 init:PySem.W.findIn K (.ref C) "__init__"=some (some (.ref f))
 fn:PySem.W.isFn K (.ref f)=true
 kp:PySem.W.keepIn K (.ref C)=true
theorem run_make {pins:List (Addr × Obj)} {σ:St} {H:Hp} {s:Shared} {Q:VK} {us:List Value} {vs:List V} (M:Mk X.K C f) (F:FnOk X.prog X.w X.K X.mg X.base CX k f fd ps sp) (hr:Room (k+1) X.A) (hb:Binds X.K fd ps ds) (hd:Vals dvs ds)
  (hx:cI CX X E) (I:Inv X pins σ H s) (r:Vals vs us)
  (h:∀ x dx,H x=none→H dx=none→dx≠x→sp (.ref x::(vs++dvs)) (upd (upd H dx (.own x)) x (.ins C dx [])) (fun v H2=>v=.non∧Q (.ref x) H2) E) :
  wpAny (model X.prog X.w) X.A (call (.ref C) us) (EP X pins σ Q) X.xe s:=by
 have hq:=h (s.heap.objs.size+1) s.heap.objs.size (I.hok.fresh (Nat.le_succ _)) (I.hok.fresh (Nat.le_refl _)) (Nat.ne_of_lt (Nat.lt_succ_self _))
 have I2:=Inv.made (C:=C) I
 have r2:Vals (V.ref (s.heap.objs.size+1)::(vs++dvs)) (Value.ref (s.heap.objs.size+1)::(us++ds)):=.cons rfl (r.append hd)
 have hl:(Value.ref (s.heap.objs.size+1)::us++ds).length=ps.length:=by
  have e:=r2.length
  rw [F.len _ _ _ _ hq] at e
  exact e.symm
 refine wpAny_call (make_map (f:=f) I.kIn M.makes M.init (beq_iff_eq.mp M.fn) (codeAny_mono (F.run _ X.stack _ _ ⟨Value.ref (s.heap.objs.size+1)::us,[]⟩ (Value.ref (s.heap.objs.size+1)::(us++ds)) _ _ E (hr.make C us [])
  (I2.env0.make C us []) (hb _ (Value.ref (s.heap.objs.size+1)::us) I2.kIn hl) r2 hq) fun r s' hq'=>?_))
 cases r with
 | error e=>exact hx pins σ _ _ e s' I2 hq'
 | ok fl=>
  cases fl with
  | ret u=>
   obtain ⟨v,H',I3,rv,ev,q3⟩:=I2.after hq'
   subst ev
   exact ⟨rv,⟨V.ref (s.heap.objs.size+1),H',I3,rfl,q3⟩⟩
  | next=>exact False.elim hq'
  | brk=>exact False.elim hq'
  | cont=>exact False.elim hq'
theorem pe_make (M:Mk X.K C f) (F:FnOk X.prog X.w X.K X.mg X.base CX k f fd ps sp) (hr:Room (k+1) X.A) (hg:Gl X x) (hm:X.mg x=some (.ref C)) (hb:Binds X.K fd ps ds) (hd:Vals dvs ds) (hx:cI CX X E)
  (ha:PA X (e::es) t) (hdb:(x == ("__debug__":Str))=false:=by decide) (he:starEach (e::es) X.env=(false,eval e X.env)::starEach es X.env:=by rfl) (hpl:(backTo pos (starEach es X.env)).any (·.1)=false:=by rfl) :
  PE X (.Call (.Name x p) (e::es) [] pos) (tMake C sp dvs E t):=by
 intro pins s σ H Q I h
 refine wpAny_Call_Name_kw (dP I hg hm ?_ hdb)
 refine PySem.W.callWith_K (h₀:=X.base) I.ok.mod.kin M.kp (thn (ha pos pins s σ H _ I h) fun us s1 ⟨vs,H1,I1,r,q⟩=>⟨I1.kIn,?_⟩) he hpl
 exact run_make M F hr hb hd hx I1 r q
end
def PK (X:Cx) (kws:List Keyword) (t:TA):Prop:=
 ∀ (pos:Pos) (pins:List (Addr × Obj)) (s:Shared) (σ:St) (H:Hp) (Q:List V→Hp→Prop),Inv X pins σ H s→t σ H Q→wpAny (model X.prog X.w) X.A (evalAll ((backToKw pos (keywordEach kws X.env)).map (·.2))) (AP X pins σ Q) X.xe s
section
variable {X:Cx} {CX:CXT} {k:Nat} {f C:Addr} {fd:FuncData} {ps ks:List Str} {sp:Sp} {E:XK} {x m:Str} {p pos apos kpos:Pos} {e o:Expr} {es:List Expr} {kws:List Keyword} {te ta:TE} {t tk:TA} {nm:Option Str}
structure KBinds (K:PySem.W.Frag) (fd:FuncData) (ps ks:List Str) (g:List Value→List Value→List Value) (gV:List V→List V→List V):Prop where
 to:∀ (s:Shared) (us ws:List Value),K.In s.heap→(g us ws).length=ps.length→BindsTo s fd ⟨us,ks.zip ws⟩ (ps.zip (g us ws))
 rel:∀ {vs:List V} {us:List Value} {zs:List V} {ws:List Value},Vals vs us→Vals zs ws→Vals (gV vs zs) (g us ws)
def tCallK (sp:Sp) (gV:List V→List V→List V) (E:XK) (t tk:TA):TE:=fun σ H Q=>t σ H fun vs H1=>tk σ H1 fun zs H2=>sp (gV vs zs) H2 Q E
variable {g:List Value→List Value→List Value} {gV:List V→List V→List V}
end
structure FnScope (N P:List Str) (sc:Scope):Prop where
 kind:sc.kind=.function
 co:sc.isCoroutine=false
 gen:sc.isGenerator=false
 nd:N.Nodup
 pre:N.take P.length=P
 par:∀ x∈P,sc.names.lookup x=some .local∨sc.names.lookup x=some .cell
 nofree:∀ y∈sc.names,y.2≠.free
theorem bindL_out {kindOf:Str→Option NameKind} {x:Str}:∀ {binds:List (Str × Value)} {m:Str→Option Value},(∀ v,(x,v) ∉ binds)→bindL kindOf binds m x=m x
 | [],_,_=>rfl
 | (n,v)::r,m,h=>by
  unfold bindL
  rw [bindL_out fun w hw=>h w (List.mem_cons_of_mem _ hw)]
  split
  ·have:x≠n:=by rintro rfl;exact h v List.mem_cons_self
   simp [this]
  ·rfl
theorem bindC_out {kindOf:Str→Option NameKind} {x:Str}:∀ {binds:List (Str × Value)} {m:Str→Option Value},(∀ v,(x,v) ∉ binds)→bindC kindOf binds m x=m x
 | [],_,_=>rfl
 | (n,v)::r,m,h=>by
  unfold bindC
  rw [bindC_out fun w hw=>h w (List.mem_cons_of_mem _ hw)]
  split
  ·rfl
  ·have:x≠n:=by rintro rfl;exact h v List.mem_cons_self
   simp [this]
theorem bindL_get {kindOf:Str→Option NameKind} {x:Str} {v:Value}:∀ {P:List Str} {vs:List Value} {i:Nat} {m:Str→Option Value},P.Nodup→P[i]?=some x→vs[i]?=some v→kindOf x=some .local→
  bindL kindOf (P.zip vs) m x=some v
 | [],_,_,_,_,h,_,_=>by simp at h
 | _::_,[],_,_,_,_,h,_=>by simp at h
 | p::P,w::vs,0,m,nd,h1,h2,hk=>by
  simp at h1 h2;subst h1;subst h2
  show bindL kindOf ((p,w)::P.zip vs) m p=_
  unfold bindL
  rw [bindL_out fun v hv=>(List.nodup_cons.mp nd).1 (List.of_mem_zip hv).1,if_pos hk]
  simp
 | p::P,w::vs,i+1,m,nd,h1,h2,hk=>by
  show bindL kindOf ((p,w)::P.zip vs) m x=_
  unfold bindL
  exact bindL_get (i:=i) (List.nodup_cons.mp nd).2 (by simpa using h1) (by simpa using h2) hk
theorem bindC_get {kindOf:Str→Option NameKind} {x:Str} {v:Value}:∀ {P:List Str} {vs:List Value} {i:Nat} {m:Str→Option Value},P.Nodup→P[i]?=some x→vs[i]?=some v→kindOf x≠some .local→
  bindC kindOf (P.zip vs) m x=some v
 | [],_,_,_,_,h,_,_=>by simp at h
 | _::_,[],_,_,_,_,h,_=>by simp at h
 | p::P,w::vs,0,m,nd,h1,h2,hk=>by
  simp at h1 h2;subst h1;subst h2
  show bindC kindOf ((p,w)::P.zip vs) m p=_
  unfold bindC
  rw [bindC_out fun v hv=>(List.nodup_cons.mp nd).1 (List.of_mem_zip hv).1,if_neg hk]
  simp
 | p::P,w::vs,i+1,m,nd,h1,h2,hk=>by
  show bindC kindOf ((p,w)::P.zip vs) m x=_
  unfold bindC
  exact bindC_get (i:=i) (List.nodup_cons.mp nd).2 (by simpa using h1) (by simpa using h2) hk
def dE (N:List Str) (vs:List V):St:=vs.map some++List.replicate (N.length-vs.length) none
def aS (CX:CXT) (P:Program) (w:World) (K:PySem.W.Frag) (mg:Str→Option Value) (base:Heap) (N:List Str) (qual:Str) (scope:Scope) (f:Addr) (cd:Value) (A:Around) (outer:List Env) (s:Shared) (H:Hp) (E:XK):Cx where
 prog:=P
 w:=w
 K:=K
 mg:=mg
 base:=base
 A:=A.deeper (envOfC qual scope s.heap.objs.size f cd)
 N:=N
 s₀:=s
 H₀:=H
 env:=envOfC qual scope s.heap.objs.size f cd
 outer:=outer
 stack:=envOfC qual scope s.heap.objs.size f cd::outer
 ex:=[]
 calm:=true
 fn:=fun _=>true
 pn:=[]
 xe:=fun e s'=>wpAny (model P w) (A.deeper (envOfC qual scope s.heap.objs.size f cd)) (leaving (envOfC qual scope s.heap.objs.size f cd) e) (fun _ s''=>CX outer H s E e s'') (fun e' s''=>CX outer H s E e' s'') s'
theorem cell_has {sc:Scope} {n:Nat} {x:Str} (h:sc.names.lookup x=some .cell):∃ c,(cellsFrom n sc.names []).lookup x=some c:=by
 have q:=PySem.W.cellsFrom_some sc.names n [] (.inl h)
 exact Option.isSome_iff_exists.mp q
theorem inv_start {CX:CXT} {P:Program} {w:World} {K:PySem.W.Frag} {mg:Str→Option Value} {base:Heap} {N ps:List Str} {qual:Str} {scope:Scope} {f:Addr} {cd:Value} {A:Around} {outer:List Env} {s s1:Shared} {H:Hp} {E:XK} {us:List Value} {vs:List V}
  (S:FnScope N ps scope) (hd:A.handled=none) (e0:Env0 P w K mg base A outer s H) (hl:vs.length=ps.length) (r:Vals vs us)
  (x:InCallC s s.heap.objs.size (bindL (envOfC qual scope s.heap.objs.size f cd).kindOf (ps.zip us) fun _=>none) (cellsFrom (s.heap.objs.size+1) scope.names []) (bindC (envOfC qual scope s.heap.objs.size f cd).kindOf (ps.zip us) fun _=>none) s1) :
  Inv (aS CX P w K mg base N qual scope f cd A outer s H E) [] (dE N vs) H s1:=by
 have hpl:ps.length≤N.length:=by have:=congrArg List.length S.pre;rw [List.length_take] at this;omega
 obtain ⟨h1,tk,rfl,hk⟩:=x.done
 have noA:∀ b:Addr,b ∉ (aS CX P w K mg base N qual scope f cd A outer s H E).ex:=fun b z=>absurd (show b∈([]:List Addr) from z) (by simp)
 refine ⟨⟨e0.mod,S.kind,rfl,rfl,Nat.le_refl _,fun y z c h1 h2=>?_,fun y hy=>?_,fun y c _ h=>?_,fun _=>hd,Around.frames_deeper e0.frames,.inr ⟨rfl,rfl⟩,fun b z=>absurd z (noA b),e0.bs,e0.bsz,fun b _ _=>noA b,fun b z=>absurd z (noA b),e0.funs,e0.frf⟩,
  rfl,e0.bare,Un.kept hk,⟨_,x.toInCall.ns,fun i y v h1 h2 h3=>?_⟩,fun y c h=>⟨_,x.cell y c h⟩,e0.hok.fresh (Nat.le_refl _),fun y c h=>?_,fun p hp=>absurd (show p∈([]:List (Addr × Obj)) from hp) (by simp),e0.hok.kept hk,?_⟩
 ·exact name_of_addr x.apart (PySem.mem_of_lookup h1) (PySem.mem_of_lookup h2)
 ·have hy:scope.names.lookup y=some .cell∨scope.names.lookup y=some .free:=hy
  rcases hy with hy | hy
  ·exact cell_has hy
  ·exact absurd rfl (S.nofree _ (PySem.mem_of_lookup hy))
 ·exact Nat.le_of_lt (x.above y c (PySem.mem_of_lookup h))
 ·have hi:i<vs.length:=by
   unfold dE at h2
   by_cases hi:i<vs.length
   ·exact hi
   ·rw [List.getElem?_append_right (by simpa using hi)] at h2
    rw [List.getElem?_replicate] at h2
    split at h2 <;> cases h2
  have ha:vs[i]?=some v:=by
   unfold dE at h2
   rw [List.getElem?_append_left (by simpa using hi),List.getElem?_map] at h2
   cases e:vs[i]? with
   | none=>rw [e] at h2;cases h2
   | some a=>rw [e] at h2;cases h2;rfl
  obtain ⟨u,hu,rv⟩:=r.get ha
  have hp:ps[i]?=some y:=by
   rw [← S.pre,List.getElem?_take_of_lt (by omega)];exact h1
  have ndP:ps.Nodup:=by rw [← S.pre];exact S.nd.sublist (List.take_sublist _ _)
  refine ⟨u,rv,?_⟩
  rcases S.par y (List.mem_of_getElem? hp) with k | k
  ·exact .inl ⟨k,bindL_get ndP hp hu k⟩
  ·obtain ⟨c,e⟩:=cell_has (n:=s.heap.objs.size+1) k
   refine .inr ⟨.inl k,c,e,?_⟩
   have q:=x.cell y c e
   rw [bindC_get ndP hp hu (by show scope.names.lookup y≠_;rw [k];decide)] at q
   exact q
 ·exact e0.hok.fresh (Nat.le_of_lt (x.above y c (PySem.mem_of_lookup h)))
 ·unfold dE
  show _=N.length
  rw [List.length_append,List.length_map,List.length_replicate]
  omega
theorem fn_of {CX:CXT} {P:Program} {w:World} {K:PySem.W.Frag} {mg:Str→Option Value} {base:Heap} {k:Nat} {f:Addr} {name qual:Str} {params:Arguments} {body:List Stmt} {scope:Scope} {dV kV doc pm cdv ct oc:Value} {an od:Option Addr}
  {osl:Array (Option Value)} {N ps:List Str} {sp:Sp} (lk:K.lookup f=some ⟨oc,od,.func (PySem.W.fnOf name qual params body scope dV kV doc pm an cdv ct),osl⟩) (hcd:PySem.W.codeIn K cdv qual=true) (S:FnScope N ps scope)
  (len:∀ vs H Q E,sp vs H Q E→vs.length=ps.length)
  (hbody:∀ (A:Around) (outer:List Env) (s:Shared) (H:Hp) (vs:List V) (Q:VK) (E:XK),Room k (A.deeper (envOfC qual scope s.heap.objs.size f cdv))→sp vs H Q E→
   ∃ t,PSs (aS CX P w K mg base N qual scope f cdv A outer s H E) body t∧t { nx:=fun _ H'=>Q .non H',rt:=Q } (dE N vs) H) :
  FnOk P w K mg base CX (k+1) f (PySem.W.fnOf name qual params body scope dV kV doc pm an cdv ct) ps sp:=by
 refine ⟨len,fun A outer s H args us vs Q E hr e0 hb r hsp=>?_⟩
 have hl:=len _ _ _ _ hsp
 have KX:K.In s.heap:=e0.mod.kin.keeps fun b o e=>(e0.bs b o e).1
 have lim:s.heap.NoLimit:=e0.mod.nolimit.keeps fun b o e=>(e0.bs b o e).1
 have hkind:∀ y∈ps.zip us,scope.names.lookup y.1=some .local∨(scope.names.lookup y.1=some .cell∧((cellsFrom (s.heap.objs.size+1) scope.names []).lookup y.1).isSome=true):=fun ⟨n,v⟩ hy=>by
  rcases S.par n (List.of_mem_zip hy).1 with q | q
  ·exact .inl q
  ·exact .inr ⟨q,PySem.W.cellsFrom_some _ _ _ (.inl q)⟩
 refine codeAny_call_function hr.depth (KX _ _ lk) rfl S.co S.gen rfl (PySem.W.codeRec_of KX hcd) (hb _ _ _ _ ?_)
 refine wpAny_newFunctionEnv_cells S.kind hkind fun env he s1 x=>?_
 subst he
 refine ⟨lim.keeps x.toInCall.keep,codeAny_func ?_⟩
 obtain ⟨t,ht,hq⟩:=hbody A outer s H vs Q E (hr.deeper _) hsp
 have I:Inv (aS CX P w K mg base N qual scope f cdv A outer s H E) [] (dE N vs) H s1:=inv_start S hr.hd e0 hl r x
 refine wpAny_mono (ht [] s1 (dE N vs) H _ I hq) (fun fl s' hs=>?_) fun e s' hs=>hs
 have fin:∀ {σ':St} {H':Hp} {v:V} {u:Value},Inv (aS CX P w K mg base N qual scope f cdv A outer s H E) [] σ' H' s'→RelV v u→Q v H'→CE outer P w H s Q u s':=
  fun {σ' H' v u} J rv q=>⟨v,H',J.os,J.bare,J.base,J.hok,rv,q⟩
 cases fl with
 | ret u=>
  obtain ⟨v,σ',H',J,rv,q⟩:=hs
  exact fin J rv q
 | next=>
  obtain ⟨σ',H',J,q⟩:=hs
  exact fin (v:=V.non) (u:=Value.none) J rfl q
 | brk=>
  obtain ⟨_,_,_,q⟩:=hs
  exact False.elim q
 | cont=>
  obtain ⟨_,_,_,q⟩:=hs
  exact False.elim q
end L2
namespace L2
open PySem PySem.Spec PyProof.Rows
section
variable {X:Cx} {x:Str} {p pos:Pos} {e:Expr} {es:List Expr} {t:TA} {id T:String} {r:List V→Hp→VK→Prop}
def tCB (r:List V→Hp→VK→Prop) (t:TA):TE:=fun σ H Q=>t σ H fun vs H1=>r vs H1 Q
theorem am (hc:gj X (.builtin id) r) (hg:Gl X x) (hm:X.mg x=none) (hv:bootBuiltins x=some (.builtin id)) (ha:PA X (e::es) t) (hn:x≠"__name__":=by decide) (hdb:(x == ("__debug__":Str))=false:=by decide)
  (he:starEach (e::es) X.env=(false,eval e X.env)::starEach es X.env:=by rfl) (hpl:(backTo pos (starEach es X.env)).any (·.1)=false:=by rfl):PE X (.Call (.Name x p) (e::es) [] pos) (tCB r t):=by
 intro pins s σ H Q I h
 refine wpAny_Call_Name_kw (ld_blt I hg hm hv ?_ hn hdb)
 exact PyProof.Rows.callWith_builtin1 (thn (ha pos pins s σ H _ I h) fun us s1 ⟨vs,H1,I1,r1,q1⟩=>hc pins s1 σ H1 vs us Q I1 r1 q1) he hpl
theorem pe_callTy (hc:gj X (.type T) r) (hg:Gl X x) (hm:X.mg x=none) (hv:bootBuiltins x=some (.type T)) (ha:PA X (e::es) t) (hn:x≠"__name__":=by decide) (hdb:(x == ("__debug__":Str))=false:=by decide)
  (he:starEach (e::es) X.env=(false,eval e X.env)::starEach es X.env:=by rfl) (hpl:(backTo pos (starEach es X.env)).any (·.1)=false:=by rfl):PE X (.Call (.Name x p) (e::es) [] pos) (tCB r t):=by
 intro pins s σ H Q I h
 refine wpAny_Call_Name_kw (ld_blt I hg hm hv ?_ hn hdb)
 exact PyProof.Rows.callWith_type1 (thn (ha pos pins s σ H _ I h) fun us s1 ⟨vs,H1,I1,r1,q1⟩=>hc pins s1 σ H1 vs us Q I1 r1 q1) he hpl
end
end L2
namespace HT
open PySem PyProof.Rows
def lexLt:List Int→List Int→Bool
 | [],[]=>false
 | [],_::_=>true
 | _::_,[]=>false
 | x::xs,y::ys=>if x=y then lexLt xs ys else decide (x<y)
section
open PySem.SeqAt
open PySem.AutoSeq1 (wpAny_loadPart')
open PySem.MeetsSeq PySem.MeetsSeq2 PySem.MeetsSeq3
end
section
variable {prog:Program} {w:World} {A:Around} {E:Value→Shared→Prop} {s:Shared}
def sIx (n d:Nat):Option Int→Nat
 | none=>d
 | some v=>if v<0 then (v+(n:Int)).toNat else min v.toNat n
theorem sIx_none (n d:Nat):sIx n d none=d:=rfl
theorem sIx_nat (n d k:Nat):sIx n d (some (k:Int))=min k n:=by
 show (if (k:Int)<0 then ((k:Int)+(n:Int)).toNat else min (k:Int).toNat n)=min k n
 rw [if_neg (by omega),Int.toNat_natCast]
end
end HT
namespace L2
open PySem PySem.Spec PyProof.Rows
abbrev TO:=St→Hp→(Option Int→Hp→Prop)→Prop
def PO (X:Cx) (e:Option Expr) (t:TO):Prop:=
 ∀ (pins:List (Addr × Obj)) (s:Shared) (σ:St) (H:Hp) (Q:Option Int→Hp→Prop),Inv X pins σ H s→t σ H Q→
  wpAny (model X.prog X.w) X.A (evalPart e X.env) (fun u s'=>∃ o H',Inv X pins σ H' s'∧IsPart u o∧Q o H') X.xe s
def tNoPart:TO:=fun _ H Q=>Q none H
def tPart (t:TE):TO:=fun σ H Q=>t σ H fun x H1=>∃ i,x=.int i∧Q (some i) H1
section
variable {X:Cx} {e:Expr} {te:TE} {lo hi:Option Expr} {tl th:TO} {pos p2:Pos}
theorem gW:PO X none tNoPart:=by
 intro pins s σ H Q I h
 rw [evalPart_none]
 exact wpAny_pure ⟨none,H,I,.none,h⟩
theorem gU (h:PE X e te):PO X (some e) (tPart te):=by
 intro pins s σ H Q I hw
 rw [evalPart_some]
 refine thn (h pins s σ H _ I hw) fun u s1 ⟨x,H1,I1,r1,q1⟩=>?_
 obtain ⟨i,rfl,q⟩:=q1
 obtain ⟨t,rfl⟩:=r1
 exact ⟨some i,H1,I1,.int i t,q⟩
def SlR (X:Cx) (r:V→Option Int→Option Int→Hp→VK→Prop):Prop:=
 ∀ (pins:List (Addr × Obj)) (s:Shared) (σ:St) (H:Hp) (x:V) (v vl vu:Value) (lo hi:Option Int) (sl:Addr) (Q:VK),Inv X pins σ H s→RelV x v→s.heap.IsSliceOf sl vl vu .none→IsPart vl lo→IsPart vu hi→r x lo hi H Q→
  ∃ T id,typeLookup (.type T) "__getitem__"=pure (some (.builtin id))∧s.TypeIs v T∧wpAny (model X.prog X.w) X.A (getItem v (.ref sl)) (EP X pins σ Q) X.xe s
def tSl (r:V→Option Int→Option Int→Hp→VK→Prop) (te:TE) (tl th:TO):TE:=fun σ H Q=>te σ H fun x H1=>tl σ H1 fun l H2=>th σ H2 fun u H3=>r x l u H3 Q
theorem fK {r:V→Option Int→Option Int→Hp→VK→Prop} (hr:SlR X r) (he:PE X e te) (hl:PO X lo tl) (hu:PO X hi th):PE X (.Subscript e (.Slice lo hi none p2) pos) (tSl r te tl th):=by
 intro pins s σ H Q I h
 refine Subscript_ (thn (he pins s σ H _ I h) fun v s1 ⟨x,H1,I1,r1,q1⟩=>?_)
 refine wpAny_Slice (thn (hl pins s1 σ H1 _ I1 q1) fun vl s2 ⟨l,H2,I2,pl,q2⟩=>thn (hu pins s2 σ H2 _ I2 q2) fun vu s3 ⟨u,H3,I3,pu,q3⟩=>?_)
 rw [evalPart_none]
 refine wpAny_pure ?_
 have I4:Inv X pins σ H3 { s3 with heap:=s3.heap.push { cls:=.type "slice",data:=.fields #[vl,vu,.none] } }:=I3.kept (t':=s3.toks) fun b ob q=>Heap.get?_push_of_some _ q
 obtain ⟨T,id,hT,ht,hg⟩:=hr pins { s3 with heap:=s3.heap.push { cls:=.type "slice",data:=.fields #[vl,vu,.none] } } σ H3 x v vl vu l u s3.heap.objs.size Q I4 r1 (Heap.IsSliceOf.new ..) pl pu q3
 show wpAny (model X.prog X.w) X.A (subscriptTail e (.Slice lo hi none p2) v (.ref s3.heap.objs.size)) (EP X pins σ Q) X.xe { s3 with heap:=s3.heap.push { cls:=.type "slice",data:=.fields #[vl,vu,.none] } }
 exact tail_any (ops:=[.ref s3.heap.objs.size,v]) ht hT hg (by with_unfolding_all rfl)
def dQ (xs:List V) (lo hi:Option Int):List V:=(xs.drop (HT.sIx xs.length 0 lo)).take (HT.sIx xs.length xs.length hi-HT.sIx xs.length 0 lo)
theorem cutV_length (xs:List V) (lo hi:Option Int):(dQ xs lo hi).length≤xs.length:=by
 unfold dQ
 rw [List.length_take,List.length_drop]
 omega
def rSlT (K:PySem.W.Frag):V→Option Int→Option Int→Hp→VK→Prop:=fun x lo hi H Q=>∃ a xs,x=.ref a∧SqT K H a xs∧
 ¬ (HT.sIx xs.length 0 lo=0∧HT.sIx xs.length xs.length hi=xs.length)∧∀ p,H p=none→Q (.ref p) (upd H p (.tup (dQ xs lo hi)))
def rLtT (K:PySem.W.Frag):R2:=fun x y H Q=>∃ a b ns ms,x=.ref a∧y=.ref b∧SqT K H a (ns.map V.int)∧SqT K H b (ms.map V.int)∧Q (.bl (HT.lexLt ns ms)) H
def rCatT (K:PySem.W.Frag):R2:=fun x y H Q=>∃ a b xs ys,x=.ref a∧y=.ref b∧SqT K H a xs∧SqT K H b ys∧xs≠[]∧xs.length+ys.length≤sizeLine∧
 (ys=[]→Q (.ref a) H)∧(ys≠[]→∀ p,H p=none→Q (.ref p) (upd H p (.tup (xs++ys))))
end
end L2
namespace L2
open PySem PySem.Spec PyProof.Rows
def ixN (n:Nat) (i:Int):Option Nat:=if 0≤i then (if i<n then some i.toNat else none) else if -(n:Int)≤i then some (i+n).toNat else none
def atI {α:Type} (xs:List α) (i:Int):Option α:=(ixN xs.length i).bind fun j=>xs[j]?
theorem ixN_seq {n:Nat} {i:Int} {j:Nat} (h:ixN n i=some j):seqIndex? i n=some j∧j<n∧-(n:Int)≤i∧i<n:=by
 unfold ixN at h
 by_cases h0:0≤i
 ·rw [if_pos h0] at h
  by_cases h1:i<n
  ·rw [if_pos h1] at h
   have e:i.toNat=j:=Option.some.inj h
   exact ⟨by rw [seqIndex_of h0 h1,e],by omega,by omega,h1⟩
  ·rw [if_neg h1] at h;cases h
 ·rw [if_neg h0] at h
  by_cases h1:-(n:Int)≤i
  ·rw [if_pos h1] at h
   have e:(i+n).toNat=j:=Option.some.inj h
   exact ⟨by rw [seqIndex_neg (by omega) h1,e],by omega,h1,by omega⟩
  ·rw [if_neg h1] at h;cases h
theorem atI_get {α:Type} {xs:List α} {i:Int} {v:α} (h:atI xs i=some v):∃ j,seqIndex? i xs.length=some j∧xs[j]?=some v∧j<xs.length∧-(xs.length:Int)≤i∧i<xs.length:=by
 unfold atI at h
 cases e:ixN xs.length i with
 | none=>rw [e] at h;cases h
 | some j=>
  rw [e] at h
  obtain ⟨h1,h2,h3,h4⟩:=ixN_seq e
  exact ⟨j,h1,h,h2,h3,h4⟩
theorem atI_nat {α:Type} {xs:List α} {j:Nat} {v:α} (h:xs[j]?=some v):atI xs (j:Int)=some v:=by
 have hj:j<xs.length:=(List.getElem?_eq_some_iff.mp h).1
 have e:ixN xs.length (j:Int)=some j:=by
  unfold ixN
  rw [if_pos (by omega),if_pos (by omega)];simp
 unfold atI;rw [e];exact h
def PlainIx (b:Expr):Prop:=∀ o i,subscripted b false o i=operate [o,i] (getItem o i)
def IxR (X:Cx) (r:R2):Prop:=
 ∀ (value slice:Expr) (pins:List (Addr × Obj)) (s:Shared) (σ:St) (H:Hp) (x y:V) (v u:Value) (Q:VK),Inv X pins σ H s→RelV x v→RelV y u→r x y H Q→
  subscripted slice false v u=operate [v,u] (getItem v u)→wpAny (model X.prog X.w) X.A (subscriptTail value slice v u) (EP X pins σ Q) X.xe s
def MtR (X:Cx) (id:String) (r:V→List V→Hp→VK→Prop):Prop:=
 ∀ (pins:List (Addr × Obj)) (s:Shared) (σ:St) (H:Hp) (x:V) (xs:List V) (v:Value) (us:List Value) (Q:VK),Inv X pins σ H s→RelV x v→Vals xs us→r x xs H Q→
  wpAny (model X.prog X.w) X.A (call (.builtin id) (v::us)) (EP X pins σ Q) X.xe s
section
variable {X:Cx} {a b:Expr} {ta tb:TE} {pos:Pos}
theorem au {r:R2} (hr:IxR X r) (ha:PE X a ta) (hb:PE X b tb) (hs:PlainIx b):PE X (.Subscript a b pos) (tOp r ta tb):=by
 intro pins s σ H Q I h
 exact Subscript_ (binT ha hb I h fun v u s2 x y H2 I2 rx ry q=>hr a b pins s2 σ H2 x y v u Q I2 rx ry q (hs _ _))
def rIxL (K:PySem.W.Frag):R2:=fun x y H Q=>∃ p xs i v,x=.ref p∧y=.int i∧SqL K H p xs∧atI xs i=some v∧Q v H
def rIxT (K:PySem.W.Frag):R2:=fun x y H Q=>∃ p xs i v,x=.ref p∧y=.int i∧SqT K H p xs∧atI xs i=some v∧Q v H
def rIxS:R2:=fun x y H Q=>∃ z i c,x=.str z∧y=.int i∧z.length≤sizeLine∧atI z.cps.toList i=some c∧Q (.str ⟨#[c]⟩) H
theorem ay:IxR X (rIxL X.K):=by
 intro value slice pins s σ H x y v u Q I rx ry h hs
 obtain ⟨p,xs,i,z,rfl,rfl,hq,he,q⟩:=h
 cases rx
 obtain ⟨t,rfl⟩:=ry
 obtain ⟨its,r,pl,hz⟩:=I.list hq
 obtain ⟨j,h1,h2,h3,h4,h5⟩:=atI_get he
 obtain ⟨w,ew,rw'⟩:=r.get h2
 have hl:=r.length
 have hn:=line63
 have fin:EP X pins σ Q w s:=⟨z,H,I,rw',q⟩
 by_cases h0:0≤i
 ·have hj:i.toNat=j:=by
   rw [seqIndex_of h0 h5] at h1
   exact Option.some.inj h1
  exact item_listR pl.isList h0 (by omega) (by rw [hj];simpa using ew) fin hs
 ·have hj:(i+(its.toArray.size:Int)).toNat=j:=by
   rw [seqIndex_neg (by omega) h4] at h1
   rw [List.size_toArray,← hl]
   exact Option.some.inj h1
  exact subscriptTail_builtinR (x:=w) pl.isList.typeIs slot_list_getitem.lookup
   (wpAny_getItem_list_neg (Q:=fun r s'=>r=w∧EP X pins σ Q r s') pl.isList (by omega) (by rw [List.size_toArray] <;> omega) (by omega) (by rw [hj];simpa using ew) ⟨rfl,fin⟩) hs
theorem aB:IxR X (rIxT X.K):=by
 intro value slice pins s σ H x y v u Q I rx ry h hs
 obtain ⟨p,xs,i,z,rfl,rfl,hq,he,q⟩:=h
 cases rx
 obtain ⟨t,rfl⟩:=ry
 obtain ⟨its,r,pl,hz⟩:=I.tuple hq
 obtain ⟨j,h1,h2,h3,h4,h5⟩:=atI_get he
 obtain ⟨w,ew,rw'⟩:=r.get h2
 have hl:=r.length
 have hn:=line63
 have fin:EP X pins σ Q w s:=⟨z,H,I,rw',q⟩
 exact subscriptTail_builtinR (x:=w) pl.typeIs slot_tuple_getitem.lookup
  (getItem_tuple (j:=j) (Q:=fun r s'=>r=w∧EP X pins σ Q r s') pl (by omega) (by omega) (by rw [List.size_toArray,← hl];exact h1) (by simpa using ew) ⟨rfl,fin⟩) hs
theorem ix_str:IxR X rIxS:=by
 intro value slice pins s σ H x y v u Q I rx ry h hs
 obtain ⟨z,i,c,rfl,rfl,hz,he,q⟩:=h
 obtain ⟨t,rfl⟩:=rx
 obtain ⟨t',rfl⟩:=ry
 obtain ⟨j,h1,h2,h3,h4,h5⟩:=atI_get he
 have hl:z.cps.toList.length=z.length:=by simp [Str.length]
 rw [hl] at h1 h4 h5
 have hn:=line63
 exact tail_any (typeIs_str s z t) slot_str_getitem.lookup (getItem_str (c:=c) (by
  have e1:decide (i < -(2 ^ 63:Int))=false:=decide_eq_false (by omega)
  have e2:decide (i ≥ 2 ^ 63)=false:=decide_eq_false (by omega)
  rw [e1,e2,Bool.or_false]) (by rw [h1];simpa using h2) ⟨.str ⟨#[c]⟩,H,I.tok _,⟨_,rfl⟩,q⟩) hs
def rIx (K:PySem.W.Frag):R2:=fun x y H Q=>rIxL K x y H Q∨rIxT K x y H Q∨rIxS x y H Q
theorem mapSeq_set (its:List Value) (n j:Nat) (u:Value):Obj.mapSeq (·.setIfInBounds j u) { cls:=.type "list",data:=.seq its.toArray n } = { cls:=.type "list",data:=.seq (its.set j u).toArray n }:=by
 simp [Obj.mapSeq]
theorem Inv.lst {pins:List (Addr × Obj)} {σ:St} {H:Hp} {s:Shared} {p:Addr} {xs:List V} (I:Inv X pins σ H s) (h:H p=some (.lst xs)) :
  ∃ (its:List Value) (n:Nat),Vals xs its∧s.heap.get? p=some { cls:=.type "list",data:=.seq its.toArray n }∧xs.length≤sizeLine:=by
 obtain ⟨z,its,n,r,e⟩:=I.hok p _ h
 exact ⟨its,n,r,e,z⟩
theorem Inv.lstUpd {pins:List (Addr × Obj)} {σ:St} {H:Hp} {s:Shared} {p:Addr} {xs ys:List V} {its its':List Value} {n n':Nat} {f:Obj→Obj} (I:Inv X pins σ H s) (h:H p=some (.lst xs))
  (ho:s.heap.get? p=some { cls:=.type "list",data:=.seq its.toArray n }) (hf:f { cls:=.type "list",data:=.seq its.toArray n } = { cls:=.type "list",data:=.seq its'.toArray n' }) (r:Vals ys its') (hz:ys.length≤sizeLine) (t:Nat) :
  Inv X pins σ (upd H p (.lst ys)) { s with heap:=s.heap.update p f,toks:=t }:=by
 have e:(s.heap.update p f).get? p=some { cls:=.type "list",data:=.seq its'.toArray n' }:=by
  rw [Heap.get?_update_self f ho (by rw [hf] <;> rfl),hf]
 refine I.write (x:=p) (e:=p) (by rw [h];trivial) (.inl rfl) (fun b u hb q=>(Heap.get?_update_other _ _ (Ne.symm hb)).trans q) ⟨_,e⟩ ?_
 exact ⟨hz,its',n',r,e⟩
def rSetL:V→V→V→Hp→(Hp→Prop)→Prop:=fun o i v H Q=>∃ p xs k j,o=.ref p∧i=.int k∧H p=some (.lst xs)∧ixN xs.length k=some j∧Q (upd H p (.lst (xs.set j v)))
theorem set_list:PSet X rSetL:=by
 intro pins s σ H o i v ov iv u Q I ro ri rv h
 obtain ⟨p,xs,k,j,rfl,rfl,hp,hj,q⟩:=h
 cases ro
 obtain ⟨t,rfl⟩:=ri
 obtain ⟨its,n,r,ho,hz⟩:=I.lst hp
 obtain ⟨h1,h2,h3,h4⟩:=ixN_seq hj
 have hl:=r.length
 have hn:=line63
 have I':Inv X pins σ (upd H p (.lst (xs.set j v))) { s with heap:=s.heap.update p (Obj.mapSeq (·.setIfInBounds j u)) }:=
  I.lstUpd hp ho (mapSeq_set its n j u) (r.set rv j) (by rw [List.length_set];exact hz) s.toks
 by_cases h0:0≤k
 ·have hk:k.toNat=j:=by
   rw [seqIndex_of h0 h4] at h1
   exact Option.some.inj h1
  exact PySem.W.ki_setAt ho h0 (by omega) (by rw [List.size_toArray,← hl];exact h4) (by rw [hk];exact ⟨_,I',q⟩)
 ·have hk:(k+(its.toArray.size:Int)).toNat=j:=by
   rw [seqIndex_neg (by omega) h3] at h1
   rw [List.size_toArray,← hl]
   exact Option.some.inj h1
  exact PySem.W.ki_setBack ho (by omega) (by rw [List.size_toArray,← hl];exact h3) (by omega) (by rw [hk];exact ⟨_,I',q⟩)
theorem slice_bounds (lo hi:Option Int) (n:Nat):(sliceBounds lo hi none n).1=((HT.sIx n 0 lo:Nat):Int)∧(sliceBounds lo hi none n).2.1=((HT.sIx n n hi:Nat):Int)∧(sliceBounds lo hi none n).2.2=1:=by
 refine ⟨?_,?_,rfl⟩
 ·cases lo with
  | none=>simp [sliceBounds,HT.sIx]
  | some i=>
   simp only [sliceBounds,HT.sIx,Option.getD_none,show (1:Int) > 0 by decide,if_true]
   by_cases h:i<0
   ·simp only [h,if_true] <;> omega
   ·simp only [h,if_false] <;> omega
 ·cases hi with
  | none=>simp [sliceBounds,HT.sIx]
  | some i=>
   simp only [sliceBounds,HT.sIx,Option.getD_none,show (1:Int) > 0 by decide,if_true]
   by_cases h:i<0
   ·simp only [h,if_true] <;> omega
   ·simp only [h,if_false] <;> omega
theorem slicePick_cut (its:List Value) (lo hi:Option Int):slicePick its.toArray lo hi none=((its.drop (HT.sIx its.length 0 lo)).take (HT.sIx its.length its.length hi-HT.sIx its.length 0 lo)).toArray:=by
 obtain ⟨h1,h2,h3⟩:=slice_bounds lo hi its.toArray.size
 unfold slicePick
 rw [h1,h2,h3]
 simp only [sliceRange_one,pick_run,List.size_toArray] <;> rfl
def rSlL (K:PySem.W.Frag):V→Option Int→Option Int→Hp→VK→Prop:=fun x lo hi H Q=>∃ a xs,x=.ref a∧SqL K H a xs∧∀ p,H p=none→Q (.ref p) (upd H p (.lst (dQ xs lo hi)))
theorem gP:SlR X (rSlL X.K):=by
 intro pins s σ H x v vl vu lo hi sl Q I rx hs pl pu h
 obtain ⟨a,xs,rfl,hx,q⟩:=h
 cases rx
 obtain ⟨its,r,ht,hz⟩:=I.list hx
 have hlen:=r.length
 refine ⟨"list",_,slot_list_getitem.lookup,ht.isList.typeIs,?_⟩
 refine wpAny_getItem_list_slice ht.isList hs pl pu .none (by simp) ?_ (by rw [List.size_toArray] <;> omega)
 rw [slicePick_cut,← hlen]
 refine ⟨.ref s.heap.objs.size,_,I.laid (t':=s.toks) (o:=.lst (dQ xs lo hi)) (fun b ob q=>Heap.get?_push_of_some _ q) (Nat.le_refl _) ?_,rfl,q _ (I.hok.fresh (Nat.le_refl _))⟩
 exact ⟨Nat.le_trans (cutV_length xs lo hi) hz,_,0,(r.drop (HT.sIx xs.length 0 lo)).take (HT.sIx xs.length xs.length hi-HT.sIx xs.length 0 lo),Heap.get?_push_size _ rfl⟩
def c5:V→Bool
 | .non=>true
 | .bl _=>true
 | .int _=>true
 | .str _=>true
 | _=>false
def eqV:V→V→Bool
 | .non,.non=>true
 | .bl a,.bl b=>a == b
 | .bl a,.int b=>(if a then 1 else 0) == b
 | .int a,.bl b=>a == (if b then 1 else 0)
 | .int a,.int b=>a == b
 | .str a,.str b=>a == b
 | _,_=>false
theorem eqAt_V {A:Around} {s:Shared} {y x:V} {u v:Value} (ry:RelV y u) (rx:RelV x v) (fy:c5 y=true) (fx:c5 x=true):SeqAt.EqAt A s u v (eqV y x):=by
 cases y with
 | non=>
  cases ry
  cases x with
  | non=>cases rx;exact SeqAt.EqAt.same _
  | bl b=>cases rx;exact SeqAt.EqAt.none_bool b
  | int b=>obtain ⟨t,rfl⟩:=rx;exact SeqAt.EqAt.none_int b t
  | str b=>obtain ⟨t,rfl⟩:=rx;exact SeqAt.EqAt.none_str b t
  | _=>exact absurd (show false=true from fx) Bool.false_ne_true
 | bl a=>
  cases ry
  cases x with
  | non=>cases rx;exact SeqAt.EqAt.bool_none a
  | bl b=>cases rx;exact SeqAt.EqAt.bool_bool a b
  | int b=>obtain ⟨t,rfl⟩:=rx;exact SeqAt.EqAt.bool_int a b t
  | str b=>obtain ⟨t,rfl⟩:=rx;exact SeqAt.EqAt.bool_str a b t
  | _=>exact absurd (show false=true from fx) Bool.false_ne_true
 | int a=>
  obtain ⟨t',rfl⟩:=ry
  cases x with
  | non=>cases rx;exact SeqAt.EqAt.int_none a t'
  | bl b=>cases rx;exact SeqAt.EqAt.int_bool a t' b
  | int b=>obtain ⟨t,rfl⟩:=rx;exact SeqAt.EqAt.int_int a t' b t
  | str b=>obtain ⟨t,rfl⟩:=rx;exact SeqAt.EqAt.int_str a t' b t
  | _=>exact absurd (show false=true from fx) Bool.false_ne_true
 | str a=>
  obtain ⟨t',rfl⟩:=ry
  cases x with
  | non=>cases rx;exact SeqAt.EqAt.str_none a t'
  | bl b=>cases rx;exact SeqAt.EqAt.str_bool a t' b
  | int b=>obtain ⟨t,rfl⟩:=rx;exact SeqAt.EqAt.str_int a t' b t
  | str b=>obtain ⟨t,rfl⟩:=rx;exact SeqAt.EqAt.str_str a t' b t
  | _=>exact absurd (show false=true from fx) Bool.false_ne_true
 | _=>exact absurd (show false=true from fy) Bool.false_ne_true
def eqU (x:V) (u:Value):Bool:=match u with
 | .none=>eqV .non x
 | .bool b=>eqV (.bl b) x
 | .int i _=>eqV (.int i) x
 | .str z _=>eqV (.str z) x
 | _=>false
theorem eqU_of {x y:V} {u:Value} (r:RelV y u) (f:c5 y=true):eqU x u=eqV y x:=by
 cases y with
 | non=>cases r;rfl
 | bl b=>cases r;rfl
 | int i=>obtain ⟨t,rfl⟩:=r;rfl
 | str z=>obtain ⟨t,rfl⟩:=r;rfl
 | _=>exact absurd (show false=true from f) Bool.false_ne_true
theorem ib {x:V}:∀ {xs:List V} {us:List Value},Vals xs us→xs.all c5=true→us.any (eqU x)=xs.any fun y=>eqV y x
 | _,_,.nil,_=>rfl
 | y::xs,u::us,.cons r t,f=>by
  rw [List.all_cons,Bool.and_eq_true] at f
  rw [List.any_cons,List.any_cons,eqU_of r f.1,ib t f.2]
theorem fN {A:Around} {s:Shared} {x:V} {v:Value} (rx:RelV x v) (fx:c5 x=true):∀ {xs:List V} {us:List Value},Vals xs us→xs.all c5=true→∀ u∈us,SeqAt.EqAt A s u v (eqU x u)
 | _,_,.nil,_=>fun u hu=>by cases hu
 | y::xs,u::us,.cons r t,f=>fun u' hu=>by
  rw [List.all_cons,Bool.and_eq_true] at f
  rcases List.mem_cons.mp hu with rfl | hu
  ·rw [eqU_of r f.1];exact eqAt_V r rx f.1 fx
  ·exact fN rx fx t f.2 u' hu
def inV (x:V) (xs:List V):Bool:=xs.any fun y=>eqV y x
def rIn (K:PySem.W.Frag) (neg:Bool):R2:=fun x y H Q=>∃ p xs,y=.ref p∧(SqL K H p xs∨SqT K H p xs)∧c5 x=true∧xs.all c5=true∧Q (.bl (if neg then !inV x xs else inV x xs)) H
theorem op_in_seq:OpR X (compareOp .In) (rIn X.K false):=by
 intro pins s σ H x y v u Q I rx ry h
 obtain ⟨p,xs,rfl,hq,fx,fs,q⟩:=h
 cases ry
 rcases hq with hq | hq
 ·obtain ⟨its,r,pl,hz⟩:=I.list hq
  refine SeqAt.in_listAt (eqU x) pl.isList (fun w hw=>fN rx fx r fs w (by simpa using hw)) ⟨.bl _,H,I,rfl,?_⟩
  rw [show its.toArray.any (eqU x)=its.any (eqU x) by simp,ib r fs]
  exact q
 ·obtain ⟨its,r,pl,hz⟩:=I.tuple hq
  refine SeqAt.in_tupleAt (eqU x) pl (fun w hw=>fN rx fx r fs w (by simpa using hw)) ⟨.bl _,H,I,rfl,?_⟩
  rw [show its.toArray.any (eqU x)=its.any (eqU x) by simp,ib r fs]
  exact q
theorem g5:OpR X (compareOp .NotIn) (rIn X.K true):=by
 intro pins s σ H x y v u Q I rx ry h
 obtain ⟨p,xs,rfl,hq,fx,fs,q⟩:=h
 cases ry
 rcases hq with hq | hq
 ·obtain ⟨its,r,pl,hz⟩:=I.list hq
  refine SeqAt.notIn_listAt (eqU x) pl.isList (fun w hw=>fN rx fx r fs w (by simpa using hw)) ⟨.bl _,H,I,rfl,?_⟩
  rw [show its.toArray.any (eqU x)=its.any (eqU x) by simp,ib r fs]
  exact q
 ·obtain ⟨its,r,pl,hz⟩:=I.tuple hq
  refine SeqAt.notIn_tupleAt (eqU x) pl (fun w hw=>fN rx fx r fs w (by simpa using hw)) ⟨.bl _,H,I,rfl,?_⟩
  rw [show its.toArray.any (eqU x)=its.any (eqU x) by simp,ib r fs]
  exact q
theorem call_len_seq:gj X (.builtin "len") (fun xs H Q=>∃ p ys,xs=[.ref p]∧(SqL X.K H p ys∨SqT X.K H p ys)∧Q (.int ys.length) H):=by
 intro pins s σ H xs us Q I r h
 obtain ⟨p,ys,rfl,hq,q⟩:=h
 obtain ⟨u,rfl,rx⟩:=vals1 r
 cases rx
 have hn:=line63
 rcases hq with hq | hq
 ·obtain ⟨its,r',pl,hz⟩:=I.list hq
  have hlen:=r'.length
  exact Calls.call_len_list pl.isList (by simp only [List.size_toArray] <;> omega) ⟨.int ys.length,H,I.tok _,⟨s.toks+1,by rw [List.size_toArray,hlen]⟩,q⟩
 ·obtain ⟨its,r',pl,hz⟩:=I.tuple hq
  have hlen:=r'.length
  exact len_tuple pl (by simp only [List.size_toArray] <;> omega) ⟨.int ys.length,H,I.tok _,⟨s.toks+1,by rw [List.size_toArray,hlen]⟩,q⟩
def tyV (K:PySem.W.Frag) (T:String) (x:V) (H:Hp):Prop:=match x with
 | .str _=>T = "str"
 | .int _=>T = "int"
 | .ref p=>(T = "list"∧∃ xs,SqL K H p xs)∨(T = "tuple"∧∃ o,K.lookup p=some o∧o.cls=.type "tuple"∧o.dict=none)∨
   (T = "dict"∧((∃ kvs,H p=some (.dK kvs))∨∃ kvs,H p=some (.dT kvs)))∨(T = "set"∧∃ S n,H p=some (.set S n))
 | _=>False
theorem tyV_is {pins:List (Addr × Obj)} {σ:St} {H:Hp} {s:Shared} {T:String} {x:V} {v:Value} (I:Inv X pins σ H s) (r:RelV x v) (ty:tyV X.K T x H) :
  s.TypeIs v T∧∀ a,v=.ref a→∃ ob,s.heap.get? a=some ob∧ob.dict=none:=by
 cases x with
 | str z=>
  obtain ⟨t,rfl⟩:=r
  cases (show T = "str" from ty)
  exact ⟨typeIs_str s z t,fun _ e=>nomatch e⟩
 | int i=>
  obtain ⟨t,rfl⟩:=r
  cases (show T = "int" from ty)
  exact ⟨typeIs_int s i t,fun _ e=>nomatch e⟩
 | ref p=>
  cases r
  rcases ty with ⟨rfl,xs,hq⟩ | ⟨rfl,o,hk,hc,hd⟩ | ⟨rfl,hk⟩ | ⟨rfl,S,n,hk⟩
  ·obtain ⟨its,_,pl,_⟩:=I.list hq
   refine ⟨pl.isList.typeIs,fun a e=>?_⟩
   cases e
   obtain ⟨o,n,e,c,hd,_⟩:=pl
   exact ⟨o,e,hd⟩
  ·refine ⟨⟨o,I.kIn p o hk,hc⟩,fun a e=>?_⟩
   cases e
   exact ⟨o,I.kIn _ o hk,hd⟩
  ·have z:∃ o,s.heap.get? p=some o∧o.ExactDict:=by
    rcases hk with ⟨kvs,hk⟩ | ⟨kvs,hk⟩
    ·obtain ⟨_,_,_,_,o,_,_,e,ex,_⟩:=I.hok p _ hk
     exact ⟨o,e,ex⟩
    ·obtain ⟨_,_,_,_,o,_,_,e,ex,_⟩:=I.hok p _ hk
     exact ⟨o,e,ex⟩
   obtain ⟨o,e,ex⟩:=z
   refine ⟨⟨o,e,ex.1⟩,fun a e2=>?_⟩
   cases e2
   exact ⟨o,e,ex.2.1⟩
  ·obtain ⟨o,_,_,_,e,ex,_⟩:=I.hok p _ hk
   refine ⟨⟨o,e,ex.1⟩,fun a e2=>?_⟩
   cases e2
   exact ⟨o,e,ex.2.1⟩
 | _=>exact False.elim ty
def tBM0 (K:PySem.W.Frag) (T:String) (r:V→List V→Hp→VK→Prop) (to:TE):TE:=fun σ H Q=>to σ H fun x H1=>tyV K T x H1∧r x [] H1 Q
def tBM (K:PySem.W.Frag) (T:String) (r:V→List V→Hp→VK→Prop) (to:TE) (t:TA):TE:=fun σ H Q=>to σ H fun x H1=>tyV K T x H1∧t σ H1 fun xs H2=>r x xs H2 Q
variable {o e:Expr} {es:List Expr} {to:TE} {t:TA} {name:Str} {apos cpos:Pos} {T id:String} {r:V→List V→Hp→VK→Prop}
theorem pe_bm0 (pa:PlainAttrs T) (slot:Slot T name id) (hty:typeOf (.builtin id)=pure (.type "method_descriptor")) (hm:MtR X id r) (ho:PE X o to)
  (hbase:attributeBase o name X.env (eval o X.env)=eval o X.env:=by rfl) (hline:(apos.endLine == cpos.line)=true:=by rfl):PE X (.Call (.Attribute o name apos) [] [] cpos) (tBM0 X.K T r to):=by
 intro pins s σ H Q I h
 refine wpAny_Call_method0_late hbase hline (thn (ho pins s σ H _ I h) fun v s1 ⟨x,H1,I1,r1,ty,q1⟩=>?_)
 obtain ⟨h1,h2⟩:=tyV_is I1 r1 ty
 exact ⟨T,id,pa,slot,hty,h1,h2,Calls.callWith_builtin rfl (PySem.evalArgs_none (hm pins s1 σ H1 x [] v [] Q I1 r1 .nil q1))⟩
theorem bf (pa:PlainAttrs T) (slot:Slot T name id) (hty:typeOf (.builtin id)=pure (.type "method_descriptor")) (hm:MtR X id r) (ho:PE X o to) (ha:PA X (e::es) t)
  (hbase:attributeBase o name X.env (eval o X.env)=eval o X.env:=by rfl)
  (hfew:((backTo cpos (starEach (e::es) X.env)).all (fun x=>!x.1) && (backToKw cpos (keywordEach [] X.env)).all (fun x=>x.1.isSome)
   && decide ((e::es).length+([]:List Keyword).length+(if ([]:List Keyword).isEmpty then 0 else 1)<30))=true:=by rfl)
  (hline:(apos.endLine == cpos.line)=true:=by rfl) (hs:starEach (e::es) X.env=(false,eval e X.env)::starEach es X.env:=by rfl) (hplain:(backTo cpos (starEach es X.env)).any (·.1)=false:=by rfl) :
  PE X (.Call (.Attribute o name apos) (e::es) [] cpos) (tBM X.K T r to t):=by
 intro pins s σ H Q I h
 refine wpAny_Call_method_late hbase hfew hline rfl (thn (ho pins s σ H _ I h) fun v s1 ⟨x,H1,I1,r1,ty,q1⟩=>?_)
 obtain ⟨h1,h2⟩:=tyV_is I1 r1 ty
 refine ⟨T,id,pa,slot,hty,h1,h2,?_⟩
 have hA:=ha cpos pins s1 σ H1 _ I1 q1
 rw [hs] at hA ⊢
 refine Calls.callWith_builtin (by show (false || (backTo cpos (starEach es X.env)).any (·.1))=false;rw [hplain] <;> rfl) (Calls.evalArgs_plain ?_)
 exact thn hA fun us s2 ⟨vs,H2,I2,r2,q2⟩=>hm pins s2 σ H2 x vs v us Q I2 r1 r2 q2
end
end L2
namespace L2
open PySem PySem.Spec PyProof.Rows
def MtM (X:Cx) (id:String) (r:V→List V→Hp→VK→Prop):Prop:=
 ∀ (pins:List (Addr × Obj)) (s:Shared) (σ:St) (H:Hp) (x:V) (xs:List V) (v:Value) (us:List Value) (Q:VK),Inv X pins σ H s→RelV x v→Vals xs us→r x xs H Q→
  wpAny (model X.prog X.w) X.A (call (.builtin id) (v::us)) (EP X pins σ Q) X.xe s
theorem Vals.one:∀ {x:V} {us:List Value},Vals [x] us→∃ u,us=[u]∧RelV x u
 | _,_,.cons r .nil=>⟨_,rfl,r⟩
section
variable {X:Cx} {pins:List (Addr × Obj)} {σ:St} {H:Hp} {s:Shared} {l b:Addr} {xs ys zs:List V}
theorem Inv.lset {its its':List Value} {n:Nat} {f:Array Value→Array Value} {t':Nat} (I:Inv X pins σ H s) (hH:H l=some (.lst xs))
  (e:s.heap.get? l=some { cls:=.type "list",data:=.seq its.toArray n }) (hf:f its.toArray=its'.toArray) (hv:Vals ys its') (hz:ys.length≤sizeLine) :
  Inv X pins σ (upd H l (.lst ys)) { s with heap:=s.heap.update l (Obj.mapSeq f),toks:=t' }:=by
 have q:=PySem.IsL.update e f
 rw [hf] at q
 refine I.write (x:=l) (e:=l) (by rw [hH];exact trivial) (.inl rfl) (fun b' u hb hu=>(Heap.get?_update_other s.heap (Obj.mapSeq f) (Ne.symm hb)).trans hu) ⟨_,q⟩ ?_
 exact ⟨hz,its',_,hv,q⟩
theorem Inv.lnew {its:List Value} {t':Nat} (I:Inv X pins σ H s) (hv:Vals ys its) (hz:ys.length≤sizeLine) :
  Inv X pins σ (upd H s.heap.objs.size (.lst ys)) { s with heap:=s.heap.push { cls:=.type "list",data:=.seq its.toArray },toks:=t' }:=
 I.laid (fun _ _ q=>Heap.get?_push_of_some _ q) (Nat.le_refl _) ⟨hz,its,0,hv,Heap.get?_push_size _ rfl⟩
theorem Inv.fresh (I:Inv X pins σ H s):H s.heap.objs.size=none:=I.hok.fresh (Nat.le_refl _)
theorem Inv.lstM (I:Inv X pins σ H s) (hH:H l=some (.lst xs)):xs.length≤sizeLine∧∃ (its:List Value) (n:Nat),Vals xs its∧xs.length=its.length∧s.heap.get? l=some { cls:=.type "list",data:=.seq its.toArray n }:=by
 obtain ⟨z,its,n,r,e⟩:=I.hok l _ hH
 exact ⟨z,its,n,r,r.length,e⟩
end
section
variable {X:Cx}
def rAppend:V→List V→Hp→VK→Prop:=fun x vs H Q=>∃ l xs y,x=.ref l∧vs=[y]∧H l=some (.lst xs)∧xs.length<sizeLine∧Q .non (upd H l (.lst (xs++[y])))
theorem aF:MtM X "list.append" rAppend:=by
 intro pins s σ H x vs v us Q I rx rv h
 obtain ⟨l,xs,y,rfl,rfl,hH,hz,q⟩:=h
 cases rx
 obtain ⟨u,rfl,ru⟩:=rv.one
 obtain ⟨z,its,n,r,hl,e⟩:=I.lstM hH
 refine call_meets F.slot_list_append ⟨_,e,rfl⟩ F.entry_list_append (F.args_list_append_2 _ _) (PySem.list_append l its.toArray n u (by rw [List.size_toArray];omega)) ⟨e,?_⟩
 refine ⟨.non,_,I.lset (its':=its++[u]) hH e (by simp) (r.append (.cons ru .nil)) ?_,rfl,q⟩
 rw [List.length_append,List.length_singleton]
 omega
def rExtend:V→List V→Hp→VK→Prop:=fun x vs H Q=>∃ l b xs zs,x=.ref l∧vs=[.ref b]∧H l=some (.lst xs)∧H b=some (.lst zs)∧xs.length+zs.length≤sizeLine∧Q .non (upd H l (.lst (xs++zs)))
def rPop:V→List V→Hp→VK→Prop:=fun x vs H Q=>∃ l xs y,x=.ref l∧vs=[]∧H l=some (.lst xs)∧xs[xs.length-1]?=some y∧Q y (upd H l (.lst xs.dropLast))
def rPopAt:V→List V→Hp→VK→Prop:=fun x vs H Q=>∃ l xs i k y,x=.ref l∧vs=[.int i]∧H l=some (.lst xs)∧-(2 ^ 63)≤i∧i<2 ^ 63∧seqIndex? i xs.length=some k∧xs[k]?=some y∧Q y (upd H l (.lst (xs.eraseIdx k)))
def rReverse:V→List V→Hp→VK→Prop:=fun x vs H Q=>∃ l xs,x=.ref l∧vs=[]∧H l=some (.lst xs)∧Q .non (upd H l (.lst xs.reverse))
def rClear:V→List V→Hp→VK→Prop:=fun x vs H Q=>∃ l xs,x=.ref l∧vs=[]∧H l=some (.lst xs)∧Q .non (upd H l (.lst []))
def rCat:R2:=fun x y H Q=>∃ l b xs zs,x=.ref l∧y=.ref b∧H l=some (.lst xs)∧H b=some (.lst zs)∧xs.length+zs.length≤sizeLine∧∀ p,H p=none→Q (.ref p) (upd H p (.lst (xs++zs)))
theorem op_cat:OpR X (binaryOp .Add) rCat:=by
 intro pins s σ H x y v u Q I rx ry h
 obtain ⟨l,b,xs,zs,rfl,rfl,hH,hB,hz,q⟩:=h
 cases rx
 cases ry
 obtain ⟨z,its,n,r,hl,e⟩:=I.lstM hH
 obtain ⟨z2,its2,n2,r2,hl2,e2⟩:=I.lstM hB
 refine PySem.P.add_list e e2 ?_ (by rw [List.size_toArray,List.size_toArray];omega)
 have ea:its.toArray++its2.toArray=(its++its2).toArray:=by simp
 rw [ea]
 exact ⟨.ref _,_,I.lnew (t':=s.toks) (r.append r2) (by rw [List.length_append];omega),rfl,q _ I.fresh⟩
def rRep:R2:=fun x y H Q=>∃ l k xs,x=.ref l∧y=.int k∧H l=some (.lst xs)∧-(2 ^ 63)≤k∧k<2 ^ 63∧xs.length*k.toNat≤sizeLine∧
 ∀ p,H p=none→Q (.ref p) (upd H p (.lst (List.replicate k.toNat xs).flatten))
end
section
variable {prog:Program} {w:World} {A:Around} {E:Value→Shared→Prop} {s:Shared}
end
section
variable {X:Cx}
end
end L2
namespace Att
open PySem PySem.W PySem.Calls PyProof.Rows
theorem ints_of_wellAll {P:Params} {h:Heap}:∀ (ns:List Int) (vs:List Value),WellAll P h vs (ns.map WData.int)→IntsAre vs ns:=by
 intro ns
 induction ns with
 | nil=>
  intro vs w
  rw [List.map_nil] at w
  cases w
  exact .nil
 | cons n ns ih=>
  intro vs w
  rw [List.map_cons] at w
  cases w with
  | cons a b=>
   cases a
   exact .cons _ _ (ih _ b)
theorem script_of {l:OpenLaw} {n:Nat} (hn:l.most=some n) {P:Params} {h:Heap} {args:List WData} {vals:List Value}
  (hpre:l.row.toRowW.claim.pre args=true) (hwl:WellAll P h vals args) :
  ∃ a vs ns,vals=[Value.ref a]∧args=[WData.list (ns.map WData.int)]∧h.get? a=some { cls:=.type "list",data:=.seq vs.toArray }∧IntsAre vs ns∧ns.length≤n:=by
 have hsh:WShape.hasAll [] args [.list .int]=true:=(pre_splitW hpre).1
 have hc:l.pre.holds [] { args:=args }=true:=(pre_splitW hpre).2
 obtain ⟨d,r,rfl,h1,h2⟩:=hasAllW_cons hsh
 obtain rfl:=hasAllW_nil h2
 obtain ⟨xs,rfl,h3⟩:=hasW_list h1
 obtain ⟨ns,rfl⟩:=items_int h3
 have hlen:ns.length≤n:=by
  unfold OpenLaw.pre at hc
  have h4:(WTm.not (.lt (.lit (.int (n:Int))) (.len (.arg 0)))).holds [] { args:=[.list (ns.map .int)] }=true:=by
   have h4:=(holds_andW hc).1
   rw [hn] at h4
   exact h4
  have h5:=condW_of h4 (w_not (w_lt w_lit (w_len_list (w_arg rfl))))
  rw [List.length_map] at h5
  refine Nat.le_of_not_lt fun q=>?_
  have q':(n:Int)<((ns.length:Nat):Int):=by omega
  first
   | (rw [decide_eq_true q'] at h5;exact absurd h5 (by decide))
   | (simp at h5;omega)
 cases hwl with
 | cons w1 w2=>
  cases w2
  cases w1 with
  | list ho hall=>exact ⟨_,_,ns,rfl,rfl,ho,ints_of_wellAll ns _ hall,hlen⟩
theorem post_true (l:OpenLaw) (args:List WData):l.row.toRowW.claim.post args (.bool true) args=true:=
 postW_of (r:=l.row.toRowW) (X:=(true == true))
  (show WShape.has [] (.bool true) .bool=true by first | rfl | decide | simp [WShape.has,WShape.arms,WShape.armsAll])
  (show (WTm.eq .res (.lit (.bool true))).value [] { args:=args,res:=some (.bool true),after:=args }=some (.bool (true == true)) from w_eq_bool (w_res rfl) w_lit) rfl
section
variable {prog:Program} {w:World} {A:Around} {E:Value→Shared→Prop} {s:Shared} {K:Frag}
def noObjs (h:Heap):Heap:={ h with objs:=#[] }
def ledger (h:Heap) (L d:Addr):List (Addr × Obj):=(List.range h.objs.size).filterMap fun a=>if a=L∨a=d then none else (h.get? a).map fun o=>(a,o)
end
end Att
namespace L2
open PySem PySem.Spec PyProof.Rows
theorem vals_ints:∀ {vs:List Value} {ns:List Int},IntsAre vs ns→Vals (ns.map V.int) vs
 | _,_,.nil=>.nil
 | _,_,.cons n t h=>.cons ⟨t,rfl⟩ (vals_ints h)
def Only (H:Hp):Prop:=∀ b,H b=none∨∃ o xs,H b=some (.frz o (.lst xs))
theorem law_call {P:Program} {w:World} {K:PySem.W.Frag} {mg mb:Str→Option Value} {CX:CXT} {k:Nat} {fa a:Addr} {fd:FuncData} {x:Str} {sp:Sp} {s₁:Shared} {vs:List Value} {ns:List Int}
  (KX:K.In s₁.heap) (hns:s₁.heap.Ns mainGlobals mg) (hb:s₁.heap.Ns builtinsNs mb) (hbb:∀ x:Str,x≠"__name__"→mb x=bootBuiltins x) (hlim:s₁.heap.NoLimit) (hg:s₁.gens = #[])
  (ha:s₁.heap.get? a=some { cls:=.type "list",data:=.seq vs.toArray }) (hi:IntsAre vs ns) (hl:ns.length≤sizeLine) (hr:Room k callerA)
  (F:∀ base:Heap,K.In base→base.Ns mainGlobals mg→FnOk P w K mg base CX k fa fd [x] sp) (hbind:∀ (s:Shared) (u:Value),BindsTo s fd ⟨[u],[]⟩ [(x,u)])
  (hsp:∀ H:Hp,Only H→SqL K H a (ns.map V.int)→sp [.ref a] H (fun v _=>v=.bl true) fun _ _ _=>False)
  (hCX:∀ H e s',CX [] H s₁ (fun _ _ _=>False) e s'→False) :
  codeAny (model P w) callerA (.call (.ref fa) ⟨[.ref a],[]⟩) (fun r s'=>r=.ok (.ret (.bool true))∧OldK s₁.heap s'.heap∧s'.os=s₁.os∧AllBare s'.gens) s₁:=by
 have rv:=vals_ints hi
 have lenV:=hi.length
 have core:∀ H:Hp,Only H→SqL K H a (ns.map V.int)→HOk P w H s₁.heap→(∀ b,H b≠none→b=a)→(H a≠none→K.lookup a=none)→
   codeAny (model P w) callerA (.call (.ref fa) ⟨[.ref a],[]⟩) (fun r s'=>r=.ok (.ret (.bool true))∧OldK s₁.heap s'.heap∧s'.os=s₁.os∧AllBare s'.gens) s₁:=by
  intro H hO hS hok hA hK
  have base_of:∀ {b:Addr} {o:Obj},s₁.heap.get? b=some o→H b=none→(hidT s₁.heap H).get? b=some o:=fun e n=>hidT_get e n
  have noA:∀ {b:Addr} {o:Obj} {es:Array DictEntry} {ep:Nat},s₁.heap.get? b=some o→o.data=.dict es ep→H b=none:=fun {b o es ep} e d=>by
   cases q:H b with
   | none=>rfl
   | some u=>
    have e':b=a:=hA b (by rw [q];simp)
    subst e'
    rw [ha] at e;cases e
    have d':Data.seq vs.toArray _=Data.dict es ep:=d
    cases d'
  have nsK:∀ {b:Addr} {m:Str→Option Value},s₁.heap.Ns b m→(hidT s₁.heap H).Ns b m:=fun {b m} ⟨o,es,ep,e,d,r⟩=>⟨o,es,ep,base_of e (noA e d),d,r⟩
  have hKb:K.In (hidT s₁.heap H):=fun b o e=>base_of (KX b o e) (by
   cases q:H b with
   | none=>rfl
   | some u=>
    have e':b=a:=hA b (by rw [q];simp)
    subst e'
    rw [hK (by rw [q];simp)] at e;cases e)
  have hM:Mod K mg (hidT s₁.heap H):=⟨hKb,nsK hns,⟨mb,nsK hb,hbb⟩,let ⟨mc,h1,h2⟩:=hlim;⟨mc,nsK h1,h2⟩⟩
  have e0:Env0 P w K mg (hidT s₁.heap H) callerA [] s₁ H:=⟨rfl,hM,fun b o e=>of_hidT e,Nat.le_of_eq (hidT_size _ _),trivial,fun b hb=>absurd (show b∈([]:List Addr) from hb) (by simp),hok,.of_eq hg⟩
  refine codeAny_mono ((F _ hKb (nsK hns)).run callerA [] s₁ H ⟨[.ref a],[]⟩ [.ref a] [.ref a] _ _ hr e0 (hbind s₁ (.ref a)) (.cons rfl .nil) (hsp H hO hS)) fun r s' h=>?_
  cases r with
  | error e=>exact (hCX H e s' h).elim
  | ok fl=>
   cases fl with
   | next=>exact False.elim h
   | brk=>exact False.elim h
   | cont=>exact False.elim h
   | ret u=>
    obtain ⟨v,H',os,bare,un,hok',r',q⟩:=h
    have q':v=.bl true:=q
    subst q'
    obtain rfl:u=Value.bool true:=r'
    refine ⟨rfl,OldK.of_keep fun b o e=>?_,os,bare⟩
    cases q:H b with
    | none=>exact un.keep b o e q (by intro z;exact absurd (show b∈([]:List Addr) from z) (by simp)) (by simp)
    | some u=>
     rcases hO b with z | ⟨ob,xs,z⟩
     ·rw [q] at z;cases z
     ·have z2:=un.frzs b ob _ z
      obtain ⟨e1,_⟩:=hok b _ z
      obtain ⟨e2,_⟩:=hok' b _ z2
      rw [e] at e1;cases e1
      exact e2
 cases hk:K.lookup a with
 | some o=>
  have e:=KX a o hk
  rw [ha] at e
  cases e
  refine core (fun _=>none) (fun _=>.inl rfl) (.inr ⟨_,vs.toArray,_,hk,rfl,rfl,rfl,by rw [List.size_toArray,lenV];exact hl,by simpa using rv⟩) (fun b u z=>by have z':(none:Option HO)=some u:=z;cases z') (fun b z=>absurd rfl z) fun z=>absurd rfl z
 | none=>
  refine core (fun b=>if b=a then some (.frz { cls:=.type "list",data:=.seq vs.toArray } (.lst (ns.map V.int))) else none) (fun b=>?_) (.inl (.inr ⟨{ cls:=.type "list",data:=.seq vs.toArray },if_pos rfl⟩)) (fun b u z=>?_) (fun b z=>?_) fun _=>hk
  ·by_cases hb:b=a
   ·exact .inr ⟨_,_,if_pos hb⟩
   ·exact .inl (if_neg hb)
  ·by_cases hb:b=a
   ·have z':=(if_pos hb).symm.trans z
    cases z'
    subst hb
    exact ⟨ha,by rw [List.length_map];exact hl,vs,_,rv,ha⟩
   ·have z':=(if_neg hb).symm.trans z
    cases z'
  ·by_cases hb:b=a
   ·exact hb
   ·exact absurd (if_neg hb) z
end L2
namespace L2
open PySem PySem.Spec PyProof.Rows
abbrev KOf {K:PySem.W.Frag} {h:Heap} (_:K.In h):PySem.W.Frag:=K
end L2
namespace L2
open PySem PySem.Spec PyProof.Rows
def aX (s:Stmt) (j:Nat):Stmt:=match s with
 | .ClassDef _ _ _ body _ _ _ _ _ _ _=>body.getD j (.Pass ⟨0,0,0,0⟩)
 | _=>.Pass ⟨0,0,0,0⟩
def av (s:Stmt):Arguments:=match s with
 | .FunctionDef _ a _ _ _ _ _ _ _ _=>a
 | _=>{ posonlyargs:=[],args:=[],vararg:=none,kwonlyargs:=[],kw_defaults:=[],kwarg:=none,defaults:=[] }
def ap (s:Stmt):List Stmt:=match s with
 | .FunctionDef _ _ b _ _ _ _ _ _ _=>b
 | _=>[]
def ag (s:Stmt):Scope:=match s with
 | .FunctionDef _ _ _ _ _ _ sc _ _ _=>sc
 | _=>{ kind:=.function,names:=[],isGenerator:=false,isCoroutine:=false }
abbrev CX0:CXT:=fun _ _ _ _ _ _=>False
abbrev E0:XK:=fun _ _ _=>False
theorem aq {X:Cx}:cI CX0 X E0:=fun _ _ _ _ _ _ _ h=>h.elim
structure Fun (K:PySem.W.Frag) (x qual:Str) (st:Stmt) (f:Addr) (fd:FuncData):Prop where
 ex:∃ (oc:Value) (od:Option Addr) (kV doc pm:Value) (an:Option Addr) (cdv ct:Value) (osl:Array (Option Value)),
  fd=PySem.W.fnOf x qual (av st) (ap st) (ag st) .none kV doc pm an cdv ct∧K.lookup f=some ⟨oc,od,.func fd,osl⟩∧PySem.W.codeIn K cdv qual=true
 kp:PySem.W.keepIn K (.ref f)=true
section
variable {P:Program} {w:World} {K:PySem.W.Frag} {mg:Str→Option Value} {base:Heap}
theorem Fun.ok {x qual:Str} {st:Stmt} {f:Addr} {fd:FuncData} {N ps:List Str} {k:Nat} {sp:Sp} (F:Fun K x qual st f fd) (S:FnScope N ps (ag st)) (len:∀ vs H Q E,sp vs H Q E→vs.length=ps.length)
  (hbody:∀ (cdv:Value) (A:Around) (outer:List Env) (s:Shared) (H:Hp) (vs:List V) (Q:VK) (E:XK),Room k (A.deeper (envOfC qual (ag st) s.heap.objs.size f cdv))→sp vs H Q E→
   ∃ t,PSs (aS CX0 P w K mg base N qual (ag st) f cdv A outer s H E).nox (ap st) t∧t { nx:=fun _ H'=>Q .non H',rt:=Q } (dE N vs) H):FnOk P w K mg base CX0 (k+1) f fd ps sp:=by
 obtain ⟨oc,od,kV,doc,pm,an,cdv,ct,osl,rfl,lk,hcd⟩:=F.ex
 refine fn_of lk hcd S len fun A outer s H vs Q E hr hsp=>?_
 obtain ⟨t,h,q⟩:=hbody cdv A outer s H vs Q E hr hsp
 exact ⟨t,h.nox,q⟩
theorem Fun.binds {x qual:Str} {st:Stmt} {f:Addr} {fd:FuncData} {ps:List Str} (F:Fun K x qual st f fd)
  (h:∀ (kV doc pm:Value) (an:Option Addr) (cdv ct:Value) (us:List Value),us.length=ps.length→bindArgs (PySem.W.fnOf x qual (av st) (ap st) (ag st) .none kV doc pm an cdv ct) ⟨us,[]⟩=pure (ps.zip us)):Binds K fd ps []:=by
 obtain ⟨oc,od,kV,doc,pm,an,cdv,ct,osl,rfl,lk,hcd⟩:=F.ex
 exact .all (h kV doc pm an cdv ct)
theorem aH {x qual:Str} {st:Stmt} {f:Addr} {oc:Value} {od an:Option Addr} {osl:Array (Option Value)} {kV doc pm cdv ct:Value} (l:K.lookup f=some ⟨oc,od,.func (PySem.W.fnOf x qual (av st) (ap st) (ag st) .none kV doc pm an cdv ct),osl⟩)
  (c:PySem.W.codeIn K cdv qual=true) (k:PySem.W.keepIn K (.ref f)=true):Fun K x qual st f (PySem.W.fnOf x qual (av st) (ap st) (ag st) .none kV doc pm an cdv ct):=⟨⟨oc,od,kV,doc,pm,an,cdv,ct,osl,rfl,l,c⟩,k⟩
end
theorem cm {A:Around} {k:Nat} (hr:Room k A):A.units+1<cLine:=Nat.lt_of_le_of_lt (Nat.add_le_add_left (by decide:1≤64) _) hr.units
theorem aL {n:Nat} (h:n≤1000):n<sizeLine:=Nat.lt_of_le_of_lt h (by decide)
section
variable {X:Cx}
theorem pv (i:Nat) {x:Str} {pos:Pos} (hN:X.N[i]?=some x:=by rfl) (hv:Vis X.env.scope x:=by first | exact Or.inl rfl | exact Or.inr (Or.inl rfl) | exact Or.inr (Or.inr rfl)) (hd:(x == ("__debug__":Str))=false:=by decide)
  (hcd:(x == ("__classdict__":Str))=false:=by decide):PE X (.Name x pos) (tVar i):=pe_var hN hv hd hcd
end
theorem iteF {A B:Prop} (h:B):if false=true then A else B:=by
 rw [if_neg Bool.false_ne_true]
 exact h
theorem iteT {A B:Prop} (h:A):if true=true then A else B:=by
 rw [if_pos rfl]
 exact h
theorem ite2 {c A B:Prop} [Decidable c] (h1:c→A) (h2:¬ c→B):if c then A else B:=by
 by_cases h:c
 ·rw [if_pos h]
  exact h1 h
 ·rw [if_neg h]
  exact h2 h
theorem iteNS {c A B:Prop} [Decidable c] (hc:c) (h:B):if (!decide c)=true then A else B:=by
 rw [decide_eq_true hc]
 exact iteF h
def Same (H H':Hp):Prop:=∀ b o,H b=some o→H' b=some o
theorem Same.refl (H:Hp):Same H H:=fun _ _ h=>h
theorem Same.trans {H H1 H2:Hp} (a:Same H H1) (b:Same H1 H2):Same H H2:=fun c o h=>b c o (a c o h)
theorem Same.free {H H':Hp} (e:Same H H') {l:Addr} (h:H' l=Option.none):H l=Option.none:=by
 cases q:H l with
 | none=>rfl
 | some o=>
  rw [e l o q] at h
  cases h
theorem Same.seq {K:PySem.W.Frag} {H H':Hp} {a:Addr} {xs:List V} (e:Same H H') (h:SqL K H a xs):SqL K H' a xs:=by
 rcases h with (h | ⟨o,h⟩) | h
 ·exact .inl (.inl (e _ _ h))
 ·exact .inl (.inr ⟨o,e _ _ h⟩)
 ·exact .inr h
end L2
set_option maxHeartbeats 4000000
set_option exponentiation.threshold 300
namespace L2
open PySem PySem.Spec PyProof.Rows
section
variable {X:Cx}
theorem bits_le {k:Int} {n:Nat} (h:k.natAbs<2 ^ n):Builtin.Int.intBits k≤n:=by
 unfold Builtin.Int.intBits
 split
 ·exact Nat.zero_le _
 ·rename_i h0
  have hz:k.natAbs≠0:=by
   intro z
   apply h0
   have:k=0:=by omega
   simp [this]
  have:k.natAbs.log2<n:=(Nat.log2_lt hz).mpr h
  omega
def CMulB (i j:Int):Prop:=i.natAbs<2 ^ 9000∧j.natAbs<2 ^ 9000
theorem CMulB.ok {i j:Int} (h:CMulB i j):IntMulOk i j:=by
 refine IntMulOk.of_bits (Nat.le_trans (bits_le h.1) (by decide)) (Nat.le_trans (bits_le h.2) (by decide))
theorem a6:OpR X (binaryOp .Mult) (rI CMulB fun i j=>.int (i*j)):=opI fun _ _ _ _ _ _ _ hc q=>mul_int q hc.ok
def CDivB (_ j:Int):Prop:=j≠0∧j.natAbs<2 ^ 9000
theorem CDivB.ok {i j:Int} (h:CDivB i j):Builtin.divisionGoesByPylong i j=false:=
 PyProof.noPylong_of_log2 ((Nat.log2_lt (by have:=h.1;omega)).mpr h.2)
theorem bG:OpR X (binaryOp .FloorDiv) (rI CDivB fun i j=>.int (i.fdiv j)):=opI fun _ _ _ _ _ _ _ hc q=>floordiv_int hc.1 q (.inl hc.ok)
def rIsI (K:PySem.W.Frag) (c:Value):List V→Hp→VK→Prop:=fun vs H Q=>∃ x y t b,vs=[x,y]∧(∀ u,RelV y u→u=c)∧TyOf K H x t∧PySem.W.kitOne K t c=some b∧Q (.bl b) H
theorem eX {c:Value}:gj X (.builtin "isinstance") (rIsI X.K c):=by
 intro pins s σ H xs us Q I r h
 obtain ⟨x,y,t,b,rfl,hc,ty,e,q⟩:=h
 cases r with
 | cons r1 r2=>
  cases r2 with
  | cons r3 r4=>
   cases r4
   have:=hc _ r3
   subst this
   exact isinst_ok I r1 ty e fun tk=>⟨.bl b,H,I.tok tk,rfl,q⟩
end
section
variable {X:Cx}
def b9 (X:Cx) (pins:List (Addr × Obj)) (N':List Str) (scope:Scope) (cl:List (Str × Addr)) (C:Addr) (fp:List Addr) (s:Shared) (H:Hp):Cx:=
 { X with N:=N',s₀:=s,H₀:=H,env:=compEnvC scope cl C X.env,outer:=X.stack,stack:=X.stack,ex:=fp,fn:=fun _=>false,pn:=X.pn++pins,xe:=fun _ _=>False }
structure Clos (X:Cx) (scope:Scope) (cl:List (Str × Addr)):Prop where
 clos:closureFor scope X.env=pure cl
 sub:∀ y c,cl.lookup y=some c→X.env.cells.lookup y=some c
 has:∀ y,((relabel scope X.env).names.lookup y=some .cell∨(relabel scope X.env).names.lookup y=some .free)→∃ c,cl.lookup y=some c
theorem relabel_none {scope:Scope} {env:Env} (hf:∀ x∈scope.names,x.2≠.free):relabel scope env=scope:=by
 unfold relabel
 have:(scope.names.map fun (n,k)=>if (k == NameKind.free && env.scope.kind == .function && env.kindOf n == some .cell) then (n,NameKind.cell) else (n,k))=scope.names:=by
  refine map_eq_self fun x hx=>?_
  obtain ⟨n,k⟩:=x
  have h1:(k == NameKind.free)=false:=by simpa using hf _ hx
  simp [h1]
 rw [this]
theorem Clos.none {scope:Scope} (hf:∀ x∈scope.names,x.2≠.free) (hc:∀ x∈scope.names,x.2≠.cell):Clos X scope []:=by
 refine ⟨closureFor_none hf,fun y c h=>by simp at h,fun y h=>?_⟩
 rw [relabel_none hf] at h
 rcases h with h | h
 ·exact absurd rfl (hc _ (PySem.mem_of_lookup h))
 ·exact absurd rfl (hf _ (PySem.mem_of_lookup h))
def Reads (X:Cx) (scope:Scope) (rest:List Str) (sel:St→St):Prop:=
 ∀ σ,(sel σ).length=rest.length∧∀ (i:Nat) (y:Str) (v:V),rest[i]?=some y→(sel σ)[i]?=some (some v)→∃ j:Nat,X.N[j]?=some y∧σ[j]?=some (some v)∧X.env.scope.names.lookup y=some .cell∧(relabel scope X.env).names.lookup y=some .cell
def tComp (wi:TI) (te:TE) (sel:St→St):TE:=fun σ H Q=>wi σ H fun J H1=>∀ l,H1 l=none→∃ W:Nat→Nat→Hp→Prop,(∃ m,W 0 m (upd H1 l (.lst [])))∧∀ i m H,W i m H→
 (J.stop i H∧Q (.ref l) H)∨(J.go i H∧∀ x H',J.yld i H x H'→te (some x::sel σ) H' fun y H2=>∃ ys,H2 l=some (.lst ys)∧ys.length<sizeLine∧∃ m',m'<m∧W (i+1) m' (upd H2 l (.lst (ys++[y]))))
end
end L2
namespace L2
open PySem PySem.Spec PyProof.Rows
theorem ifV {k m:Int} {A B:Prop} (h1:k=m→A) (h2:k≠m→B):if decide (V.int k=V.int m)=true then A else B:=by
 by_cases h:k=m
 ·rw [if_pos (by rw [h];exact decide_eq_true rfl)]
  exact h1 h
 ·rw [if_neg (by rw [decide_eq_false (by intro z;exact h (V.int.inj z))];decide)]
  exact h2 h
theorem ifB {c A B:Prop} [Decidable c] (h1:c→A) (h2:¬ c→B):if decide c=true then A else B:=by
 by_cases h:c
 ·rw [if_pos (decide_eq_true h)]
  exact h1 h
 ·rw [if_neg (by rw [decide_eq_false h];decide)]
  exact h2 h
theorem fA {c:Bool} {A B:Prop} (h:c=true) (a:A):if c=true then A else B:=by
 rw [if_pos h]
 exact a
theorem c6 {c:Bool} {A B:Prop} (h:c=false) (b:B):if c=true then A else B:=by
 rw [if_neg (by rw [h];decide)]
 exact b
theorem neV {k m:Int} (h:k≠m):decide (V.int k=V.int m)=false:=decide_eq_false (by intro z;exact h (V.int.inj z))
end L2
namespace L2
open PySem PySem.Spec PyProof.Rows
section
variable {X:Cx} {st:Stmt} {rest:List Stmt} {t u:TS}
def tCut (t u:TS):TS:=fun D σ H=>∃ M:St→Hp→Prop,t { D with nx:=M } σ H∧∀ σ' H',M σ' H'→u D σ' H'
theorem aN (h1:PS X st t) (h2:PSs X rest u):PSs X (st::rest) (tCut t u):=by
 intro pins s σ H D I ⟨M,h,hM⟩
 refine wpAny_execs_cons (thn (h1 pins s σ H { D with nx:=M } I h) fun f s1 q=>?_)
 cases f with
 | next=>
  obtain ⟨σ',H',I',q⟩:=q
  exact h2 pins s1 σ' H' D I' (hM σ' H' q)
 | ret v=>exact q
 | brk=>exact q
 | cont=>exact q
end
def rLen (K:PySem.W.Frag):List V→Hp→VK→Prop:=fun xs H Q=>∃ p ys,xs=[.ref p]∧(SqL K H p ys∨SqT K H p ys)∧Q (.int ys.length) H
theorem a0 {X:Cx}:gj X (.builtin "len") (rLen X.K):=call_len_seq
end L2
namespace L2
open PySem
def ie (h:Heap) (e:Addr) (vs:Array Value):Option Addr→Prop
 | none=>vs[1]?=some .none
 | some T=>vs[1]?=some (.ref T)∧T≠e∧∃ oT ts,h.get? T=some oT∧oT.data=.fields ts∧ts[3]?=some .none
structure Noted (l:List Env) (e:Addr) (oe:Obj) (vs:Array Value) (tr:Option Addr) (h h':Heap):Prop where
 exc:∃ vs' T,h'.get? e=some { oe with data:=.fields vs' }∧vs'[0]?=vs[0]?∧h.objs.size≤T∧ie h' e vs' (some T)
 keep:∀ b o,b≠e→tr≠some b→b ∉ l.filterMap (·.frame)→h.get? b=some o→h'.get? b=some o
 slot:∀ b o,b≠e→tr≠some b→b∈l.filterMap (·.frame)→h.get? b=some o→∃ sl,h'.get? b=some { o with slots:=sl }
section
variable {M:Model} {A:Around} {E:Value→Shared→Prop} {s:Shared} {base:Heap} {env:Env} {outer:List Env} {L e:Addr} {oe:Obj} {vs:Array Value} {Q:Unit→Shared→Prop}
theorem mapFields_eq {o:Obj} {ws:Array Value} (hd:o.data=.fields ws) (f:Array Value→Array Value):Obj.mapFields f o = { o with data:=.fields (f ws) }:=by
 obtain ⟨c,d,dt,sl⟩:=o
 cases hd
 rfl
theorem entry_core {head:Value} {hadNext:Bool} (hfr:A.frames=some (env::outer)) (hl:s.heap.FunFrames base (env::outer)) (hf:env.frame=some L)
  (he:s.heap.get? e=some oe) (hd:oe.data=.fields vs) (hsz:1<vs.size) (h:∀ h',Noted (env::outer) e oe vs none s.heap h'→Q () { s with heap:=h' }) :
  wpAny M A (do let a ← frameOf env;let pl ← entryPlaceOf L hadNext;let b ← EntryCells.newEntry head a .none (rawInt L) .none pl;setField (.ref e) 1 b) (fun _ s'=>wpAny M A (setFlight (.ref e) none) Q E s') E s:=by
 have ne:∀ b∈(env::outer).filterMap (·.frame),b≠e:=fun b hm z=>by
  obtain ⟨_,o,ho,hnf⟩:=hl.mem hm
  rw [z,he] at ho
  cases ho
  exact hnf vs hd
 refine wpAny_bind (wpAny_frameOf_fun hfr hl hf fun h₁ hs₁=>wpAny_bind (wpAny_entryPlaceOf fun pl hpl=>?_))
 unfold EntryCells.newEntry newFields
 refine wpAny_bind (wpAny_newObj_type ?_ (hpl.sizeOk5 _ _ _ _ _))
 have a₁:h₁.get? e=some oe:=(hs₁.2.1 e fun hm=>ne e hm rfl).trans he
 generalize hot:({ cls:=.type "traceback",dict:=none,data:=.fields ([head,.ref L,.none,rawInt L,.none]++(if pl.isEmpty then List.replicate 6 Value.none else pl)).toArray }:Obj)=ot
 have fr:ot.isFreed=false:=by rw [← hot];rfl
 obtain ⟨ts,hts,h3⟩:∃ ts:Array Value,ot.data=.fields ts∧3<ts.size:=by
  refine ⟨_,by rw [← hot],?_⟩
  simp only [List.size_toArray,List.length_append,List.length_cons,List.length_nil]
  omega
 have a₂:=Heap.get?_push_of_some (h:=h₁) ot a₁
 refine wpAny_setField a₂ hd hsz ?_
 have nT:h₁.objs.size≠e:=Nat.ne_of_gt (Heap.lt_size a₁)
 have d₃:=Obj.data_mapFields hd (·.setIfInBounds 1 (Value.ref h₁.objs.size))
 have a₃:=Heap.get?_update_self (Obj.mapFields (·.setIfInBounds 1 (Value.ref h₁.objs.size))) a₂ (Obj.isFreed_of_fields d₃)
 have t₃:=(Heap.get?_update_other (h₁.push ot) (Obj.mapFields (·.setIfInBounds 1 (Value.ref h₁.objs.size))) (Ne.symm nT)).trans (Heap.get?_push_size h₁ fr)
 unfold setFlight
 refine wpAny_bind (wpAny_field a₃ d₃ (x:=.ref h₁.objs.size) (by simp [hsz]) ?_)
 rw [if_pos (show (Value.ref h₁.objs.size != Value.none)=true from by simp)]
 refine wpAny_setField t₃ hts h3 (h _ ?_)
 have old:∀ b o,b≠e→h₁.get? b=some o→(((h₁.push ot).update e (Obj.mapFields (·.setIfInBounds 1 (Value.ref h₁.objs.size)))).update h₁.objs.size (Obj.mapFields (·.setIfInBounds 3 Value.none))).get? b=some o:=fun b o hb q=>by
  rw [Heap.get?_update_other _ _ (Nat.ne_of_gt (Heap.lt_size q)),Heap.get?_update_other _ _ (Ne.symm hb)]
  exact Heap.get?_push_of_some _ q
 have e₄:=(Heap.get?_update_other ((h₁.push ot).update e (Obj.mapFields (·.setIfInBounds 1 (Value.ref h₁.objs.size)))) (Obj.mapFields (·.setIfInBounds 3 Value.none)) nT).trans a₃
 have t₄:=Heap.get?_update_self (Obj.mapFields (·.setIfInBounds 3 Value.none)) t₃ (Obj.isFreed_of_fields (Obj.data_mapFields hts _))
 refine ⟨⟨_,h₁.objs.size,by rw [mapFields_eq hd] at e₄;exact e₄,by rw [Array.getElem?_setIfInBounds_ne (by decide)],?_,by simp [hsz],nT,_,_,t₄,Obj.data_mapFields hts _,by simp [h3]⟩,fun b o nb _ hb q=>?_,fun b o nb _ hb q=>?_⟩
 ·exact Nat.le_of_eq hs₁.1.symm
 ·exact old b o nb ((hs₁.2.1 b hb).trans q)
 ·obtain ⟨sl,q₁⟩:=hs₁.2.2 b o q
  exact ⟨sl,old b _ nb q₁⟩
theorem noted_ok {tr:Option Addr} (hfr:A.frames=some (env::outer)) (hl:s.heap.FunFrames base (env::outer)) (hf:env.frame=some L)
  (he:s.heap.get? e=some oe) (hd:oe.data=.fields vs) (ht:ie s.heap e vs tr) (h:∀ h',Noted (env::outer) e oe vs tr s.heap h'→Q () { s with heap:=h' }) :
  wpAny M A (noteFrame (.ref e) env) (fun _ s'=>wpAny M A (setFlight (.ref e) none) Q E s') E s:=by
 unfold noteFrame
 simp only [hf]
 cases tr with
 | none=>
  have ht:vs[1]?=some .none:=ht
  refine wpAny_bind (wpAny_field he hd ht ?_)
  rw [if_neg (by decide)]
  exact entry_core hfr hl hf he hd (Array.getElem?_eq_some_iff.mp ht).1 h
 | some T=>
  obtain ⟨h1,nT,oT,ts,gT,dT,h3⟩:=ht
  refine wpAny_bind (wpAny_field he hd h1 ?_)
  rw [if_pos (show (Value.ref T != Value.none)=true from by simp)]
  refine wpAny_bind (wpAny_field gT dT h3 ?_)
  rw [if_neg (show ¬ ((Value.none == rawInt L)=true) from by simp [rawInt])]
  refine wpAny_bind (wpAny_setField gT dT (Array.getElem?_eq_some_iff.mp h3).1 ?_)
  have oth:∀ b,b≠T→(s.heap.update T (Obj.mapFields (·.setIfInBounds 3 Value.none))).get? b=s.heap.get? b:=fun b hb=>Heap.get?_update_other _ _ (Ne.symm hb)
  have nr:∀ b o,s.heap.get? b=some o→(∀ ws,o.data≠.fields ws)→b≠T:=fun b o hb hn q=>by
   rw [q,gT] at hb
   cases hb
   exact hn ts dT
  refine entry_core hfr (hl.of_keeps fun b o hb hn=>⟨o,(oth b (nr b o hb hn)).trans hb,rfl⟩) hf ((oth e (Ne.symm nT)).trans he) hd (Array.getElem?_eq_some_iff.mp h1).1 fun h' N=>h h' ⟨?_,?_,?_⟩
  ·obtain ⟨vs',T',q1,q2,q3,q4⟩:=N.exc
   exact ⟨vs',T',q1,q2,by rw [Heap.size_after_update] at q3;exact q3,q4⟩
  ·intro b o nb nt hb q
   exact N.keep b o nb (by intro z;cases z) hb ((oth b fun z=>nt (by rw [z])).trans q)
  ·intro b o nb nt hb q
   exact N.slot b o nb (by intro z;cases z) hb ((oth b fun z=>nt (by rw [z])).trans q)
theorem leaving_ok {tr:Option Addr} (hfr:A.frames=some (env::outer)) (hl:s.heap.FunFrames base (env::outer)) (hf:env.frame=some L)
  (he:s.heap.get? e=some oe) (hd:oe.data=.fields vs) (ht:ie s.heap e vs tr) (h:∀ h',Noted (env::outer) e oe vs tr s.heap h'→Q () { s with heap:=h' }) :
  wpAny M A (leaving env (.ref e)) Q E s:=by
 unfold leaving
 exact wpAny_bind (noted_ok hfr hl hf he hd ht h)
end
end L2
namespace L2
open PySem PySem.Spec PyProof.Rows
section
variable {P:Program} {w:World} {H:Hp} {h:Heap} {a:Addr} {o:HO}
theorem ObjOk.there (x:ObjOk P w H h a o):∃ ob,h.get? a=some ob:=by
 cases o with
 | lst xs=>obtain ⟨_,_,_,_,e⟩:=x;exact ⟨_,e⟩
 | tup xs=>obtain ⟨_,_,_,⟨_,e,_⟩⟩:=x;exact ⟨_,e⟩
 | dK kvs=>obtain ⟨_,_,_,_,o,_,_,e,_⟩:=x;exact ⟨_,e⟩
 | dT kvs=>obtain ⟨_,_,_,_,o,_,_,e,_⟩:=x;exact ⟨_,e⟩
 | set S n=>obtain ⟨o,_,_,_,e,_⟩:=x;exact ⟨_,e⟩
 | ins C dx fs=>obtain ⟨_,_,_,e,_⟩:=x;exact ⟨_,e⟩
 | own y=>exact x
 | xd fs=>obtain ⟨_,⟨_,_,_,e,_⟩,_⟩:=x;exact ⟨_,e⟩
 | rng lo hi=>obtain ⟨_,_,_,e⟩:=x;exact ⟨_,e⟩
 | frz ob u=>obtain ⟨e,_⟩:=x;exact ⟨_,e⟩
 | tbl ps=>exact ⟨_,(show h.get? a=some _ from x)⟩
 | met f y=>exact ⟨_,(show h.get? a=some _ from x)⟩
 | ext φ=>obtain ⟨_,e,_⟩:=x;exact e
theorem HOk.noObj (x:HOk P w H h) (e:h.get? a=none):H a=none:=by
 cases q:H a with
 | none=>rfl
 | some o=>
  obtain ⟨ob,z⟩:=(x a o q).there
  rw [e] at z
  cases z
end
section
variable {X:Cx} {pins:List (Addr × Obj)} {σ:St} {H H':Hp} {s s':Shared} {h':Heap}
def Off (X:Cx) (pins:List (Addr × Obj)) (b:Addr):Prop:=
 X.s₀.heap.get? b=none∧b≠X.env.locals∧b ∉ X.fs∧(∀ x c,X.env.cells.lookup x=some c→c≠b)∧∀ p∈X.pn++pins,p.1≠b
theorem Inv.off {b:Addr} (I:Inv X pins σ H s) (hex:X.ex=[]) (hb:s.heap.get? b=none):Off X pins b:=by
 have no:∀ {c:Addr} {o:Obj},s.heap.get? c=some o→c≠b:=fun e z=>by rw [z,hb] at e;cases e
 refine ⟨?_,fun z=>?_,fun z=>?_,fun x c e=>?_,fun p hp=>no (I.pin p hp).1⟩
 ·cases q:X.s₀.heap.get? b with
  | none=>rfl
  | some o=>
   obtain ⟨o',e⟩:=I.base.there b o q (by rw [hex];simp)
   rw [hb] at e
   cases e
 ·obtain ⟨m,⟨o,_,_,e,_⟩,_⟩:=I.loc
  exact no e z.symm
 ·obtain ⟨_,o,e,_⟩:=I.funs.mem z
  exact no e rfl
 ·obtain ⟨v,o,q,_⟩:=I.cell x c e
  exact no q
theorem Inv.stepO {ch:List Addr} (I:Inv X pins σ H s) (hch:∀ b∈ch,Off X pins b)
  (keep:∀ b o,b≠X.env.locals→b ∉ X.fs→b ∉ ch→s.heap.get? b=some o→H b=none→h'.get? b=some o)
  (slot:∀ b o,b≠X.env.locals→b∈X.fs→b ∉ ch→s.heap.get? b=some o→H b=none→∃ sl,h'.get? b=some { o with slots:=sl }) (free:∀ b o,b ∉ ch→s.heap.get? b=some o→H b=none→H' b=none)
  (there:∀ b o,b ∉ ch→s.heap.get? b=some o→∃ o',h'.get? b=some o')
  (tups:∀ b xs,H b=some (.tup xs)→H' b=some (.tup xs)) (frzs:∀ b o u,H b=some (.frz o u)→H' b=some (.frz o u)) (tbls:∀ b ps,H b=some (.tbl ps)→∃ more,H' b=some (.tbl (ps++more)))
  (ns:∀ m,s.heap.Ns X.env.locals m→h'.Ns X.env.locals m) (hok:HOk X.prog X.w H' h') :
  Inv X pins σ H' { s with heap:=h' }:=by
 have neL:∀ b o,X.s₀.heap.get? b=some o→b≠X.env.locals:=fun b o e=>Nat.ne_of_lt (Nat.lt_of_lt_of_le (Heap.lt_size e) I.ok.above)
 have neC:∀ b o,X.s₀.heap.get? b=some o→b ∉ ch:=fun b o e hb=>by rw [(hch b hb).1] at e;cases e
 have cellK:∀ x c,X.env.cells.lookup x=some c→∀ v,s.heap.IsCell c v→h'.IsCell c v:=fun x c e v ⟨o,ho,hd⟩=>by
  have nch:c ∉ ch:=fun z=>(hch c z).2.2.2.1 x c e rfl
  by_cases hc:c∈X.fs
  ·obtain ⟨sl,q⟩:=slot c o (I.cne x c e) hc nch ho (I.freeC x c e)
   exact ⟨_,q,hd⟩
  ·exact ⟨o,keep c o (I.cne x c e) hc nch ho (I.freeC x c e),hd⟩
 refine ⟨I.ok,I.os,I.bare,⟨fun b o e n hb hx=>?_,fun b o e n hb hx=>?_,fun b o e n hx=>?_,fun b o e hx=>?_,fun b xs e=>tups b xs (I.base.tups b xs e),fun b o xs e=>frzs b o xs (I.base.frzs b o xs e),fun b ps e=>?_⟩,?_,fun x c e=>?_,?_,fun x c e=>?_,fun p hp=>?_,hok,I.len⟩
 ·exact keep b o (neL b o e) hb (neC b o e) (I.base.keep b o e n hb hx) (I.base.free b o e n hx)
 ·obtain ⟨sl,e1⟩:=I.base.slot b o e n hb hx
  obtain ⟨sl',e2⟩:=slot b _ (neL b o e) hb (neC b o e) e1 (I.base.free b o e n hx)
  exact ⟨sl',e2⟩
 ·obtain ⟨o',e1⟩:=I.base.there b o e hx
  exact free b o' (neC b o e) e1 (I.base.free b o e n hx)
 ·obtain ⟨o',e1⟩:=I.base.there b o e hx
  exact there b o' (neC b o e) e1
 ·obtain ⟨m1,e1⟩:=I.base.tbls b ps e
  obtain ⟨m2,e2⟩:=tbls b _ e1
  exact ⟨m1++m2,by rw [e2,Array.append_assoc]⟩
 ·obtain ⟨m,hn,hl⟩:=I.loc
  refine ⟨m,ns m hn,fun i x v e1 e2 e3=>?_⟩
  obtain ⟨u,r,l⟩:=hl i x v e1 e2 e3
  refine ⟨u,r,?_⟩
  rcases l with l | ⟨k,c,e,z⟩
  ·exact .inl l
  ·exact .inr ⟨k,c,e,cellK x c e _ z⟩
 ·obtain ⟨v,z⟩:=I.cell x c e
  exact ⟨v,cellK x c e v z⟩
 ·obtain ⟨m,⟨o,_,_,ho,_⟩,_⟩:=I.loc
  exact free _ o (fun z=>(hch _ z).2.1 rfl) ho I.free
 ·obtain ⟨v,o,ho,hd⟩:=I.cell x c e
  exact free c o (fun z=>(hch c z).2.2.2.1 x c e rfl) ho (I.freeC x c e)
 ·obtain ⟨e,n,ne,nf,d⟩:=I.pin p hp
  have nch:p.1 ∉ ch:=fun z=>(hch p.1 z).2.2.2.2 p hp rfl
  exact ⟨keep p.1 p.2 ne nf nch e n,free p.1 p.2 nch e n,ne,nf,d⟩
theorem Inv.noted {e:Addr} {oe:Obj} {vs:Array Value} {tr:Option Addr} (I:Inv X pins σ H s) (hH:H e=none) (ho:Off X pins e) (ht:∀ T,tr=some T→H T=none∧Off X pins T)
  (N:Noted X.stack e oe vs tr s.heap h'):Inv X pins σ H { s with heap:=h' }:=by
 have any:∀ b o,b ∉ e::tr.toList→s.heap.get? b=some o→∃ sl,h'.get? b=some { o with slots:=sl }:=fun b o hb q=>by
  have n1:b≠e:=fun z=>hb (by rw [z];exact List.mem_cons_self)
  have n2:tr≠some b:=fun z=>hb (List.mem_cons_of_mem _ (by rw [z];simp))
  by_cases hs:b∈frs X.stack
  ·exact N.slot b o n1 n2 hs q
  ·exact ⟨o.slots,N.keep b o n1 n2 hs q⟩
 have kp:∀ b o,b≠X.env.locals→b ∉ X.fs→b ∉ e::tr.toList→s.heap.get? b=some o→h'.get? b=some o:=fun b o hL hb hc q=>
  N.keep b o (fun z=>hc (by rw [z];exact List.mem_cons_self)) (fun z=>hc (List.mem_cons_of_mem _ (by rw [z];simp))) (fun z=>(List.mem_cons.mp (I.stkSub b z)).elim hL hb) q
 have offs:∀ b∈e::tr.toList,H b=none∧Off X pins b:=fun b hb=>by
  rcases List.mem_cons.mp hb with z | z
  ·rw [z];exact ⟨hH,ho⟩
  ·exact ht b (by simpa using z)
 refine I.stepO (ch:=e::tr.toList) (fun b hb=>(offs b hb).2) (fun b o hL hb hc q _=>kp b o hL hb hc q) (fun b o _ _ hc q _=>any b o hc q) (fun _ _ _ _ n=>n)
  (fun b o hc q=>let ⟨_,z⟩:=any b o hc q;⟨_,z⟩) (fun _ _ q=>q) (fun _ _ _ q=>q) (fun b ps q=>⟨#[],by rw [q];simp⟩) (fun m hm=>?_) (fun b u q=>?_)
 ·obtain ⟨o,es,ep,g,r⟩:=hm
  obtain ⟨sl,g'⟩:=any _ o (fun z=>(offs _ z).2.2.1 rfl) g
  exact ⟨_,es,ep,g',r⟩
 ·refine (I.hok b u q).stay (fun c v hc g=>?_) (fun _ z=>z) fun _ _ z=>z
  have trk:H c≠none:=by
   rcases hc with z | z
   ·rw [z,q];simp
   ·rw [z];simp
  refine N.keep c v (fun z=>trk (by rw [z];exact hH)) (fun z=>trk (ht c z).1) (fun z=>trk (I.stkFree c z)) g
def XFly (X:Cx) (pins:List (Addr × Obj)) (H:Hp) (h:Heap) (x:Addr) (cls:Value) (d:Option Addr):Prop:=
 H x=none∧Off X pins x∧∃ vs sl tr,h.get? x=some ⟨cls,d,.fields vs,sl⟩∧ie h x vs tr∧∀ T,tr=some T→H T=none∧Off X pins T
def XP (X:Cx) (pins:List (Addr × Obj)) (σ:St) (E:XK) (e:Value) (s':Shared):Prop:=∃ x cls d H',e=.ref x∧Inv X pins σ H' s'∧XFly X pins H' s'.heap x cls d∧E cls d H'
def Fly (g:Heap) (H:Hp) (h:Heap) (x:Addr) (cls:Value) (d:Option Addr):Prop:=
 g.get? x=none∧H x=none∧∃ vs sl tr,h.get? x=some ⟨cls,d,.fields vs,sl⟩∧ie h x vs tr∧∀ T,tr=some T→g.get? T=none∧H T=none
def CX1 (P:Program) (w:World):CXT:=fun outer H s E e s'=>∃ x cls d H',e=.ref x∧s'.os=s.os∧AllBare s'.gens∧Un (frs outer) [] H H' s.heap s'.heap∧HOk P w H' s'.heap∧Fly s.heap H' s'.heap x cls d∧E cls d H'
theorem XP.of_call {E:XK} {e:Value} (hex:X.ex=[]) (I:Inv X pins σ H s) (h:CX1 X.prog X.w X.stack H s E e s'):XP X pins σ E e s':=by
 obtain ⟨x,cls,d,H',rfl,os,bare,un,hok,⟨f1,f2,vs,sl,tr,f3,f4,f5⟩,q⟩:=h
 exact ⟨x,cls,d,H',rfl,I.call' os un hok bare (fun b z=>absurd z (by simp)),⟨f2,I.off hex f1,vs,sl,tr,f3,f4,fun T z=>⟨(f5 T z).2,I.off hex (f5 T z).1⟩⟩,q⟩
end
section
variable {P:Program} {w:World} {K:PySem.W.Frag} {mg:Str→Option Value} {base:Heap} {N:List Str} {qual:Str} {scope:Scope} {f:Addr} {cd:Value} {A:Around} {outer:List Env} {s₀:Shared} {H₀:Hp} {E:XK}
theorem xe_of {pins:List (Addr × Obj)} {σ:St} {e:Value} {s':Shared} (h:XP (aS (CX1 P w) P w K mg base N qual scope f cd A outer s₀ H₀ E) pins σ E e s') :
  (aS (CX1 P w) P w K mg base N qual scope f cd A outer s₀ H₀ E).xe e s':=by
 obtain ⟨x,cls,d,H',rfl,I,⟨f1,f2,vs,sl,tr,f3,f4,f5⟩,q⟩:=h
 refine leaving_ok (L:=s₀.heap.objs.size) I.ok.frames I.stack rfl f3 rfl f4 fun h' Nt=>?_
 have J:=I.noted f1 f2 f5 Nt
 obtain ⟨vs',T,g1,_,g2,g3⟩:=Nt.exc
 refine ⟨x,cls,d,H',rfl,J.os,J.bare,J.base,J.hok,⟨f2.1,f1,vs',sl,some T,g1,g3,fun T' z=>?_⟩,q⟩
 cases z
 exact ⟨(I.off rfl (Heap.get?_none_of_le g2)).1,I.hok.fresh g2⟩
theorem pass1:cI (CX1 P w) (aS (CX1 P w) P w K mg base N qual scope f cd A outer s₀ H₀ E) E:=fun _ _ _ _ _ _ I h=>xe_of (XP.of_call rfl I h)
theorem Fun.okX {x qual:Str} {st:Stmt} {f:Addr} {fd:FuncData} {N ps:List Str} {k:Nat} {sp:Sp} (F:Fun K x qual st f fd) (S:FnScope N ps (ag st)) (len:∀ vs H Q E,sp vs H Q E→vs.length=ps.length)
  (hbody:∀ (cdv:Value) (A:Around) (outer:List Env) (s:Shared) (H:Hp) (vs:List V) (Q:VK) (E:XK),Room k (A.deeper (envOfC qual (ag st) s.heap.objs.size f cdv))→sp vs H Q E→
   ∃ t,PSs (aS (CX1 P w) P w K mg base N qual (ag st) f cdv A outer s H E) (ap st) t∧t { nx:=fun _ H'=>Q .non H',rt:=Q } (dE N vs) H):FnOk P w K mg base (CX1 P w) (k+1) f fd ps sp:=by
 obtain ⟨oc,od,kV,doc,pm,an,cdv,ct,osl,rfl,lk,hcd⟩:=F.ex
 exact fn_of lk hcd S len fun A outer s H vs Q E hr hsp=>hbody cdv A outer s H vs Q E hr hsp
end
end L2
namespace L2
open PySem PySem.Spec PyProof.Rows
abbrev bmV:List Value:=[.type "ValueError",.type "Exception",.type "BaseException",.type "object"]
section
variable {X:Cx} {E:XK}
def XOut (X:Cx) (E:XK):Prop:=∀ pins σ e s',XP X pins σ E e s'→X.xe e s'
theorem xout1 {P:Program} {w:World} {K:PySem.W.Frag} {mg:Str→Option Value} {base:Heap} {N:List Str} {qual:Str} {scope:Scope} {f:Addr} {cd:Value} {A:Around} {outer:List Env} {s₀:Shared} {H₀:Hp} :
  XOut (aS (CX1 P w) P w K mg base N qual scope f cd A outer s₀ H₀ E) E:=fun _ _ _ _ h=>xe_of h
def tRaise (C:Addr) (E:XK) (t:TA):TS:=fun _ σ H=>t σ H fun vs H1=>vs.length≤sizeLine∧E (.ref C) none H1
def PX (X:Cx) (e:Expr) (t:XK→TE):Prop:=
 ∀ (pins:List (Addr × Obj)) (s:Shared) (σ:St) (H:Hp) (Q:VK) (E:XK),Inv X pins σ H s→t E σ H Q→wpAny (model X.prog X.w) X.A (eval e X.env) (EP X pins σ Q) (XP X pins σ E) s
def PSX (X:Cx) (st:List Stmt) (t:XK→TS):Prop:=
 ∀ (pins:List (Addr × Obj)) (s:Shared) (σ:St) (H:Hp) (D:Ends) (E:XK),Inv X pins σ H s→t E D σ H→wpAny (model X.prog X.w) X.A (execs st X.env) (SP X pins D) (XP X pins σ E) s
variable {k:Nat} {f C:Addr} {fd:FuncData} {ps:List Str} {sp:Sp} {dvs:List V} {ds:List Value} {x m:Str} {p pos apos:Pos} {e o:Expr} {es:List Expr} {ta:TE} {t:TA}
theorem run_fnX {pins:List (Addr × Obj)} {σ:St} {H:Hp} {s:Shared} {Q:VK} {us:List Value} {vs:List V} (F:FnOk X.prog X.w X.K X.mg X.base (CX1 X.prog X.w) k f fd ps sp) (hr:Room k X.A) (hb:Binds X.K fd ps ds) (hd:Vals dvs ds) (hex:X.ex=[])
  (I:Inv X pins σ H s) (r:Vals vs us) (h:sp (vs++dvs) H Q E):wpAny (model X.prog X.w) X.A (call (.ref f) us) (EP X pins σ Q) (XP X pins σ E) s:=by
 have r2:Vals (vs++dvs) (us++ds):=r.append hd
 have hl:(us++ds).length=ps.length:=by rw [← r2.length];exact F.len _ _ _ _ h
 refine wpAny_call (codeAny_mono (F.run X.A X.stack s H ⟨us,[]⟩ (us++ds) (vs++dvs) Q E hr I.env0 (hb s us I.kIn hl) r2 h) fun r s' hq=>?_)
 cases r with
 | error e=>exact XP.of_call hex I hq
 | ok fl=>
  cases fl with
  | ret u=>exact I.after hq
  | next=>exact False.elim hq
  | brk=>exact False.elim hq
  | cont=>exact False.elim hq
theorem px_call (F:FnOk X.prog X.w X.K X.mg X.base (CX1 X.prog X.w) k f fd ps sp) (hr:Room k X.A) (hg:Gl X x) (hm:X.mg x=some (.ref f)) (hk:PySem.W.keepIn X.K (.ref f)=true) (hb:Binds X.K fd ps ds) (hd:Vals dvs ds) (hex:X.ex=[])
  (ha:PA X.nox (e::es) t) (hdb:(x == ("__debug__":Str))=false:=by decide) (he:starEach (e::es) X.env=(false,eval e X.env)::starEach es X.env:=by rfl) (hpl:(backTo pos (starEach es X.env)).any (·.1)=false:=by rfl) :
  PX X (.Call (.Name x p) (e::es) [] pos) (fun E=>tCall sp dvs E t):=by
 intro pins s σ H Q E I h
 refine wpAny_Call_Name_kw (dP I hg hm ?_ hdb)
 refine PySem.W.callWith_K (h₀:=X.base) I.ok.mod.kin hk (wpAny_mono (ha pos pins s σ H _ (I.wish _) h) (fun us s1 ⟨vs,H1,I1,r,q⟩=>⟨I1.kIn,?_⟩) fun _ _ z=>z.elim) he hpl
 exact run_fnX F hr hb hd hex I1.unwish r q
def PSx (X:Cx) (st:Stmt) (t:XK→TS):Prop:=
 ∀ (pins:List (Addr × Obj)) (s:Shared) (σ:St) (H:Hp) (D:Ends) (E:XK),Inv X pins σ H s→t E D σ H→wpAny (model X.prog X.w) X.A (exec st X.env) (SP X pins D) (XP X pins σ E) s
theorem psx_set {i:Nat} {y:Str} {te:XK→TE} {pos':Pos} (hN:X.N.Nodup) (hi:X.N[i]?=some y) (hx:Loc X.env.scope y) (he:PX X e te) (hs:swapsWith e (some (.Name y pos')) pos.line X.env=pure false:=by rfl)
  (hf:X.fn y=true∨X.env.scope.names.lookup y=some .local:=by first | exact .inl rfl | exact .inr rfl | assumption):PSx X (.Assign [.Name y pos'] e pos) (fun E=>tAsg (te E) (gName i)):=by
 intro pins s σ H D E I h
 refine wpAny_Assign_Name (thn (he pins s σ H _ E I h) fun v s1 ⟨y,H1,I1,r1,q1⟩=>?_) hs
 exact gN I1 hN hi hx r1 (fun s2 I2=>⟨_,H1,I2,q1⟩) hf
theorem pssx_one {st:Stmt} {t:XK→TS} (h1:PSx X st t):PSX X [st] t:=by
 intro pins s σ H D E I h
 refine wpAny_execs_cons (thn (h1 pins s σ H D E I h) fun f s1 q=>?_)
 cases f with
 | next=>exact wpAny_execs_nil q
 | ret v=>exact q
 | brk=>exact q
 | cont=>exact q
end
section
variable {X:Cx}
abbrev Cx.hnd (X:Cx) (x:Addr):Cx:={ X with A:=X.A.mark (some (.ref x)),calm:=false,xe:=fun _ _=>False }
theorem Cx.Ok.hnd {x:Addr} (ok:X.Ok):(X.hnd x).Ok:=⟨ok.mod,ok.kind,ok.glob,ok.blt,ok.above,ok.inj,ok.has,ok.cab,(fun z=>nomatch z),ok.frames,ok.stk,ok.exf,ok.bs,ok.bsz,ok.noex,ok.exfs,ok.funs,ok.frf⟩
variable {pins:List (Addr × Obj)} {σ:St} {H:Hp} {s:Shared} {x:Addr}
theorem Inv.hnd (I:Inv X pins σ H s):Inv (X.hnd x) pins σ H s:=⟨I.ok.hnd,I.os,I.bare,I.base,I.loc,I.cell,I.free,I.freeC,I.pin,I.hok,I.len⟩
theorem Inv.unhnd (ok:X.Ok) (I:Inv (X.hnd x) pins σ H s):Inv X pins σ H s:=⟨ok,I.os,I.bare,I.base,I.loc,I.cell,I.free,I.freeC,I.pin,I.hok,I.len⟩
theorem SP.unhnd {D:Ends} {f:Flow} {s':Shared} (ok:X.Ok) (h:SP (X.hnd x) pins D f s'):SP X pins D f s':=by
 cases f with
 | next=>obtain ⟨σ',H',I,q⟩:=h;exact ⟨σ',H',I.unhnd ok,q⟩
 | brk=>obtain ⟨σ',H',I,q⟩:=h;exact ⟨σ',H',I.unhnd ok,q⟩
 | cont=>obtain ⟨σ',H',I,q⟩:=h;exact ⟨σ',H',I.unhnd ok,q⟩
 | ret u=>obtain ⟨v,σ',H',I,r,q⟩:=h;exact ⟨v,σ',H',I.unhnd ok,r,q⟩
def XO (x C:Addr) (d:Option Addr):HO:=.ext fun h=>∃ vs sl,h.get? x=some ⟨.ref C,d,.fields vs,sl⟩
theorem Inv.track {o:HO} (I:Inv X pins σ H s) (hn:H x=none) (ho:Off X pins x) (new:ObjOk X.prog X.w (upd H x o) s.heap x o):Inv X pins σ (upd H x o) s:=by
 have ne:∀ b u,H b=some u→b≠x:=fun b u e z=>by rw [z,hn] at e;cases e
 have nx:∀ b,b≠x→H b=none→upd H x o b=none:=fun b hb e=>by rw [ak hb];exact e
 refine ⟨I.ok,I.os,I.bare,⟨I.base.keep,I.base.slot,fun b u e n hx=>nx b (fun z=>by rw [z,ho.1] at e;cases e) (I.base.free b u e n hx),I.base.there,fun b xs e=>?_,fun b u v e=>?_,fun b ps e=>?_⟩,
  I.loc,I.cell,nx _ (Ne.symm ho.2.1) I.free,fun y c e=>nx c (ho.2.2.2.1 y c e) (I.freeC y c e),fun p hp=>?_,fun b u e=>?_,I.len⟩
 ·have q:=I.base.tups b xs e
  rw [ak (ne b _ q)]
  exact q
 ·have q:=I.base.frzs b u v e
  rw [ak (ne b _ q)]
  exact q
 ·obtain ⟨more,q⟩:=I.base.tbls b ps e
  exact ⟨more,by rw [ak (ne b _ q)];exact q⟩
 ·obtain ⟨e,n,r⟩:=I.pin p hp
  exact ⟨e,nx p.1 (ho.2.2.2.2 p hp) n,r⟩
 ·by_cases hb:b=x
  ·subst hb
   rw [ad] at e
   cases e
   exact new
  ·rw [ak hb] at e
   exact (I.hok b u e).stay (fun _ _ _ q=>q) (fun c q=>by rw [ak (ne c _ q)];exact q) fun c xs q=>by rw [ak (ne c _ q)];exact q
theorem excMatches_K {K:PySem.W.Frag} {M:Model} {A:Around} {E:Value→Shared→Prop} {s:Shared} {e C C':Addr} {d:Option Addr} {dt:Data} {sl:Array (Option Value)} {b:Bool} {Q:Bool→Shared→Prop} (X:K.In s.heap) (he:s.heap.get? e=some ⟨.ref C,d,dt,sl⟩)
  (h1:PySem.W.instIn K (.ref C') (.type "tuple")=some false) {cd:ClassData} (h2:PySem.W.clsIn K C'=some cd) (h3:PySem.W.subIn K (.ref C') (.type "BaseException")=some true) (h4:PySem.W.subIn K (.ref C) (.ref C')=some b) (q:Q b s) :
  wpAny M A (excMatches (.ref e) (.ref C')) Q E s:=by
 have it:PySem.W.Looks M s.heap (isExcClass (.ref C')) true:=by
  unfold isExcClass
  refine PySem.W.Looks.andThen (a:=true) ?_ (PySem.W.looks_subIn X h3)
  unfold PySem.W.clsIn at h2
  split at h2
  ·rename_i ho
   intro A' Q' E' s' k q'
   unfold isType loadHead
   exact wpAny_bind (wpAny_loadPart (k _ _ (X _ _ ho)) (wpAny_pure q'))
  ·cases h2
 have ty:PySem.W.Looks M s.heap (typeOf (.ref e)) (.ref C):=(PySem.W.Looks.ld he).andThen .now
 unfold excMatches
 refine wpAny_bind ((PySem.W.looks_instIn X h1).here ?_)
 simp only [Bool.false_eq_true,if_false]
 refine wpAny_bind (wpAny_pure ?_)
 simp only [List.forIn_cons,List.forIn_nil]
 refine wpAny_bind (wpAny_bind ?_)
 refine wpAny_bind (it.here ?_)
 simp only [Bool.not_true,Bool.false_eq_true,if_false]
 refine wpAny_pure (wpAny_pure (wpAny_bind (ty.here (wpAny_bind (wpAny_bind (wpAny_bind ((PySem.W.looks_subIn X h4).here ?_)))))))
 cases b with
 | true=>exact wpAny_pure (wpAny_pure (wpAny_pure q))
 | false=>exact wpAny_pure (wpAny_pure (wpAny_pure q))
theorem flight_same {M:Model} {A:Around} {E:Value→Shared→Prop} {vs:Array Value} {T:Addr} {c:Value} {d:Option Addr} {sl:Array (Option Value)} {Q:Unit→Shared→Prop} (he:s.heap.get? x=some ⟨c,d,.fields vs,sl⟩) (ht:ie s.heap x vs (some T)) (q:Q () s):wpAny M A (setFlight (.ref x) none) Q E s:=by
 obtain ⟨h1,_,oT,ts,gT,dT,h3⟩:=ht
 refine wpAny_setFlight_none he rfl h1 gT dT (Array.getElem?_eq_some_iff.mp h3).1 ?_
 rw [Heap.update_setField_same s.heap T oT ts 3 .none gT dT h3]
 exact q
theorem fS {M:Model} {A:Around} {E:Value→Shared→Prop} {i:Nat} {n:Str} {pos:Pos} {Q:Unit→Shared→Prop} (I:Inv X pins σ H s) (hN:X.N.Nodup) (hi:X.N[i]?=some n) (hk:X.env.scope.names.lookup n=some .local)
  (h:∀ s',Inv X pins (σ.set i none) H s'→Q () s'):wpAny M A (do bindName X.env n .none;unbindBehindTheSuite X.env n pos) Q E s:=by
 obtain ⟨m,hn,hl⟩:=id I.loc
 have hcls:(X.env.scope.kind == .class || (X.env.scope.kind == .module && X.env.locals != X.env.globals))=false:=by rw [I.ok.kind];rfl
 have hiσ:i < σ.length:=by rw [I.len];exact (List.getElem?_eq_some_iff.mp hi).1
 have cne:=I.cne
 obtain ⟨oL,_,_,hoL,_⟩:=id hn
 have neL:∀ b o,X.s₀.heap.get? b=some o→b≠X.env.locals:=fun b o e=>Nat.ne_of_lt (Nat.lt_of_lt_of_le (Heap.lt_size e) I.ok.above)
 refine wpAny_nameGoes_keeps hk hn hcls fun h' v hn' hs=>h _ ⟨I.ok,I.os,I.bare,⟨fun b o e n hb hx=>?_,fun b o e n hb hx=>?_,I.base.free,fun b o e hx=>?_,I.base.tups,I.base.frzs,I.base.tbls⟩,⟨_,hn',fun j y v' e1 e2 e3=>?_⟩,fun y c e=>?_,I.free,I.freeC,fun p hp=>?_,fun b u e=>?_,by simpa using I.len⟩
 ·exact (hs.2 b (neL b o e)).trans (I.base.keep b o e n hb hx)
 ·obtain ⟨sl,e1⟩:=I.base.slot b o e n hb hx
  exact ⟨sl,(hs.2 b (neL b o e)).trans e1⟩
 ·obtain ⟨o',e1⟩:=I.base.there b o e hx
  exact ⟨o',(hs.2 b (neL b o e)).trans e1⟩
 ·by_cases hj:j=i
  ·subst hj
   rw [List.getElem?_set_self hiσ] at e2
   cases e2
  ·rw [List.getElem?_set_ne (Ne.symm hj)] at e2
   obtain ⟨u',r',q⟩:=hl j y v' e1 e2 e3
   refine ⟨u',r',?_⟩
   rcases q with ⟨k,e⟩ | ⟨k,c,e,z⟩
   ·refine .inl ⟨k,?_⟩
    have:y≠n:=fun e=>hj (nodup_ix hN e1 (e ▸ hi))
    simp [this,e]
   ·exact .inr ⟨k,c,e,z.sameBut hs (cne y c e)⟩
 ·obtain ⟨w',z⟩:=I.cell y c e
  exact ⟨w',z.sameBut hs (cne y c e)⟩
 ·obtain ⟨e,n,ne,nf,d⟩:=I.pin p hp
  exact ⟨(hs.2 p.1 ne).trans e,n,ne,nf,d⟩
 ·refine (I.hok b u e).stay (fun c w' hc q=>(hs.2 c ?_).trans q) (fun _ q=>q) fun _ _ q=>q
  rintro rfl
  rcases hc with z | z
  ·rw [← z,I.free] at e;cases e
  ·rw [I.free] at z;cases z
def XHeld (X:Cx) (pins:List (Addr × Obj)) (H:Hp) (h:Heap) (x:Addr) (cls:Value) (d:Option Addr):Prop:=
 H x=none∧Off X pins x∧∃ vs sl T,h.get? x=some ⟨cls,d,.fields vs,sl⟩∧ie h x vs (some T)∧H T=none∧Off X pins T
abbrev TH:=Ends→St→Value→Option Addr→Hp→Prop
def PH (X:Cx) (hs:List ExceptHandler) (t:TH):Prop:=
 ∀ (pins:List (Addr × Obj)) (s:Shared) (σ:St) (H:Hp) (D:Ends) (x:Addr) (cls:Value) (d:Option Addr),Inv X pins σ H s→XHeld X pins H s.heap x cls d→t D σ cls d H→
  wpAny (model X.prog X.w) X.A (handleBy (.ref x) X.env hs) (SP X pins D) X.xe s
structure Catches (K:PySem.W.Frag) (C:Addr):Prop where
 tu:PySem.W.instIn K (.ref C) (.type "tuple")=some false
 cl:∃ cd,PySem.W.clsIn K C=some cd
 ex:PySem.W.subIn K (.ref C) (.type "BaseException")=some true
def hNever:TH:=fun _ _ _ _ _=>False
theorem ph_never {hs:List ExceptHandler}:PH X hs hNever:=fun _ _ _ _ _ _ _ _ _ _ h=>h.elim
def hBare (K:PySem.W.Frag) (C':Addr) (t:TS) (tr:TH):TH:=fun D σ cls d H=>∃ C b,cls=.ref C∧PySem.W.subIn K (.ref C) (.ref C')=some b∧if b=true then t D σ H else tr D σ cls d H
def hAs (K:PySem.W.Frag) (C':Addr) (i:Nat) (t:TS) (tr:TH):TH:=fun D σ cls d H=>∃ C b,cls=.ref C∧PySem.W.subIn K (.ref C) (.ref C')=some b∧
 if b=true then ∀ x,H x=none→t { nx:=fun σ' H'=>D.nx (σ'.set i none) H',rt:=D.rt,bk:=fun σ' H'=>D.bk (σ'.set i none) H',ct:=fun σ' H'=>D.ct (σ'.set i none) H' } (σ.set i (some (.ref x))) (upd H x (XO x C d)) else tr D σ cls d H
theorem ph_as {y n:Str} {i:Nat} {C':Addr} {np pos:Pos} {b₀:Stmt} {suite:List Stmt} {rest:List ExceptHandler} {t:TS} {tr:TH} (hg:Gl X y) (hm:X.mg y=some (.ref C')) (hc:Catches X.K C') (hN:X.N.Nodup) (hi:X.N[i]?=some n) (hk:X.env.scope.names.lookup n=some .local)
  (hsu:∀ x,PSs (X.hnd x) (b₀ :: suite) t) (hr:PH X rest tr) (hd:(y == ("__debug__":Str))=false:=by decide):PH X (.ExceptHandler (some (.Name y np)) (some n) (b₀ :: suite) pos::rest) (hAs X.K C' i t tr):=by
 intro pins s σ H D x cls d I hx h
 obtain ⟨C,b,rfl,hsub,q⟩:=h
 obtain ⟨f1,f2,vs,sl,T,f3,f4,f5⟩:=id hx
 obtain ⟨cd,hcd⟩:=hc.cl
 refine wpAny_handleBy_cons (codeAny_handlers_test (dP (X:=X.hnd x) I.hnd hg hm (excMatches_K I.kIn f3 hc.tu hcd hc.ex hsub ?_) hd)) (by intro z;cases z)
 cases b with
 | false=>exact hr pins s σ H D x _ d I hx q
 | true=>
  have J:Inv X pins σ (upd H x (XO x C d)) s:=I.track f1 f2 ⟨⟨vs,sl,f3⟩,⟨_,f3⟩,fun h1 h2 ⟨vs',sl',e⟩ k=>⟨vs',sl',k _ e⟩⟩
  refine codeAny_handlers_suite_as (flight_same f3 f4 (gN (v:=.ref x) J hN hi (.inl hk) rfl (fun s2 J2=>?_) (.inr hk)))
  refine wpAny_mono (hsu x pins s2 _ _ _ J2.hnd (q x f1)) (fun f s3 z=>?_) fun _ _ z=>z.elim
  have z:=z.unhnd I.ok
  cases f with
  | next=>obtain ⟨σ',H',I',q'⟩:=z;exact fS I' hN hi hk fun s4 I4=>⟨_,H',I4,q'⟩
  | brk=>obtain ⟨σ',H',I',q'⟩:=z;exact fS I' hN hi hk fun s4 I4=>⟨_,H',I4,q'⟩
  | cont=>obtain ⟨σ',H',I',q'⟩:=z;exact fS I' hN hi hk fun s4 I4=>⟨_,H',I4,q'⟩
  | ret u=>obtain ⟨v,σ',H',I',r',q'⟩:=z;exact fS I' hN hi hk fun s4 I4=>⟨v,_,H',I4,r',q'⟩
def tTry (tb:XK→TS) (th:TH):TS:=fun D σ H=>tb (fun cls d H'=>th D σ cls d H') D σ H
theorem ps_try {body:List Stmt} {h₀:ExceptHandler} {hs:List ExceptHandler} {pos:Pos} {tb:XK→TS} {th:TH} (hb:PSX X body tb) (hh:PH X (h₀ :: hs) th) (hex:X.ex=[]:=by rfl) (hstk:X.stack=X.env::X.outer:=by rfl) (hfr:X.env.frame=some X.env.locals:=by rfl) :
  PS X (.Try body (h₀ :: hs) [] [] pos) (tTry tb th):=by
 intro pins s σ H D I h
 refine wpAny_Try_except (wpAny_mono (hb pins s σ H D _ I h) (fun f s1 q=>?_) fun e s1 q=>?_)
 ·cases f with
  | next=>exact wpAny_execs_nil q
  | ret v=>exact q
  | brk=>exact q
  | cont=>exact q
 ·obtain ⟨x,cls,d,H',rfl,I',⟨f1,f2,vs,sl,tr,f3,f4,f5⟩,q⟩:=q
  refine noted_ok (env:=X.env) (outer:=X.outer) (by rw [← hstk];exact I'.ok.frames) (by rw [← hstk];exact I'.stack) hfr f3 rfl f4 fun h' N=>?_
  have J:=I'.noted f1 f2 f5 (by rw [hstk];exact N)
  obtain ⟨vs',T,g1,_,g2,g3⟩:=N.exc
  exact hh pins _ σ H' D x cls d J ⟨f1,f2,vs',sl,T,g1,g3,I'.hok.fresh g2,I'.off hex (Heap.get?_none_of_le g2)⟩ q
end
end L2
namespace L2
open PySem PySem.Spec PyProof.Rows
def FnB (P:Program) (w:World) (K:PySem.W.Frag) (mg:Str→Option Value) (base:Heap) (CX:CXT) (x:Str) (k:Nat) (ps:List Str) (sp:Sp):Prop:=
 ∃ f fd,mg x=some (.ref f)∧PySem.W.keepIn K (.ref f)=true∧Binds K fd ps []∧FnOk P w K mg base CX k f fd ps sp
def MtB (P:Program) (w:World) (K:PySem.W.Frag) (mg:Str→Option Value) (base:Heap) (CX:CXT) (C:Addr) (m:Str) (k:Nat) (ps:List Str) (sp:Sp):Prop:=
 ∃ f fd,Meth K C m f∧Binds K fd ps []∧FnOk P w K mg base CX k f fd ps sp
def MkB (P:Program) (w:World) (K:PySem.W.Frag) (mg:Str→Option Value) (base:Heap) (CX:CXT) (C:Addr) (k:Nat) (ps:List Str) (dvs:List V) (sp:Sp):Prop:=
 ∃ f fd ds,Mk K C f∧Binds K fd ps ds∧Vals dvs ds∧FnOk P w K mg base CX k f fd ps sp
section
variable {P:Program} {w:World} {K:PySem.W.Frag} {mg:Str→Option Value} {base:Heap} {CX:CXT} {x m:Str} {C:Addr} {k:Nat} {ps:List Str} {sp:Sp} {dvs:List V}
end
section
variable {X:Cx} {CX:CXT} {k j:Nat} {C:Addr} {ps:List Str} {sp:Sp} {dvs:List V} {E:XK} {x m:Str} {p pos apos:Pos} {e o:Expr} {es:List Expr} {ta:TE} {t:TA}
theorem aG (F:FnB X.prog X.w X.K X.mg X.base CX x k ps sp) (hr:Room j X.A) (hx:cI CX X E) (ha:PA X (e::es) t) (hj:k≤j:=by decide) (hg:Gl X x:=by rfl) (hdb:(x == ("__debug__":Str))=false:=by decide)
  (he:starEach (e::es) X.env=(false,eval e X.env)::starEach es X.env:=by rfl) (hpl:(backTo pos (starEach es X.env)).any (·.1)=false:=by rfl):PE X (.Call (.Name x p) (e::es) [] pos) (tCall sp [] E t):=by
 obtain ⟨f,fd,a,b,c,d⟩:=F
 exact pe_call d (hr.mono hj) hg a b c .nil hx ha hdb he hpl
theorem pe_mk (F:MkB X.prog X.w X.K X.mg X.base CX C k ps dvs sp) (hr:Room j X.A) (hm:X.mg x=some (.ref C)) (hx:cI CX X E) (ha:PA X (e::es) t) (hj:k+1≤j:=by decide) (hg:Gl X x:=by rfl) (hdb:(x == ("__debug__":Str))=false:=by decide)
  (he:starEach (e::es) X.env=(false,eval e X.env)::starEach es X.env:=by rfl) (hpl:(backTo pos (starEach es X.env)).any (·.1)=false:=by rfl):PE X (.Call (.Name x p) (e::es) [] pos) (tMake C sp dvs E t):=by
 obtain ⟨f,fd,ds,a,b,c,d⟩:=F
 exact pe_make a d (hr.mono hj) hg hm b c hx ha hdb he hpl
theorem px_fn (F:FnB X.prog X.w X.K X.mg X.base (CX1 X.prog X.w) x k ps sp) (hr:Room j X.A) (ha:PA X.nox (e::es) t) (hj:k≤j:=by decide) (hg:Gl X x:=by rfl) (hex:X.ex=[]:=by rfl) (hdb:(x == ("__debug__":Str))=false:=by decide)
  (he:starEach (e::es) X.env=(false,eval e X.env)::starEach es X.env:=by rfl) (hpl:(backTo pos (starEach es X.env)).any (·.1)=false:=by rfl):PX X (.Call (.Name x p) (e::es) [] pos) (fun E=>tCall sp [] E t):=by
 obtain ⟨f,fd,a,b,c,d⟩:=F
 exact px_call d (hr.mono hj) hg a b c .nil hex ha hdb he hpl
end
def FDe (K:PySem.W.Frag) (mg:Str→Option Value) (x:Str) (st:Stmt) (ps:List Str):Prop:=∃ f fd,Fun K x x st f fd∧mg x=some (.ref f)∧Binds K fd ps []
def MDe (K:PySem.W.Frag) (C:Addr) (x qual:Str) (st:Stmt) (ps:List Str):Prop:=∃ f fd,Fun K x qual st f fd∧Meth K C x f∧Binds K fd ps []
section
variable {P:Program} {w:World} {K:PySem.W.Frag} {mg:Str→Option Value} {base:Heap} {x qual:Str} {C:Addr} {st:Stmt} {N ps:List Str} {k:Nat} {sp:Sp}
theorem FDe.ok (F:FDe K mg x st ps) (S:FnScope N ps (ag st)) (len:∀ vs H Q E,sp vs H Q E→vs.length=ps.length)
  (hbody:∀ (f:Addr) (cdv:Value) (A:Around) (outer:List Env) (s:Shared) (H:Hp) (vs:List V) (Q:VK) (E:XK),Room k (A.deeper (envOfC x (ag st) s.heap.objs.size f cdv))→sp vs H Q E→
   ∃ t,PSs (aS CX0 P w K mg base N x (ag st) f cdv A outer s H E).nox (ap st) t∧t { nx:=fun _ H'=>Q .non H',rt:=Q } (dE N vs) H):FnB P w K mg base CX0 x (k+1) ps sp:=
 let ⟨f,fd,a,b,c⟩:=F
 ⟨f,fd,b,a.kp,c,a.ok S len (hbody f)⟩
theorem MDe.ok (F:MDe K C x qual st ps) (S:FnScope N ps (ag st)) (len:∀ vs H Q E,sp vs H Q E→vs.length=ps.length)
  (hbody:∀ (f:Addr) (cdv:Value) (A:Around) (outer:List Env) (s:Shared) (H:Hp) (vs:List V) (Q:VK) (E:XK),Room k (A.deeper (envOfC qual (ag st) s.heap.objs.size f cdv))→sp vs H Q E→
   ∃ t,PSs (aS CX0 P w K mg base N qual (ag st) f cdv A outer s H E).nox (ap st) t∧t { nx:=fun _ H'=>Q .non H',rt:=Q } (dE N vs) H):MtB P w K mg base CX0 C x (k+1) ps sp:=
 let ⟨f,fd,a,b,c⟩:=F
 ⟨f,fd,b,c,a.ok S len (hbody f)⟩
theorem FDe.okX (F:FDe K mg x st ps) (S:FnScope N ps (ag st)) (len:∀ vs H Q E,sp vs H Q E→vs.length=ps.length)
  (hbody:∀ (f:Addr) (cdv:Value) (A:Around) (outer:List Env) (s:Shared) (H:Hp) (vs:List V) (Q:VK) (E:XK),Room k (A.deeper (envOfC x (ag st) s.heap.objs.size f cdv))→sp vs H Q E→
   ∃ t,PSs (aS (CX1 P w) P w K mg base N x (ag st) f cdv A outer s H E) (ap st) t∧t { nx:=fun _ H'=>Q .non H',rt:=Q } (dE N vs) H):FnB P w K mg base (CX1 P w) x (k+1) ps sp:=
 let ⟨f,fd,a,b,c⟩:=F
 ⟨f,fd,b,a.kp,c,a.okX S len (hbody f)⟩
end
def FunG (K:PySem.W.Frag) (x qual:Str) (st:Stmt) (f:Addr) (fd:FuncData):Prop:=∃ (oc:Value) (od:Option Addr) (dV kV doc pm:Value) (an:Option Addr) (cdv ct:Value) (osl:Array (Option Value)),
  fd=PySem.W.fnOf x qual (av st) (ap st) (ag st) dV kV doc pm an cdv ct∧K.lookup f=some ⟨oc,od,.func fd,osl⟩∧PySem.W.codeIn K cdv qual=true
structure FunD (K:PySem.W.Frag) (x qual:Str) (st:Stmt) (f:Addr) (fd:FuncData) (ds:Array Value):Prop where
 ex:∃ (oc:Value) (od:Option Addr) (T:Addr) (kV doc pm:Value) (an:Option Addr) (cdv ct:Value) (osl:Array (Option Value)) (o:Obj) (n:Nat),
  fd=PySem.W.fnOf x qual (av st) (ap st) (ag st) (.ref T) kV doc pm an cdv ct∧K.lookup f=some ⟨oc,od,.func fd,osl⟩∧PySem.W.codeIn K cdv qual=true∧K.lookup T=some o∧o.data=.seq ds n
section
variable {P:Program} {w:World} {K:PySem.W.Frag} {mg:Str→Option Value} {base:Heap} {x qual:Str} {C:Addr} {st:Stmt} {f:Addr} {fd:FuncData} {ds:Array Value} {N ps:List Str} {k:Nat} {sp:Sp}
theorem FunD.gen (F:FunD K x qual st f fd ds):FunG K x qual st f fd:=let ⟨oc,od,T,kV,doc,pm,an,cdv,ct,osl,_,_,e,l,c,_⟩:=F.ex;⟨oc,od,.ref T,kV,doc,pm,an,cdv,ct,osl,e,l,c⟩
theorem Fun.gen (F:Fun K x qual st f fd):FunG K x qual st f fd:=let ⟨oc,od,kV,doc,pm,an,cdv,ct,osl,e,l,c⟩:=F.ex;⟨oc,od,.none,kV,doc,pm,an,cdv,ct,osl,e,l,c⟩
theorem FunD.binds {es:List Value} (F:FunD K x qual st f fd ds)
  (h:∀ (T:Addr) (kV doc pm:Value) (an:Option Addr) (cdv ct:Value) (us:List Value),(us++es).length=ps.length→∃ k,bindArgs (PySem.W.fnOf x qual (av st) (ap st) (ag st) (.ref T) kV doc pm an cdv ct) ⟨us,[]⟩=seqItems? (.ref T) >>= k∧k (some ds)=pure (ps.zip (us++es))):Binds K fd ps es:=by
 obtain ⟨oc,od,T,kV,doc,pm,an,cdv,ct,osl,o,n,rfl,lk,hcd,lt,hd⟩:=F.ex
 intro s us KX hl
 obtain ⟨k,h1,h2⟩:=h T kV doc pm an cdv ct us hl
 exact PySem.W.binds_K KX rfl lt hd h1 h2
theorem funD_mk {T:Addr} {oc:Value} {od an:Option Addr} {osl:Array (Option Value)} {kV doc pm cdv ct:Value} {o:Obj} {n:Nat} (l:K.lookup f=some ⟨oc,od,.func (PySem.W.fnOf x qual (av st) (ap st) (ag st) (.ref T) kV doc pm an cdv ct),osl⟩)
  (c:PySem.W.codeIn K cdv qual=true) (t:K.lookup T=some o) (hd:o.data=.seq ds n):FunD K x qual st f (PySem.W.fnOf x qual (av st) (ap st) (ag st) (.ref T) kV doc pm an cdv ct) ds:=⟨⟨oc,od,T,kV,doc,pm,an,cdv,ct,osl,o,n,rfl,l,c,t,hd⟩⟩
theorem FunG.ok (F:FunG K x qual st f fd) (S:FnScope N ps (ag st)) (len:∀ vs H Q E,sp vs H Q E→vs.length=ps.length)
  (hbody:∀ (cdv:Value) (A:Around) (outer:List Env) (s:Shared) (H:Hp) (vs:List V) (Q:VK) (E:XK),Room k (A.deeper (envOfC qual (ag st) s.heap.objs.size f cdv))→sp vs H Q E→
   ∃ t,PSs (aS CX0 P w K mg base N qual (ag st) f cdv A outer s H E).nox (ap st) t∧t { nx:=fun _ H'=>Q .non H',rt:=Q } (dE N vs) H):FnOk P w K mg base CX0 (k+1) f fd ps sp:=by
 obtain ⟨oc,od,dV,kV,doc,pm,an,cdv,ct,osl,rfl,lk,hcd⟩:=F
 refine fn_of lk hcd S len fun A outer s H vs Q E hr hsp=>?_
 obtain ⟨t,h,q⟩:=hbody cdv A outer s H vs Q E hr hsp
 exact ⟨t,h.nox,q⟩
def IDe (K:PySem.W.Frag) (C:Addr) (qual:Str) (st:Stmt) (ps:List Str) (dvss:List (List V)):Prop:=∃ f fd,FunG K "__init__" qual st f fd∧Mk K C f∧∀ dvs∈dvss,∃ es,Vals dvs es∧Binds K fd ps es
theorem IDe.ok {dvss:List (List V)} (F:IDe K C qual st ps dvss) (S:FnScope N ps (ag st)) (len:∀ vs H Q E,sp vs H Q E→vs.length=ps.length)
  (hbody:∀ (f:Addr) (cdv:Value) (A:Around) (outer:List Env) (s:Shared) (H:Hp) (vs:List V) (Q:VK) (E:XK),Room k (A.deeper (envOfC qual (ag st) s.heap.objs.size f cdv))→sp vs H Q E→
   ∃ t,PSs (aS CX0 P w K mg base N qual (ag st) f cdv A outer s H E).nox (ap st) t∧t { nx:=fun _ H'=>Q .non H',rt:=Q } (dE N vs) H):∀ dvs∈dvss,MkB P w K mg base CX0 C (k+1) ps dvs sp:=fun dvs hd=>
 let ⟨f,fd,a,b,c⟩:=F
 let ⟨es,v,d⟩:=c dvs hd
 ⟨f,fd,es,b,d,v,a.ok S len (hbody f)⟩
end
end L2
namespace L2
open PySem PySem.Spec PyProof.Rows PySem.W PySem.Calls
theorem weight_mem:∀ (ns:List Int) (n:Int),n∈ns→Builtin.Int.intBits n≤WData.weightAll (ns.map WData.int)
 | m::r,n,h=>by
  rw [List.map_cons]
  show Builtin.Int.intBits n≤WData.weight (.int m)+1+WData.weightAll (r.map WData.int)
  rcases List.mem_cons.mp h with z | z
  ·subst z
   have:WData.weight (.int n)=Builtin.Int.intBits n:=by
    simp only [WData.weight,Builtin.Int.intBits]
   omega
  ·have:=weight_mem r n z
   omega
theorem bits_of_lay {ns:List Int} (h:WData.layableAll [WData.list (ns.map WData.int)]=true):∀ n∈ns,Builtin.Int.intBits n≤2 ^ 20:=fun n hn=>by
 have h1:(WData.list (ns.map WData.int)).layable=true:=by
  unfold WData.layableAll at h
  simpa using h
 have h2:=(layableW_iff.mp h1).2.2
 have h3:=weight_mem ns n hn
 exact Nat.le_trans h3 h2
theorem walk_ofB {l:PySem.W.OpenLaw} {n k:Nat} {q:Program} {loose:List Str} {XP:(Str→Option Value)→Heap→Prop} {YP:World→Heap→Prop} {d:DefRec} {K:Params→PySem.W.Frag} {CX:World→CXT} {sp:World→Sp} {x:Str}
  (hn:l.most=some n) (hn2:n≤sizeLine) (hdf:d.params.defaults=[]) (hr:Room k callerA)
  (hY:∀ (w:World) (h:Heap),YP w h→(K w.params).In h)
  (F:∀ (w:World) (mg:Str→Option Value) (fa:Addr) (h:Heap),(K w.params).In h→h.Ns mainGlobals mg→mg d.name=some (.ref fa)→
   ∃ fd:FuncData,(∀ (s:Shared) (u:Value),BindsTo s fd ⟨[u],[]⟩ [(x,u)])∧
    ∀ base:Heap,(K w.params).In base→base.Ns mainGlobals mg→FnOk l.prog w (K w.params) mg base (CX w) k fa fd [x] (sp w))
  (hsp:∀ (w:World) (H:Hp) (a:Addr) (ns:List Int),ns.length≤n→(∀ i∈ns,Builtin.Int.intBits i≤2 ^ 20)→Only H→SqL (K w.params) H a (ns.map V.int)→sp w [.ref a] H (fun v _=>v=.bl true) fun _ _ _=>False)
  (hCX:∀ (w:World) (H:Hp) (s:Shared) (e:Value) (s':Shared),CX w [] H s (fun _ _ _=>False) e s'→False) :
  PySem.W.WalkO q loose XP YP l.row.toRowW d [] (fun f vs=>PySem.call f vs):=by
 intro w s₀ s₁ mg mb G Y fa o pm cd doc dV kV ho hd hcd hD hmg hg args vals as hpre hlay hrd hwl hlo
 obtain rfl:dV=.none:=Dflts.none hD hdf
 obtain rfl:kV=.none:=Dflts.noKw hD
 obtain ⟨a,vs,ns,rfl,rfl,hobj,hints,hlen⟩:=Att.script_of hn hpre hwl
 have hbits:=bits_of_lay hlay
 have KX:=hY w _ Y
 obtain ⟨fd,hb,hF⟩:=F w mg fa _ KX G.T.g hmg
 refine enter_call (codeAny_mono (law_call KX G.T.g G.T.b G.T.builtins G.T.nolimit hg hobj hints (Nat.le_trans hlen hn2) hr hF hb (fun H hO hS=>hsp w H a ns hlen hbits hO hS) fun H e s'=>hCX w H s₁ e s') fun r s' hq=>?_)
 obtain ⟨rfl,h2,h3,h4⟩:=hq
 exact ⟨.inl ⟨.bool true,.bool true,[],rfl,fun _=>rfl,.bool true,Att.post_true l _,fun _=>⟨List.Pairwise.nil,fun _ hm=>(nomatch hm)⟩⟩,h2,h3,h4⟩
section
variable {X:Cx}
end
end L2
namespace L2
open PySem PySem.Spec PyProof.Rows
section
variable {prog:Program} {w:World} {A:Around} {E:Value→Shared→Prop} {s:Shared} {K:PySem.W.Frag} {x D:Addr} {ox:Obj} {od:Option Obj} {name:Str}
structure ExA (K:PySem.W.Frag) (D:Addr):Prop where
 ga:PySem.W.findIn K (.ref D) "__getattribute__"=some (some (.builtin "BaseException.__getattribute__"))
 gh:PySem.W.findIn K (.ref D) "__getattr__"=some none
 be:PySem.W.mroIn K D (.type "BaseException")=some true
 ca:PySem.W.findIn K (.ref D) "__class__"=some (some (.builtin "object.__class__"))
 gs:PySem.W.specialIn K (.builtin "object.__class__") "__get__"=some (some (.builtin "getset_descriptor.__get__"))
 tk:PySem.W.takesIn K (.builtin "object.__class__")=some true
 ob:PySem.W.mroIn K D (.type "object")=some true
 cl:∃ cd,PySem.W.clsIn K D=some cd
theorem exc_check {nameV:Value} {Q:Unit→Shared→Prop} (a:ExA K D) (X:K.In s.heap) (I:PySem.W.InstAt s.heap x ox D od) (hq:Q () s):wpAny (model prog w) A (checkBuiltinCall "BaseException.__getattribute__" ⟨[.ref x,nameV],[]⟩) Q E s:=by
 have hk:builtinKind "BaseException.__getattribute__"=some .slot:=by decide +kernel
 have hsplit:splitId "BaseException.__getattribute__"=some ("BaseException","__getattribute__"):=by decide +kernel
 have ha:=F.args_bexc_ga (.ref x) nameV
 have LI:PySem.W.Looks (model prog w) s.heap (isInstance (.ref x) (.type "BaseException")) true:=I.type.andThen (PySem.W.looks_mroIn X a.be)
 obtain ⟨hh,g,d,t,os⟩:=s
 simp only [checkBuiltinCall,hk,hsplit]
 refine wpAny_bind (LI.at ?_)
 repeat (first | assumption | wp_step)
theorem exc_call_val {tk:Tok} {v:Value} {R:Result→Shared→Prop} (a:ExA K D) (X:K.In s.heap) (I:PySem.W.InstAt s.heap x ox D od) (hf:PySem.W.findObj K D od name=some (.value v)) (hq:R (.ok (.ret v)) s) :
  codeAny (model prog w) A (.call (.builtin "BaseException.__getattribute__") ⟨[.ref x,.str name tk],[]⟩) R s:=by
 refine codeAny_call_builtin F.excAttr_ValueError.ga.plain F.entry_bexc_ga (exc_check a X I ?_)
 have L0:=I.type (M:=model prog w)
 have L1:=PySem.W.looks_find (M:=model prog w) X I hf
 obtain ⟨hh,g,d,t,os⟩:=s
 refine wpAny_bind (wpAny_pure ?_)
 refine wpAny_bind (wpAny_pure ?_)
 refine wpAny_bind (L0.at (wpAny_bind (L1.at ?_)))
 exact wpAny_pure hq
theorem exc_call_cls {tk:Tok} {R:Result→Shared→Prop} (a:ExA K D) (X:K.In s.heap) (I:PySem.W.InstAt s.heap x ox D od) (hq:R (.ok (.ret (.ref D))) s) :
  codeAny (model prog w) A (.call (.builtin "BaseException.__getattribute__") ⟨[.ref x,.str "__class__" tk],[]⟩) R s:=by
 refine codeAny_call_builtin F.excAttr_ValueError.ga.plain F.entry_bexc_ga (exc_check a X I ?_)
 have hf:PySem.W.findObj K D od "__class__"=some (.bind (.builtin "getset_descriptor.__get__") (.builtin "object.__class__")):=by
  obtain ⟨cd,hc⟩:=a.cl
  unfold PySem.W.findObj
  rw [hc,Option.bind_some,a.ca,Option.bind_some]
  simp [a.gs,a.tk]
 have L0:=I.type (M:=model prog w)
 have L1:=PySem.W.looks_find (M:=model prog w) X I hf
 obtain ⟨hh,g,d,t,os⟩:=s
 refine wpAny_bind (wpAny_pure ?_)
 refine wpAny_bind (wpAny_pure ?_)
 refine wpAny_bind (L0.at (wpAny_bind (L1.at ?_)))
 refine wpAny_bind (wpAny_holding (wpAny_call (PySem.W.class_get (s:=⟨hh,g,d,t,os⟩) X I a.ob ?_)))
 exact wpAny_pure hq
theorem exc_by {tk:Tok} {fill expr:Bool} {v:Value} {Q:Value→Shared→Prop} (a:ExA K D) (X:K.In s.heap) (I:PySem.W.InstAt s.heap x ox D od) (hv:PySem.W.handedIn v=true)
  (h:∀ (A:Around) (R:Result→Shared→Prop),R (.ok (.ret v)) s→codeAny (model prog w) A (.call (.builtin "BaseException.__getattribute__") ⟨[.ref x,.str name tk],[]⟩) R s) (q:Q v s) :
  wpAny (model prog w) A (getAttrBy (.ref x) (.str name tk) fill expr) Q E s:=by
 have L0:=I.type (M:=model prog w)
 have L1:=PySem.W.looks_findIn (M:=model prog w) X a.ga
 have L2:=PySem.W.looks_findIn (M:=model prog w) X a.gh
 have f3:=F.excAttr_ValueError.ga.bind (.ref x)
 obtain ⟨hh,g,d,t,os⟩:=s
 unfold getAttrBy
 refine wpAny_holding (wpAny_bind (L0.at (wpAny_bind (L1.at ?_))))
 have hx2:(Value.builtin "BaseException.__getattribute__" == Value.builtin "object.__getattribute__")=false:=by decide +kernel
 have hx0:(expr && onTheHeap (Value.builtin "BaseException.__getattribute__"))=false:=by cases expr <;> rfl
 dsimp only
 rw [hx2,Bool.and_false]
 simp only [Bool.false_eq_true,if_false]
 unfold getAttrByItsOwn hookBefore callGetattribute boundAndCalled
 rw [hx0]
 simp only [Bool.false_eq_true,if_false,onTheHeap,if_true]
 refine wpAny_bind (L2.at ?_)
 refine wpAny_bind (wpAny_attempt (wpAny_holding ?_))
 rw [f3]
 refine wpAny_bind (wpAny_pure ?_)
 refine wpAny_call (h _ _ ?_)
 exact PySem.W.handed_on hv q
theorem exc_cls {Q:Option Value→Shared→Prop} (a:ExA K D) (X:K.In s.heap) (I:PySem.W.InstAt s.heap x ox D od) (h:Q (some (.ref D)) { s with toks:=s.toks+1 }):wpAny (model prog w) A (getAttr? (.ref x) "__class__") Q E s:=by
 obtain ⟨hh,g,d,t,os⟩:=s
 unfold getAttr? getAttrBy?
 refine wpAny_bind (wpAny_mkText (wpAny_bind (wpAny_attempt ?_)))
 exact exc_by (s:=⟨hh,g,d,t+1,os⟩) a X I rfl (fun A R q=>exc_call_cls (s:=⟨hh,g,d,t+1,os⟩) a X I q) (wpAny_pure h)
theorem kitx_exc (a:ExA K D):PySem.W.KitX K (.ref x) (.ref D) (fun h=>∃ ox od,PySem.W.InstAt h x ox D od) where
 ty:=fun _ _ _ ⟨_,_,I⟩=>I.type
 it:=fun _ _ X _=>by
  obtain ⟨cdD,hcD⟩:=a.cl
  unfold PySem.W.clsIn at hcD
  split at hcD
  ·rename_i c' d' cd' sl' ho
   intro A' Q' E' s' k q
   unfold isType loadHead
   exact wpAny_bind (wpAny_loadPart (k _ _ (X _ _ ho)) (wpAny_pure q))
  ·cases hcD
 ne:=fun h tp dd its n sl X htp=>by
  obtain ⟨cdD,hcD⟩:=a.cl
  refine Bool.eq_false_iff.mpr fun q=>?_
  have e:D=tp:=Value.ref.inj (beq_iff_eq.mp q)
  subst e
  unfold PySem.W.clsIn at hcD
  split at hcD
  ·rename_i c' d' cd' sl' ho
   have z:=(X _ _ ho).symm.trans htp
   cases z
  ·cases hcD
 ca:=fun X ⟨_,_,I⟩ k=>exc_cls a X I k
end
section
variable {X:Cx}
def XAt (H:Hp) (x D:Addr):Prop:=H x=some (XO x D none)
def rIsX (K:PySem.W.Frag) (c:Value):List V→Hp→VK→Prop:=fun vs H Q=>∃ x D y b,vs=[.ref x,y]∧(∀ u,RelV y u→u=c)∧XAt H x D∧ExA K D∧PySem.W.kitOne K (.ref D) c=some b∧Q (.bl b) H
def eqVs:List V→List V→Bool
 | [],[]=>true
 | x::xs,y::ys=>eqV x y && eqVs xs ys
 | _,_=>false
theorem eqVs_len:∀ {xs ys:List V},xs.length≠ys.length→eqVs xs ys=false
 | [],[],h=>absurd rfl h
 | [],_::_,_=>rfl
 | _::_,[],_=>rfl
 | x::xs,y::ys,h=>by
  show (eqV x y && eqVs xs ys)=false
  rw [eqVs_len (fun z=>h (congrArg (· + 1) z)),Bool.and_false]
def hV (xs ys:List V) (j:Nat):Bool:=match xs[j]?,ys[j]? with | some x,some y=>eqV x y | _,_=>true
theorem eqVs_all:∀ {xs ys:List V},xs.length=ys.length→(List.range xs.length).all (hV xs ys)=eqVs xs ys
 | [],[],_=>rfl
 | x::xs,y::ys,h=>by
  rw [List.length_cons,List.range_succ_eq_map,List.all_cons,List.all_map]
  show (eqV x y && _)=(eqV x y && eqVs xs ys)
  rw [← eqVs_all (Nat.succ.inj h)]
  rfl
theorem vals_at {xs:List V} {us:List Value} (r:Vals xs us):∀ {j:Nat} {x:V} {u:Value},xs[j]?=some x→us[j]?=some u→RelV x u:=by
 induction r with
 | nil=>intro j x u h;cases h
 | cons r1 _ ih=>
  intro j x u h1 h2
  cases j with
  | zero=>cases h1;cases h2;exact r1
  | succ j=>exact ih h1 h2
def rEqL (K:PySem.W.Frag):R2:=fun x y H Q=>∃ p q xs ys,x=.ref p∧y=.ref q∧SqL K H p xs∧SqL K H q ys∧xs.all c5=true∧ys.all c5=true∧Q (.bl (eqVs xs ys)) H
theorem dI:bootBuiltins "ValueError"=some (.type "ValueError"):=by decide +kernel
end
end L2
namespace L2
open PySem PySem.Spec PyProof.Rows
inductive ItMethD (P:Program) (w:World) (K:PySem.W.Frag) (mg:Str→Option Value) (base:Heap) (CX:CXT) (m:Str) (j:Nat) (E:XK) (t:TA) (σ:St) (Q:VK) (x:V) (H1:Hp):Prop
 | mk (a:_) (C:_) (dx:_) (fs:_) (k:_) (ps:_) (sp:_) (h1:x=.ref a) (h2:H1 a=some (.ins C dx fs)) (h3:fs.lookup m=none) (h4:Cls K C) (h5:k≤j) (h6:MtB P w K mg base CX C m k ps sp) (h7:t σ H1 fun vs H2=>sp ((.ref a::vs)++[]) H2 Q E):ItMethD P w K mg base CX m j E t σ Q x H1
def tMethD (P:Program) (w:World) (K:PySem.W.Frag) (mg:Str→Option Value) (base:Heap) (CX:CXT) (m:Str) (j:Nat) (E:XK) (ta:TE) (t:TA):TE:=fun σ H Q=>ta σ H fun x H1=>ItMethD P w K mg base CX m j E t σ Q x H1
structure ClsRd (K:PySem.W.Frag) (C:Addr):Prop where
 rd:PySem.W.readsIn K C (.type "type")=true
 sg:PySem.W.specialIn K (.ref C) "__getattribute__"=some (some (.builtin "type.__getattribute__"))
def CfB (P:Program) (w:World) (K:PySem.W.Frag) (mg:Str→Option Value) (base:Heap) (CX:CXT) (C:Addr) (m:Str) (k:Nat) (ps:List Str) (sp:Sp):Prop:=
 ∃ f fd,ClsRd K C∧PySem.W.findCls K (.ref C) (.type "type") m=some (.val (.ref f))∧PySem.W.keepIn K (.ref f)=true∧Binds K fd ps []∧FnOk P w K mg base CX k f fd ps sp
section
variable {X:Cx} {CX:CXT} {k j:Nat} {C:Addr} {ps:List Str} {sp:Sp} {E:XK} {x m:Str} {p pos apos:Pos} {e o:Expr} {es:List Expr} {ta:TE} {t:TA}
theorem gw {pl:Sem Bool} (he:PE X o ta) (hr:Room j X.A) (hx:cI CX X E) (ha:PA X (e::es) t)
  (hst:starEach (e::es) X.env=(false,eval e X.env)::starEach es X.env:=by rfl) (hpl:(backTo pos (starEach es X.env)).any (·.1)=false:=by rfl)
  (ht:eval (.Call (.Attribute o m apos) (e::es) [] pos) X.env=(do
   let ov ← eval o X.env
   standAt apos.atName
   let (f,first) ← holding [ov] (getMethod ov m pl)
   callWith pos f first (backTo pos (starEach (e::es) X.env)) (backToKw pos (keywordEach [] X.env))):=by rfl):PE X (.Call (.Attribute o m apos) (e::es) [] pos) (tMethD X.prog X.w X.K X.mg X.base CX m j E ta t):=by
 intro pins s σ H Q I h
 refine PySem.W.methodCall_KW (pl:=pl) (thn (he pins s σ H _ I h) fun u s1 ⟨x,H1,I1,rx,a,C,dx,fs,k,ps,sp,ex,ea,l,c,hj,⟨f,fd,hm,hb,F⟩,q⟩=>?_) ht
 subst ex
 obtain rfl:u=Value.ref a:=rx
 refine fg I1 ea c hm l ?_
 refine PySem.W.callWith_K (first:=[.ref a]) (h₀:=X.base) I.ok.mod.kin hm.kp (thn (ha pos pins s1 σ H1 _ I1 q) fun us s2 ⟨vs,H2,I2,r,q2⟩=>⟨I2.kIn,?_⟩) hst hpl
 exact run_fn (us:=.ref a::us) (vs:=.ref a::vs) F (hr.mono hj) hb .nil hx I2 (.cons rfl r) q2
theorem et {pl:Sem Bool} (he:PE X o ta) (hr:Room j X.A) (hx:cI CX X E)
  (ht:eval (.Call (.Attribute o m apos) [] [] pos) X.env=(do
   let ov ← eval o X.env
   standAt apos.atName
   let (f,first) ← holding [ov] (getMethod ov m pl)
   callWith pos f first (backTo pos (starEach [] X.env)) (backToKw pos (keywordEach [] X.env))):=by rfl):PE X (.Call (.Attribute o m apos) [] [] pos) (tMethD X.prog X.w X.K X.mg X.base CX m j E ta tNil):=by
 intro pins s σ H Q I h
 refine PySem.W.methodCall_KW (pl:=pl) (thn (he pins s σ H _ I h) fun u s1 ⟨x,H1,I1,rx,a,C,dx,fs,k,ps,sp,ex,ea,l,c,hj,⟨f,fd,hm,hb,F⟩,q⟩=>?_) ht
 subst ex
 obtain rfl:u=Value.ref a:=rx
 refine fg I1 ea c hm l ?_
 exact PySem.W.callWith_K0 (first:=[.ref a]) I1.kIn hm.kp (run_fn (us:=[.ref a]) (vs:=[.ref a]) F (hr.mono hj) hb .nil hx I1 (.cons rfl .nil) q)
theorem pe_cf {np:Pos} {pl:Sem Bool} (F:CfB X.prog X.w X.K X.mg X.base CX C m k ps sp) (hr:Room j X.A) (hm:X.mg x=some (.ref C)) (hx:cI CX X E) (ha:PA X (e::es) t) (hj:k≤j:=by decide) (hg:Gl X x:=by rfl) (hdb:(x == ("__debug__":Str))=false:=by decide)
  (hst:starEach (e::es) X.env=(false,eval e X.env)::starEach es X.env:=by rfl) (hpl:(backTo pos (starEach es X.env)).any (·.1)=false:=by rfl)
  (ht:eval (.Call (.Attribute (.Name x np) m apos) (e::es) [] pos) X.env=(do
   let ov ← eval (.Name x np) X.env
   standAt apos.atName
   let (f,first) ← holding [ov] (getMethod ov m pl)
   callWith pos f first (backTo pos (starEach (e::es) X.env)) (backToKw pos (keywordEach [] X.env))):=by rfl):PE X (.Call (.Attribute (.Name x np) m apos) (e::es) [] pos) (tCall sp [] E t):=by
 intro pins s σ H Q I h
 obtain ⟨f,fd,c,hf,hk,hb,F⟩:=F
 refine PySem.W.methodCall_KW (pl:=pl) (dP I hg hm ?_ hdb) ht
 refine PySem.W.method_cls I.kIn c.sg (PySem.W.cls_value I.kIn c.rd hf rfl ?_)
 have I1:=I.tok (s.toks+1)
 refine PySem.W.callWith_K (first:=[]) (h₀:=X.base) I.ok.mod.kin hk (thn (ha pos pins _ σ H _ I1 h) fun us s2 ⟨vs,H2,I2,r,q2⟩=>⟨I2.kIn,?_⟩) hst hpl
 exact run_fn (us:=us) (vs:=vs) F (hr.mono hj) hb .nil hx I2 r q2
def rRepS:R2:=fun x y H Q=>∃ z n,x=.str z∧y=.int n∧z.length=1∧n.natAbs<1000∧Q (.str (Txt.mul z n)) H
theorem gy:OpR X (binaryOp .Mult) rRepS:=by
 intro pins s σ H x y v u Q I rx ry h
 obtain ⟨z,n,rfl,rfl,hz,hn,q⟩:=h
 obtain ⟨t,rfl⟩:=rx
 obtain ⟨t',rfl⟩:=ry
 refine SB.mul ⟨?_,fun h1 _=>?_,fun h1 _=>?_⟩ fun t' tk=>⟨.str _,H,I.tok _,⟨_,rfl⟩,q⟩
 ·simp;omega
 ·rw [hz]
  have:(1:Int)≤(2 ^ 63-1) / n:=Int.le_ediv_of_mul_le (by omega) (by omega)
  omega
 ·rw [hz]
  unfold Builtin.Str.tooLong
  simp only [PySem.sizeLine_eq,gt_iff_lt,decide_eq_false_iff_not]
  omega
end
section
variable {P:Program} {w:World} {K:PySem.W.Frag} {mg:Str→Option Value} {base:Heap} {x qual:Str} {C:Addr} {st:Stmt} {N ps:List Str} {k:Nat} {sp:Sp}
def CDe (K:PySem.W.Frag) (C:Addr) (qual:Str) (st:Stmt) (ps:List Str):Prop:=∃ f fd,FunG K "__init__" qual st f fd∧ClsRd K C∧PySem.W.findCls K (.ref C) (.type "type") "__init__"=some (.val (.ref f))∧PySem.W.keepIn K (.ref f)=true∧Binds K fd ps []
theorem CDe.ok (F:CDe K C qual st ps) (S:FnScope N ps (ag st)) (len:∀ vs H Q E,sp vs H Q E→vs.length=ps.length)
  (hbody:∀ (f:Addr) (cdv:Value) (A:Around) (outer:List Env) (s:Shared) (H:Hp) (vs:List V) (Q:VK) (E:XK),Room k (A.deeper (envOfC qual (ag st) s.heap.objs.size f cdv))→sp vs H Q E→
   ∃ t,PSs (aS CX0 P w K mg base N qual (ag st) f cdv A outer s H E).nox (ap st) t∧t { nx:=fun _ H'=>Q .non H',rt:=Q } (dE N vs) H):CfB P w K mg base CX0 C "__init__" (k+1) ps sp:=
 let ⟨f,fd,a,b,c,d,e⟩:=F
 ⟨f,fd,b,c,d,e,a.ok S len (hbody f)⟩
end
end L2
namespace L2
open PySem PySem.Spec PyProof.Rows
section
variable {prog:Program} {w:World} {A:Around} {E:Value→Shared→Prop} {s:Shared}
end
section
variable {X:Cx} {pos:Pos}
def gLst (K:PySem.W.Frag) (n:Nat) (t:TGs):TG:=fun v σ H Q=>∃ a xs,v=.ref a∧SqL K H a xs∧xs.length=n∧t xs σ H Q
end
end L2
namespace L2
open PySem PySem.Spec PyProof.Rows
def fo (P:Program) (w:World) (K:PySem.W.Frag) (mg:Str→Option Value) (base:Heap) (qual:Str) (st:Stmt) (N:List Str) (k:Nat) (sp:Sp):Prop:=
 ∀ (f:Addr) (cdv:Value) (A:Around) (outer:List Env) (s:Shared) (H:Hp) (vs:List V) (Q:VK) (E:XK),Room k (A.deeper (envOfC qual (ag st) s.heap.objs.size f cdv))→sp vs H Q E→
  ∃ t,PSs (aS CX0 P w K mg base N qual (ag st) f cdv A outer s H E).nox (ap st) t∧t { nx:=fun _ H'=>Q .non H',rt:=Q } (dE N vs) H
def BodyX (P:Program) (w:World) (K:PySem.W.Frag) (mg:Str→Option Value) (base:Heap) (qual:Str) (st:Stmt) (N:List Str) (k:Nat) (sp:Sp):Prop:=
 ∀ (f:Addr) (cdv:Value) (A:Around) (outer:List Env) (s:Shared) (H:Hp) (vs:List V) (Q:VK) (E:XK),Room k (A.deeper (envOfC qual (ag st) s.heap.objs.size f cdv))→sp vs H Q E→
  ∃ t,PSs (aS (CX1 P w) P w K mg base N qual (ag st) f cdv A outer s H E) (ap st) t∧t { nx:=fun _ H'=>Q .non H',rt:=Q } (dE N vs) H
end L2
namespace L2
open PySem PySem.Spec PyProof.Rows
section
variable {prog:Program} {w:World} {A:Around} {E:Value→Shared→Prop} {h:Heap} {g:Array GenState} {d:Drawn} {t:Nat} {os:OsState}
variable {nm q:Str} {C N:Addr} {bs bm bmB:List Value} {hdct:Bool} {sn:List Str} {sub:List Value} {ab:Bool} {col:Option Bool} {dd:Option Addr} {k0 k1 k2 k3 k5:Option Value} {B newId initId:String}
theorem type_call_initT (F:ExcBaseFacts B newId initId bmB) (T:OwnTail h bmB bm) {mN:Str→Option Value} {rest:List Value} {fI:Addr} {oI:Obj} {Q:Fin→Shared→Prop}
  (hC:h.get? C=some (excClassObj nm q C N bs bm hdct sn sub ab col dd k0 k1 k2 k3 k5 newId)) (hn:h.Ns N mN) (hi:mN "__init__"=some (.ref fI))
  (hfI:h.get? fI=some oI) (hfc:oI.cls=.type "function")
  (hq:∀ h' e,Heap.MadeExcOf h h' e (.ref C) rest→
   wpAny (model prog w) A (call (.ref fI) (.ref e::rest)) (fun r s'=>r=.none∧Q (.done (.ret (.ref e))) s') E ⟨h',g,d,t,os⟩) (hrest:rest.length≤sizeLine:=by size_fits) :
  wpAny (model prog w) A (Builtin.«type.__call__» ⟨.ref C::rest,[]⟩) Q E ⟨h,g,d,t,os⟩:=by
 repeat (first | with_reducible refine wpAny_loadPart_at hC ?_ | with_reducible refine wpAny_madeBy_exc hC ?_ | wp_step)
 refine codeAny_call_builtin_code (Code.quiet_builtin _ F.quiet) (wpAny_check_new_subT F T hC ?_)
 refine codeAny_exc_new_subT F T hC ?_ hrest
 show wpAny _ _ _ _ _ _
 have hC₁:=Heap.get?_push_of_some { cls:=.ref C,data:=.fields #[.ref h.objs.size,.none,.none,.none,.bool false,.none] }
  (Heap.get?_push_of_some { cls:=.type "tuple",data:=.seq rest.toArray } hC)
 have hfI₁:=Heap.get?_push_of_some { cls:=.ref C,data:=.fields #[.ref h.objs.size,.none,.none,.none,.bool false,.none] }
  (Heap.get?_push_of_some { cls:=.type "tuple",data:=.seq rest.toArray } hfI)
 have hn₁:((h.push { cls:=.type "tuple",data:=.seq rest.toArray }).push { cls:=.ref C,data:=.fields #[.ref h.objs.size,.none,.none,.none,.bool false,.none] }).Ns N mN:=
  let ⟨o,es,ep,e,r⟩:=hn;⟨o,es,ep,Heap.get?_push_of_some _ (Heap.get?_push_of_some _ e),r⟩
 have hget:((h.push { cls:=.type "tuple",data:=.seq rest.toArray }).push
   { cls:=.ref C,data:=.fields #[.ref h.objs.size,.none,.none,.none,.bool false,.none] }).get? (h.objs.size+1)=some
   { cls:=.ref C,data:=.fields #[.ref h.objs.size,.none,.none,.none,.bool false,.none] }:=by heap_get
 have hcC:(Value.ref C::bm).contains (.ref C)=true:=by simp
 have T₁:=T.keeps (h':=(h.push { cls:=.type "tuple",data:=.seq rest.toArray }).push { cls:=.ref C,data:=.fields #[.ref h.objs.size,.none,.none,.none,.bool false,.none] })
  fun b o e=>Heap.get?_push_of_some _ (Heap.get?_push_of_some _ e)
 unfold isInstance
 repeat (first | with_reducible refine wpAny_loadPart_at hget ?_ | (with_reducible refine wpAny_isSubtype_exc hC₁ ?_;rw [hcC]) | wp_step)
 show wpAny _ _ (typeLookup (.ref C) _) _ _ _
 refine wpAny_typeLookup_tail hC₁ hn₁ T₁ F.mroIs F.init.lookup ?_
 rw [hi]
 refine wpAny_holding (wpAny_bind ?_)
 unfold bindSpecial
 refine wpAny_bind (wpAny_typeOf (T:="function") ⟨_,hfI₁,hfc⟩ ?_)
 rw [if_pos (by decide)]
 refine wpAny_pure (wpAny_bind (wpAny_mono (hq _ (h.objs.size+1) ⟨fun b o hb=>Heap.get?_push_of_some _ (Heap.get?_push_of_some _ hb),Heap.get?_none_of_le (Nat.le_succ _),h.objs.size,hget,Heap.get?_none_of_le (Nat.le_refl _),?_⟩) (fun r s' hr=>?_) fun _ _ x=>x))
 ·exact Heap.get?_push_of_some _ (Heap.get?_push_at rfl rfl)
 ·obtain ⟨rfl,hQ⟩:=hr
  wp_walk
  exact hQ
theorem call_initT (F:ExcBaseFacts B newId initId bmB) (T:OwnTail h bmB bm) {mN:Str→Option Value} {rest:List Value} {fI:Addr} {oI:Obj} {Q:Value→Shared→Prop}
  (hC:h.get? C=some (excClassObj nm q C N bs bm hdct sn sub ab col dd k0 k1 k2 k3 k5 newId)) (hn:h.Ns N mN) (hi:mN "__init__"=some (.ref fI))
  (hfI:h.get? fI=some oI) (hfc:oI.cls=.type "function")
  (hq:∀ h' e,Heap.MadeExcOf h h' e (.ref C) rest→
   wpAny (model prog w) (A.under (.builtin "type.__call__" ⟨.ref C::rest,[]⟩)) (call (.ref fI) (.ref e::rest)) (fun r s'=>r=.none∧Q (.ref e) s') E ⟨h',g,d,t,os⟩) (hrest:rest.length≤sizeLine:=by size_fits) :
  wpAny (model prog w) A (call (.ref C) rest) Q E ⟨h,g,d,t,os⟩:=by
 have f1:=tc_lookup
 have f2:=tc_bind (.ref C)
 have hT:(⟨h,g,d,t,os⟩:Shared).TypeIs (.ref C) "type":=⟨_,hC,rfl⟩
 refine wpAny_call (codeAny_of_tree ?_)
 show wpAny _ _ (callAny (.ref C) _) _ _ _
 repeat (any_goals (first | assumption | with_reducible refine wpAny_loadPart_at hC ?_ | wp_step))
 refine ⟨rfl,?_⟩
 refine codeAny_call_builtin_at (Code.quiet_builtin _ (by decide +kernel)) entry_typeCall (wpAny_check_type_call_sub hC (type_call_initT (hrest:=hrest) F T hC hn hi hfI hfc fun h' e hm=>?_))
 exact hq h' e hm
end
end L2
namespace L2
open PySem PySem.Spec PyProof.Rows
open Builtin Builtin.ObjectAttr
section
theorem refuse_bmV (self:Value):refuseLoop self "__setattr__" bmV=pure ():=by kernel_rfl
structure ExI (K:PySem.W.Frag) (C:Addr):Prop where
 cl:∃ (cd:ClassData) (tl:List Addr),PySem.W.clsIn K C=some cd∧cd.mro=tl.map Value.ref++bmV∧cd.hasDict=true
 sa:PySem.W.findIn K (.ref C) "__setattr__"=some (some (.builtin "object.__setattr__"))
theorem refuse_tail (self:Value):∀ tl:List Addr,refuseLoop self "__setattr__" (tl.map Value.ref++bmV)=pure ()
 | []=>refuse_bmV self
 | a::tl=>by
  rw [List.map_cons,List.cons_append,refuseLoop_ref]
  exact refuse_tail self tl
variable {prog:Program} {w:World} {A:Around} {E:Value→Shared→Prop} {s:Shared} {K:PySem.W.Frag} {x C:Addr} {o:Obj} {od:Option Obj} {name:Str} {v:Value}
theorem exc_open {tk:Tok} {R:Result→Shared→Prop} (X:K.In s.heap) (I:PySem.W.InstAt s.heap x o C od) (F:ExI K C) (n:NoAttr K C name)
  (h:∀ b,wpAny (model prog w) A.in1 (storeInOwnDict (.ref x) (.ref C) (.str name tk) name v b)
   (fun fin s'=>match fin with | .done f=>R (.ok f) s' | .again c'=>c'.quiet=true∧codeAny (model prog w) A c' R s') (fun e s'=>R (.error e) s') s) :
  codeAny (model prog w) A (.call (.builtin "object.__setattr__") ⟨[.ref x,.str name tk,v],[]⟩) R s:=by
 have SF:=PySem.F.store_object
 obtain ⟨cd,tl,hc,hm,hd⟩:=F.cl
 have has:cd.mro.contains (.type "object")=true:=by rw [hm];simp
 have ne:cd.mro.isEmpty=false:=by rw [hm];simp
 have sub:PySem.W.Looks (model prog w) s.heap (isInstance (.ref x) (.type "object")) true:=I.type.andThen (PySem.W.looks_mroIn X (by unfold PySem.W.mroIn;rw [hc,Option.bind_some,if_neg (by rw [ne];decide),has]))
 refine codeAny_call_builtin SF.slot.plain SF.entry (@PySem.W.check_slot (model prog w) _ _ s "object.__setattr__" "object" "__setattr__" (.ref x) [.str name tk,v] [] _ SF.kind SF.split sub (SF.args (.ref x) (.str name tk) v) ?_)
 obtain ⟨attr,ha,hr⟩:=Option.bind_eq_some_iff.mp n.taker
 have hmr:PySem.W.Looks (model prog w) s.heap (mroOf (.ref C)) cd.mro:=(PySem.W.looks_clsIn X hc).andThen .now
 have L3:PySem.W.Looks (model prog w) s.heap (storeTaker? attr) none:=by
  cases attr with
  | none=>cases hr;exact .now
  | some a=>
   obtain ⟨b,hb,hr⟩:=Option.map_eq_some_iff.mp hr
   refine (PySem.W.looks_takesIn X hb).andThen ?_
   cases b with
   | true=>cases hr
   | false=>exact .now
 rw [PySem.W.osa_eq,refuse_eq]
 refine wpAny_bind (wpAny_bind (I.type.here (wpAny_bind (hmr.here ?_))))
 rw [hm,refuse_tail]
 refine wpAny_pure (wpAny_bind (I.type.here (wpAny_bind ((PySem.W.looks_findIn X ha).here (wpAny_bind (L3.here ?_))))))
 exact h _
theorem exc_set0 {Q:Unit→Shared→Prop} (X:K.In s.heap) (F:ExI K C) (n:NoAttr K C name) (hx:s.heap.get? x=some o) (hc:o.cls=.ref C) (hnc:∀ c,o.data≠.cls c) (hdn:o.dict=none)
  (hq:∀ h' tk',h'.get? x=some { cls:=o.cls,dict:=some s.heap.objs.size,data:=o.data,slots:=o.slots }→h'.Ns1 s.heap.objs.size (fun y=>if y=name then some v else none)→
   (∀ b ob,b≠x→s.heap.get? b=some ob→h'.get? b=some ob)→Q () { s with heap:=h',toks:=tk' }) :
  wpAny (model prog w) A (setAttr (.ref x) name v) Q E s:=by
 have hno:PySem.W.notCls o=true:=by
  unfold PySem.W.notCls
  split
  ·rename_i c e
   exact absurd e (hnc c)
  ·rfl
 have I:PySem.W.InstAt s.heap x o C none:=⟨hx,hc,hno,by rw [hdn];trivial⟩
 refine PySem.W.set_plain X I F.sa (exc_open (s:={ s with toks:=s.toks+1 }) X I F n fun b=>?_)
 obtain ⟨cd,tl,hcl,hm,hd⟩:=F.cl
 obtain ⟨h,g,d,t,os⟩:=s
 dsimp only at hx X hq
 have hx₁:(h.push { cls:=.type "dict",data:=.dict #[] }).get? x=some o:=Heap.get?_push_of_some _ hx
 have hxs:x≠h.objs.size:=Nat.ne_of_lt (Heap.lt_size hx)
 unfold storeInOwnDict ownDictForStores instanceDict
 refine wpAny_bind (wpAny_pure (wpAny_bind (wpAny_bind (wpAny_loadPart hx ?_))))
 rw [hc]
 refine wpAny_bind ((PySem.W.looks_clsIn X hcl).at ?_)
 rw [hd,hdn]
 simp only [Bool.not_true,Bool.false_eq_true,if_false]
 have hth:typeHasDict (.ref C)=true:=by simp [typeHasDict]
 rw [hth]
 simp only [Bool.not_true,Bool.or_self,Bool.false_eq_true,if_false]
 refine wpAny_bind (wpAny_alloc' (wpAny_bind (wpAny_update' hx₁ (wpAny_pure ?_))))
 have hgd:((h.push { cls:=.type "dict",data:=.dict #[] }).update x fun o=>{ cls:=o.cls,dict:=some h.objs.size,data:=o.data,slots:=o.slots }).get? h.objs.size
   = some { cls:=.type "dict",data:=.dict #[] }:=
  (Heap.get?_update_ne _ _ _ _ hxs.symm).trans (Heap.get?_push_at rfl rfl)
 have hnd:((h.push { cls:=.type "dict",data:=.dict #[] }).update x fun o=>{ cls:=o.cls,dict:=some h.objs.size,data:=o.data,slots:=o.slots }).Ns h.objs.size (fun _=>none):=
  ⟨_,#[],_,hgd,rfl,fun e he=>absurd he (by simp),fun _=>rfl⟩
 show wpAny _ _ (storeInDict h.objs.size (.str name t) name v) _ _ _
 unfold storeInDict newKeyGuard
 refine wpAny_bind (wpAny_pure (wpAny_bind (wpAny_nsSet1 (Heap.Ns1.of_empty hnd) fun h' hn' hs=>?_)))
 obtain ⟨oD,esD,epD,hoD,hdD,hcD⟩:=hn'.count (Within.cons name v Within.nil)
 refine wpAny_bind (wpAny_lookBehind hoD (by rw [hdD];exact pastItsLine_dict (Nat.le_trans hcD (by rw [List.length_cons,List.length_nil,sizeLine_eq];omega))) ?_)
 refine wpAny_pure (hq h' _ ?_ hn' (fun b ob hbx hb=>?_))
 ·refine (hs.2 x hxs).trans (Heap.get?_update_self _ hx₁ ?_)
  have hfr:=(Heap.get?_some_iff.mp hx).2
  obtain ⟨oc,od,odt,osl⟩:=o
  cases odt <;> first | rfl | exact hfr
 ·exact (hs.2 b (Nat.ne_of_lt (Heap.lt_size hb))).trans ((Heap.get?_update_ne _ _ _ _ hbx).trans (Heap.get?_push_of_some _ hb))
theorem exc_base_init {nm q:Str} {N:Addr} {bs bm bmB:List Value} {hdct:Bool} {sn:List Str} {sub:List Value} {ab:Bool} {col:Option Bool} {dd de:Option Addr} {k0 k1 k2 k3 k5:Option Value} {B newId initId:String} {e t0:Addr} {rest:List Value} {Q:Value→Shared→Prop}
  (F:ExcBaseFacts B newId initId bmB) (T:OwnTail s.heap bmB bm) (hC:s.heap.get? C=some (excClassObj nm q C N bs bm hdct sn sub ab col dd k0 k1 k2 k3 k5 newId)) (he:s.heap.get? e=some ⟨.ref C,de,.fields #[.ref t0,.none,.none,.none,.bool false,.none],#[]⟩)
  (hq:∀ h' t1,h'.get? e=some ⟨.ref C,de,.fields #[.ref t1,.none,.none,.none,.bool false,.none],#[]⟩→(∀ b ob,b≠e→s.heap.get? b=some ob→h'.get? b=some ob)→Q .none { s with heap:=h' }) (hrest:rest.length≤sizeLine) :
  wpAny (model prog w) A (call (.builtin initId) (.ref e::rest)) Q E s:=by
 obtain ⟨h,g,d,t,os⟩:=s
 dsimp only at hC he hq T
 refine wpAny_call (codeAny_call_builtin F.init.plain F.initEntry (wpAny_check_init_subT F T hC he rfl ?_))
 wp_walk
 refine hq _ h.objs.size ?_ fun b ob hb e=>?_
 ·rw [Heap.get?_update_self _ (Heap.get?_push_of_some _ he) rfl]
  rfl
 ·rw [Heap.get?_update_other _ _ (Ne.symm hb)]
  exact Heap.get?_push_of_some _ e
theorem gr {M:Model} {env:Env} {nm q:Str} {N:Addr} {bs bm:List Value} {hdct:Bool} {sn:List Str} {sub:List Value} {ab:Bool} {col:Option Bool} {dd:Option Addr} {k0 k1 k2 k3 k5:Option Value} {newId:String} {y:Sem Value} {Q:Flow→Shared→Prop} (hbase:bm.contains (.type "BaseException")=true) (hh:A.handled=none)
  (h:wpAny M A y (fun v s₁=>∃ e t de,v=.ref e∧s₁.heap.get? C=some (excClassObj nm q C N bs bm hdct sn sub ab col dd k0 k1 k2 k3 k5 newId)∧
   s₁.heap.get? e=some ⟨.ref C,de,.fields #[.ref t,.none,.none,.none,.bool false,.none],#[]⟩∧E (.ref e) s₁) E s) :
  wpAny M A (raiseStmt env (some y) none) Q E s:=by
 have hcB:(Value.ref C::bm).contains (.type "BaseException")=true:=by rw [List.contains_cons,hbase,Bool.or_true]
 unfold raiseStmt
 refine wpAny_bind (wpAny_mono h (fun v s₁ h₁=>?_) fun _ _ x=>x)
 obtain ⟨e,t,de,rfl,hC,he,hE⟩:=h₁
 obtain ⟨hp,g,d,tk,os⟩:=s₁
 repeat (first | with_reducible refine wpAny_loadPart_at he ?_ | with_reducible refine wpAny_loadPart_at hC ?_ | (with_reducible refine wpAny_isSubtype_exc hC ?_;rw [hcB]) | wp_step)
 exact wpAny_raiseNew_none hh hE
def hU (K:PySem.W.Frag) (C:Addr) (bmB:List Value) (newId:String):Option Addr:=match K.lookup C with
 | some ⟨.type "type",_,.cls cd,sl⟩=>(match cd.mro,sl.toList with
  | .ref C'::bm,[_,_,_,_,some (.builtin n),_]=>if (C' == C && n == newId && !cd.hasDel && PySem.W.tailIn K bmB bm && PySem.W.nsOkIn K cd.ns)=true then (match PySem.W.nsIn K cd.ns "__init__" with | some (some (.ref f))=>some f | _=>none) else none
  | _,_=>none)
 | _=>none
theorem ns_of {h:Heap} {N:Addr} {mg:Str→Option Value} {n:Str} {v:Value} (X:K.In h) (G:h.Ns N mg) (e:PySem.W.nsIn K N n=some (some v)):mg n=some v:=by
 obtain ⟨o,es,ep,ho,hd,_,hf⟩:=G
 unfold PySem.W.nsIn at e
 split at e
 ·rename_i c d es' n' sl q
  have:=X _ _ q
  rw [ho] at this
  cases this
  cases hd
  split at e
  ·rename_i en he
   cases e
   rw [← hf]
   unfold nsFind findBy
   rw [← Array.find?_toList,he]
   rfl
  ·split at e <;> cases e
 ·cases e
theorem exc_objI {h:Heap} {bmB:List Value} {newId:String} {f:Addr} (X:K.In h) (q:hU K C bmB newId=some f) :
  ∃ bm N nm qn bs hd sn sub ab col dd k0 k1 k2 k3 k5 mN,h.get? C=some (excClassObj nm qn C N bs bm hd sn sub ab col dd k0 k1 k2 k3 k5 newId)∧h.Ns N mN∧mN "__init__"=some (.ref f)∧OwnTail h bmB bm:=by
 unfold hU at q
 split at q
 case h_2=>cases q
 case h_1 dd cd sl lk=>
  split at q
  case h_2=>cases q
  case h_1 C' bm k0 k1 k2 k3 n k5 hm hs=>
   split at q
   case isFalse=>cases q
   case isTrue hq=>
    simp only [Bool.and_eq_true,beq_iff_eq,Bool.not_eq_true'] at hq
    obtain ⟨⟨⟨⟨e1,e2⟩,hdel⟩,ht⟩,hok⟩:=hq
    subst e1 e2
    split at q
    case h_2=>cases q
    case h_1 f' hi=>
     cases q
     obtain ⟨nm,bs,mro,ns,qn,hd,sn,sub,ab,col,del⟩:=cd
     dsimp only at hm hdel hok hi
     subst hm hdel
     obtain ⟨l⟩:=sl
     have hs:l=_:=hs
     subst hs
     exact ⟨bm,ns,nm,qn,bs,hd,sn,sub,ab,col,dd,k0,k1,k2,k3,k5,_,X _ _ lk,.of_isNs (PySem.W.isNs_of_in X hok),ns_of X (.of_isNs (PySem.W.isNs_of_in X hok)) hi,PySem.W.tail_of_in X ht⟩
end
end L2
namespace L2
open PySem PySem.Spec PyProof.Rows
section
variable {prog:Program} {w:World} {A:Around} {E:Value→Shared→Prop} {s:Shared} {env:Env}
variable {nm q:Str} {C N:Addr} {bs bm bmB:List Value} {hdct:Bool} {sn:List Str} {sub:List Value} {ab:Bool} {col:Option Bool} {dd:Option Addr} {k0 k1 k2 k3 k5:Option Value} {B newId initId:String}
theorem Raise_call_initT (F:ExcBaseFacts B newId initId bmB) {mN:Str→Option Value} {fI:Addr} {oI:Obj} {x:Str} {np cpos pos:Pos} {args:List Expr} {Q:Flow→Shared→Prop}
  (hbase:bm.contains (.type "BaseException")=true) (hh:A.handled=none) (hplain:(backTo cpos (starEach args env)).any (·.1)=false) (hi:mN "__init__"=some (.ref fI)) (hfc:oI.cls=.type "function")
  (h:wpAny (model prog w) A (eval (.Name x np) env) (fun f s₁=>f=.ref C∧wpAny (model prog w) A (evalArgs (.ref C) true (backTo cpos (starEach args env)) [])
   (fun a s₂=>a.kw=[]∧a.pos.length≤sizeLine∧s₂.heap.get? C=some (excClassObj nm q C N bs bm hdct sn sub ab col dd k0 k1 k2 k3 k5 newId)∧s₂.heap.Ns N mN∧OwnTail s₂.heap bmB bm∧s₂.heap.get? fI=some oI∧
    ∀ h' e,Heap.MadeExcOf s₂.heap h' e (.ref C) a.pos→wpAny (model prog w) (A.under (.builtin "type.__call__" ⟨.ref C::a.pos,[]⟩)) (call (.ref fI) (.ref e::a.pos))
     (fun r s'=>r=.none∧(∃ t de,s'.heap.get? C=some (excClassObj nm q C N bs bm hdct sn sub ab col dd k0 k1 k2 k3 k5 newId)∧s'.heap.get? e=some ⟨.ref C,de,.fields #[.ref t,.none,.none,.none,.bool false,.none],#[]⟩)∧E (.ref e) s') E { s₂ with heap:=h' }) E s₁) E s) :
  wpAny (model prog w) A (exec (.Raise (some (.Call (.Name x np) args [] cpos)) none pos) env) Q E s:=by
 rw [arm_exec_Raise]
 first
  | refine wpAny_bind (wpAny_standAt (gr (C:=C) (nm:=nm) (q:=q) (N:=N) (bs:=bs) (bm:=bm) (hdct:=hdct) (sn:=sn) (sub:=sub) (ab:=ab) (col:=col) (dd:=dd) (k0:=k0) (k1:=k1) (k2:=k2) (k3:=k3) (k5:=k5) (newId:=newId) hbase hh (wpAny_bind (wpAny_mono (wpAny_Call_ofName (wpAny_mono h (fun f s₁ h₁=>?_) fun _ _ x=>x)) (fun v s₃ h₃=>wpAny_bind (wpAny_standAt (wpAny_pure h₃))) fun _ _ x=>x))))
  | (simp only [evalOpt,Option.map];refine wpAny_bind (wpAny_standAt (gr (C:=C) (nm:=nm) (q:=q) (N:=N) (bs:=bs) (bm:=bm) (hdct:=hdct) (sn:=sn) (sub:=sub) (ab:=ab) (col:=col) (dd:=dd) (k0:=k0) (k1:=k1) (k2:=k2) (k3:=k3) (k5:=k5) (newId:=newId) hbase hh (wpAny_bind (wpAny_mono (wpAny_Call_ofName (wpAny_mono h (fun f s₁ h₁=>?_) fun _ _ x=>x)) (fun v s₃ h₃=>wpAny_bind (wpAny_standAt (wpAny_pure h₃))) fun _ _ x=>x)))))
  | (refine wpAny_bind (wpAny_standAt (gr (C:=C) (nm:=nm) (q:=q) (N:=N) (bs:=bs) (bm:=bm) (hdct:=hdct) (sn:=sn) (sub:=sub) (ab:=ab) (col:=col) (dd:=dd) (k0:=k0) (k1:=k1) (k2:=k2) (k3:=k3) (k5:=k5) (newId:=newId) hbase hh ?_));refine wpAny_bind (wpAny_mono (wpAny_Call_ofName (wpAny_mono h (fun f s₁ h₁=>?_) fun _ _ x=>x)) (fun v s₃ h₃=>wpAny_bind (wpAny_standAt (wpAny_pure h₃))) fun _ _ x=>x))
 obtain ⟨rfl,h₁⟩:=h₁
 unfold callWith
 refine wpAny_bind (wpAny_holding (wpAny_mono h₁ (fun a s₂ h₂=>wpAny_bind (wpAny_standAt ?_)) fun _ _ x=>x))
 obtain ⟨apos,akw⟩:=a
 obtain ⟨hkw,hlen,hC,hn,T,hf,h₂⟩:=h₂
 obtain rfl:akw=[]:=hkw
 obtain ⟨hp,g,d,tk,os⟩:=s₂
 simp only [hplain]
 refine wpAny_bind (wpAny_keeperOf_exc hC ?_)
 refine wpAny_bind (call_initT (hrest:=hlen) F T hC hn hi hf hfc fun h' e hm=>wpAny_mono (h₂ h' e hm) (fun r s' z=>?_) fun _ _ z=>z)
 obtain ⟨rfl,⟨t,de,g1,g2⟩,z⟩:=z
 exact ⟨rfl,wpAny_bind (wpAny_holding (wpAny_point (wpAny_pure ⟨e,t,de,rfl,g1,g2,z⟩)))⟩
end
def XI (e C:Addr) (d:Option Addr):HO:=.ext fun h=>∃ t,h.get? e=some ⟨.ref C,d,.fields #[.ref t,.none,.none,.none,.bool false,.none],#[]⟩
def del (H:Hp) (e:Addr):Hp:=fun b=>if b=e then none else H b
section
variable {X:Cx} {pins:List (Addr × Obj)} {σ:St} {H:Hp} {s:Shared} {x:Addr}
theorem XI.ok {P:Program} {w:World} {h:Heap} {C t:Addr} {d:Option Addr} (e:h.get? x=some ⟨.ref C,d,.fields #[.ref t,.none,.none,.none,.bool false,.none],#[]⟩):ObjOk P w H h x (XI x C d):=
 ⟨⟨t,e⟩,⟨_,e⟩,fun _ _ ⟨t',e'⟩ k=>⟨t',k _ e'⟩⟩
theorem Inv.forget {φ:Heap→Prop} (I:Inv X pins σ H s) (hx:H x=some (.ext φ)):Inv X pins σ (del H x) s:=by
 have nn:∀ b,H b=none→del H x b=none:=fun b e=>by unfold del;split;rfl;exact e
 have st:∀ b u,H b=some u→(∀ φ,u≠.ext φ)→del H x b=some u:=fun b u e ne=>by
  unfold del
  rw [if_neg]
  ·exact e
  ·rintro rfl
   rw [hx] at e
   cases e
   exact ne _ rfl
 refine ⟨I.ok,I.os,I.bare,⟨I.base.keep,I.base.slot,fun b u e n hx=>nn b (I.base.free b u e n hx),I.base.there,fun b xs e=>st b _ (I.base.tups b xs e) (by nofun),fun b u v e=>st b _ (I.base.frzs b u v e) (by nofun),fun b ps e=>?_⟩,
  I.loc,I.cell,nn _ I.free,fun y c e=>nn _ (I.freeC y c e),fun p hp=>?_,fun b u e=>?_,I.len⟩
 ·obtain ⟨more,q⟩:=I.base.tbls b ps e
  exact ⟨more,st b _ q (by nofun)⟩
 ·obtain ⟨e,n,r⟩:=I.pin p hp
  exact ⟨e,nn _ n,r⟩
 ·have e':H b=some u:=by
   unfold del at e
   split at e
   ·cases e
   ·exact e
  exact (I.hok b u e').stay (fun _ _ _ q=>q) (fun c q=>st c _ q (by nofun)) fun c xs q=>st c _ q (by nofun)
end
end L2
namespace L2
open PySem PySem.Spec PyProof.Rows
def XiB (P:Program) (w:World) (K:PySem.W.Frag) (mg:Str→Option Value) (base:Heap) (C:Addr) (k:Nat) (ps:List Str) (sp:Sp):Prop:=
 ∃ f fd,hU K C bmV "ValueError.__new__"=some f∧PySem.W.typeIn K (.ref f)=some (.type "function")∧Binds K fd ps []∧FnOk P w K mg base CX0 k f fd ps sp
section
variable {X:Cx} {E:XK}
def tRaiseI (C:Addr) (sp:Sp) (E:XK) (t:TA):TS:=fun _ σ H=>t σ H fun vs H1=>vs.length≤sizeLine∧
 ∀ e,H1 e=none→sp ((.ref e::vs)++[]) (upd H1 e (XI e C none)) (fun v H2=>v=.non∧∃ d,H2 e=some (XI e C d)∧E (.ref C) d (del H2 e)) E0
theorem ps_raiseI {C:Addr} {x:Str} {np cpos pos:Pos} {e:Expr} {es:List Expr} {t:TA} {k j:Nat} {ps:List Str} {sp:Sp} (hxe:XOut X E) (hex:X.ex=[]) (hr:Room j X.A) (hg:Gl X x) (hm:X.mg x=some (.ref C))
  (O:XiB X.prog X.w X.K X.mg X.base C k ps sp) (ha:PA X (e::es) t) (hj:k+1≤j:=by decide) (he:starEach (e::es) X.env=(false,eval e X.env)::starEach es X.env:=by rfl) (hpl:(backTo cpos (starEach es X.env)).any (·.1)=false:=by rfl)
  (hd:(x == ("__debug__":Str))=false:=by decide):PS X (.Raise (some (.Call (.Name x np) (e::es) [] cpos)) none pos) (tRaiseI C sp E t):=by
 intro pins s σ H D I h
 obtain ⟨f,fd,hfi,hft,hb,F⟩:=O
 obtain ⟨bm,N,nm,qn,bs,hd',sn,sub,ab,col,dd,k0,k1,k2,k3,k5,mN,hC,hN,hi,T⟩:=exc_objI I.ok.mod.kin hfi
 obtain ⟨oI,hoI,hcI⟩:=Option.map_eq_some_iff.mp hft
 refine Raise_call_initT (C:=C) (nm:=nm) (q:=qn) (N:=N) (bs:=bs) (bm:=bm) (hdct:=hd') (sn:=sn) (sub:=sub) (ab:=ab) (col:=col) (dd:=dd) (k0:=k0) (k1:=k1) (k2:=k2) (k3:=k3) (k5:=k5)
  PySem.F.excBase_ValueError (mN:=mN) (fI:=f) (oI:=oI) (T.hasType rfl) hr.hd (by rw [he];show (false || (backTo cpos (starEach es X.env)).any (·.1))=false;rw [hpl];rfl) hi hcI (dP I hg hm ⟨rfl,?_⟩ hd)
 have ha':=ha cpos pins s σ H _ I h
 rw [he] at ha' ⊢
 refine Calls.evalArgs_plain (thn ha' fun us s1 ⟨vs,H1,I1,r,hl,q⟩=>⟨rfl,by rw [← r.length];exact hl,I1.bk _ _ hC,hN.keeps I1.bk,T.keeps I1.bk,I1.bk _ _ (I.ok.mod.kin _ _ hoI),fun h' y hy=>?_⟩)
 obtain ⟨t',g1,_,_⟩:=hy.there
 have ny:=I1.hok.noObj hy.new
 have J:Inv X pins σ (upd H1 y (XI y C none)) { s1 with heap:=h' }:=(I1.kept (t':=s1.toks) hy.keeps).track ny (I1.off hex hy.new) (XI.ok g1)
 have hq:=q y ny
 have r2:Vals ((V.ref y::vs)++[]) ((Value.ref y::us)++[]):=Vals.append (.cons rfl r) .nil
 have hl2:((Value.ref y::us)++[]).length=ps.length:=by rw [← r2.length];exact F.len _ _ _ _ hq
 refine wpAny_call (codeAny_mono (F.run _ X.stack _ _ ⟨Value.ref y::us,[]⟩ _ _ _ E0 ((hr.mono hj).make C us []) (J.env0.make C us []) (hb _ (Value.ref y::us) J.kIn hl2) r2 hq) fun r s' hq'=>?_)
 cases r with
 | error e=>exact False.elim hq'
 | ok fl=>
  cases fl with
  | ret u=>
   obtain ⟨v,H',I3,rv,ev,d,hx,q3⟩:=J.after hq'
   subst ev
   obtain ⟨⟨t2,g2⟩,_⟩:=(show ObjOk X.prog X.w H' s'.heap y (XI y C d) from I3.hok y _ hx)
   refine ⟨rv,⟨t2,d,I3.bk _ _ hC,g2⟩,?_⟩
   refine hxe pins σ _ _ ⟨y,.ref C,d,del H' y,rfl,I3.forget hx,⟨by unfold del;rw [if_pos rfl],I1.off hex hy.new,_,_,none,g2,rfl,fun T z=>by cases z⟩,q3⟩
  | next=>exact False.elim hq'
  | brk=>exact False.elim hq'
  | cont=>exact False.elim hq'
end
end L2
namespace L2
open PySem PySem.Spec PyProof.Rows
section
variable {X:Cx} {e e1 e2 value:Expr} {es:List Expr} {pos apos np pos':Pos} {t:TA} {ta tv t1 t2:TE} {x f:Str} {G:Addr}
theorem upd_id {H:Hp} {a:Addr} {o:HO} (h:H a=some o):upd H a o=H:=by
 funext b
 by_cases hb:b=a
 ·subst hb
  rw [ad,h]
 ·rw [ak hb]
def tBI (K:PySem.W.Frag) (t:TA):TE:=fun σ H Q=>t σ H fun vs H1=>∃ e C d rest f,vs=.ref e::rest∧H1 e=some (XI e C d)∧hU K C bmV "ValueError.__new__"=some f∧rest.length≤sizeLine∧Q .non H1
theorem pe_binit {pl:Sem Bool} (cr:ClsRd X.K G) (hf:PySem.W.findCls X.K (.ref G) (.type "type") "__init__"=some (.val (.builtin "ValueError.__init__"))) (hm:X.mg x=some (.ref G)) (ha:PA X (e::es) t) (hg:Gl X x:=by rfl) (hdb:(x == ("__debug__":Str))=false:=by decide)
  (hst:starEach (e::es) X.env=(false,eval e X.env)::starEach es X.env:=by rfl) (hpl:(backTo pos (starEach es X.env)).any (·.1)=false:=by rfl)
  (ht:eval (.Call (.Attribute (.Name x np) "__init__" apos) (e::es) [] pos) X.env=(do
   let ov ← eval (.Name x np) X.env
   standAt apos.atName
   let (f,first) ← holding [ov] (getMethod ov "__init__" pl)
   callWith pos f first (backTo pos (starEach (e::es) X.env)) (backToKw pos (keywordEach [] X.env))):=by rfl):PE X (.Call (.Attribute (.Name x np) "__init__" apos) (e::es) [] pos) (tBI X.K t):=by
 intro pins s σ H Q I h
 refine PySem.W.methodCall_KW (pl:=pl) (dP I hg hm ?_ hdb) ht
 refine PySem.W.method_cls I.kIn cr.sg (PySem.W.cls_value I.kIn cr.rd hf (by decide +kernel) ?_)
 have I1:=I.tok (s.toks+1)
 refine PyProof.Rows.callWith_builtin1 (thn (ha pos pins _ σ H _ I1 h) fun us s1 ⟨vs,H1,I2,r1,q1⟩=>?_) hst hpl
 obtain ⟨y,C,d,rest,fi,rfl,hy,hfi,hl,q⟩:=q1
 cases r1 with
 | cons r2 r3=>
  cases r2
  obtain ⟨bm,N,nm,qn,bs,hd',sn,sub,ab,col,dd,k0,k1,k2,k3,k5,mN,hC,hN,hi,T⟩:=exc_objI I2.kIn hfi
  obtain ⟨⟨t0,g0⟩,_⟩:=(show ObjOk X.prog X.w H1 s1.heap y (XI y C d) from I2.hok y _ hy)
  refine exc_base_init PySem.F.excBase_ValueError T hC g0 (fun h' t1 g1 kp=>?_) (by rw [← r3.length];exact hl)
  have J:=I2.write (t':=s1.toks) (x:=y) (e:=y) (o:=XI y C d) (by rw [hy];exact True.intro) (.inl rfl) kp ⟨_,g1⟩ (XI.ok g1)
  rw [upd_id hy] at J
  exact ⟨.non,H1,J,rfl,q⟩
def tJ2 (t1 t2:TE):TE:=fun σ H Q=>t1 σ H fun x H1=>∃ a,x=.str a∧a.length≤sizeLine∧t2 σ H1 fun y H2=>∃ b,y=.str b∧a.length+b.length≤sizeLine∧Q (.str (a++b)) H2
theorem pe_j2 (h1:PE X e1 t1) (h2:PE X e2 t2):PE X (.JoinedStr [e1,e2] pos) (tJ2 t1 t2):=by
 intro pins s σ H Q I h
 refine JoinedStr_many (joinParts_cons (thn (h1 pins s σ H _ I h) fun u s1 ⟨x,H1,I1,rx,a,ex,ha,q⟩=>?_))
 subst ex
 obtain ⟨t,rfl⟩:=rx
 refine ⟨by rw [Str.empty_append];exact ha,joinParts_cons (thn (h2 pins s1 σ H1 _ I1 q) fun u s2 ⟨y,H2,I2,ry,b,ey,hb,q2⟩=>?_)⟩
 subst ey
 obtain ⟨t',rfl⟩:=ry
 have hl:((Str.empty++a)++b).length≤sizeLine:=by rw [Str.empty_append,strLen_append];exact hb
 refine ⟨hl,joinParts_nil ?_ hl⟩
 rw [Str.empty_append]
 exact ⟨.str _,H2,I2.tok _,⟨_,rfl⟩,q2⟩
def tFv (tv:TE):TE:=fun σ H Q=>tv σ H fun x H1=>∃ z,x=.str z∧z.length≤sizeLine∧Q (.str z) H1
theorem pe_fv (h:PE X value tv):PE X (.FormattedValue value (-1) none pos) (tFv tv):=by
 intro pins s σ H Q I hq
 refine FormattedValue_plain (thn (h pins s σ H _ I hq) fun u s1 ⟨x,H1,I1,rx,z,ex,hz,q⟩=>?_)
 subst ex
 obtain ⟨t,rfl⟩:=rx
 exact formatField_str (fun t' tk=>⟨.str z,H1,I1.tok tk,⟨_,rfl⟩,q⟩) hz
def sXf (K:PySem.W.Frag) (ta tv:TE) (f:Str):TS:=fun D σ H=>tv σ H fun y H1=>ta σ H1 fun x H2=>∃ a C,x=.ref a∧H2 a=some (XI a C none)∧ExI K C∧NoAttr K C f∧
 ∀ dx,H2 dx=none→D.nx σ (upd (upd H2 a (XI a C (some dx))) dx (.xd [(f,y)]))
theorem ps_xfld {o:Expr} (ha:PE X o ta) (hv:PE X value tv) (hs:swapsWith value (some (.Attribute o f pos')) pos.line X.env=pure false) (hex:X.ex=[]:=by rfl):PS X (.Assign [.Attribute o f pos'] value pos) (sXf X.K ta tv f):=by
 intro pins s σ H D I h
 refine plainObj_wpAny_Assign_Attribute (thn (hv pins s σ H _ I h) fun u s1 ⟨y,H1,I1,ry,q⟩=>thn (ha pins s1 σ H1 _ I1 q) fun ov s2 ⟨x,H2,I2,rx,a,C,ex,ea,c,n,q2⟩=>?_) hs
 subst ex
 obtain rfl:ov=Value.ref a:=rx
 obtain ⟨⟨t0,g0⟩,_⟩:=(show ObjOk X.prog X.w H2 s2.heap a (XI a C none) from I2.hok a _ ea)
 refine exc_set0 I2.kIn c n g0 rfl (by nofun) rfl fun h' tk' g1 ns kp=>?_
 have nd:H2 s2.heap.objs.size=none:=I2.hok.fresh (Nat.le_refl _)
 have ne:s2.heap.objs.size≠a:=fun z=>by rw [z,ea] at nd;cases nd
 have J:=I2.write (t':=tk') (x:=a) (e:=a) (o:=XI a C (some s2.heap.objs.size)) (by rw [ea];exact True.intro) (.inl rfl) kp ⟨_,g1⟩ (XI.ok g1)
 have J2:=J.track (x:=s2.heap.objs.size) (o:=.xd [(f,y)]) (by rw [ak ne];exact nd) (I2.off hex (Heap.get?_none_of_le (Nat.le_refl _))) ⟨_,ns,fun g=>?_⟩
 ·exact ⟨σ,_,J2,q2 _ nd⟩
 ·show RelO (List.lookup g [(f,y)]) (if g=f then some u else none)
  rw [List.lookup_cons]
  by_cases h:g=f
  ·rw [if_pos h,show (g == f)=true from beq_iff_eq.mpr h]
   exact ry
  ·rw [if_neg h,show (g == f)=false from beq_eq_false_iff_ne.mpr h]
   exact True.intro
def tXf (K:PySem.W.Frag) (ta:TE) (f:Str):TE:=fun σ H Q=>ta σ H fun x H1=>∃ a C dx fs v,x=.ref a∧H1 a=some (XO a C (some dx))∧H1 dx=some (.xd fs)∧ExA K C∧PySem.W.hasDictIn K C=true∧PySem.W.findIn K (.ref C) f=some none∧fs.lookup f=some v∧Q v H1
theorem gY (he:PE X e ta) (hb:attributeBase e f X.env (eval e X.env)=eval e X.env):PE X (.Attribute e f pos) (tXf X.K ta f):=by
 intro pins s σ H Q I h
 refine attr_of hb (thn (he pins s σ H _ I h) fun u s1 ⟨x,H1,I1,rx,a,C,dx,fs,v,ex,ea,ed,c,hd,nf,l,q⟩=>?_)
 subst ex
 obtain rfl:u=Value.ref a:=rx
 obtain ⟨⟨vs,sl,g0⟩,_⟩:=(show ObjOk X.prog X.w H1 s1.heap a (XO a C (some dx)) from I1.hok a _ ea)
 obtain ⟨mA,ns,rel⟩:=(show ObjOk X.prog X.w H1 s1.heap dx (.xd fs) from I1.hok dx _ ed)
 obtain ⟨od,ho,hl⟩:=lookIn_ns ns
 obtain ⟨u,hu,ru⟩:=RelO.some_of (v:=v) (o:=mA f) (by rw [← l];exact rel f)
 have J:PySem.W.InstAt s1.heap a ⟨.ref C,some dx,.fields vs,sl⟩ C (some od):=⟨g0,rfl,rfl,ho⟩
 have hfo:PySem.W.findObj X.K C (some od) f=some (.value u):=PySem.W.findObj_own hd nf rfl (by rw [hl,hu])
 obtain ⟨hh,gg,dd,tt,os⟩:=s1
 unfold getAttr
 refine wpAny_bind (wpAny_mkText ?_)
 exact exc_by (s:=⟨hh,gg,dd,tt+1,os⟩) c I1.kIn J (handed_of ru) (fun A R q=>exc_call_val (s:=⟨hh,gg,dd,tt+1,os⟩) c I1.kIn J hfo q) ⟨v,H1,I1.tok _,ru,q⟩
def XAtD (H:Hp) (x C:Addr) (fs:List (Str × V)):Prop:=∃ dx,H x=some (XO x C (some dx))∧H dx=some (.xd fs)
theorem XAtD.mono {H H':Hp} {x C:Addr} {fs:List (Str × V)} (h:XAtD H x C fs) (s:Same H H'):XAtD H' x C fs:=let ⟨dx,a,b⟩:=h;⟨dx,s _ _ a,s _ _ b⟩
def rIsXD (K:PySem.W.Frag) (c:Value):List V→Hp→VK→Prop:=fun vs H Q=>∃ x D y b fs,vs=[.ref x,y]∧(∀ u,RelV y u→u=c)∧XAtD H x D fs∧ExA K D∧PySem.W.kitOne K (.ref D) c=some b∧Q (.bl b) H
theorem az {c:Value}:gj X (.builtin "isinstance") (rIsXD X.K c):=by
 intro pins s σ H xs us Q I r h
 obtain ⟨x,D,y,b,fs,rfl,hc,⟨dx,hx,hd⟩,ea,e,q⟩:=h
 cases r with
 | cons r1 r2=>
  cases r2 with
  | cons r3 r4=>
   cases r4
   have:=hc _ r3
   subst this
   cases r1
   obtain ⟨⟨vs,sl,g⟩,_⟩:=(show ObjOk X.prog X.w H s.heap x (XO x D (some dx)) from I.hok x _ hx)
   obtain ⟨mA,ns,rel⟩:=(show ObjOk X.prog X.w H s.heap dx (.xd fs) from I.hok dx _ hd)
   obtain ⟨od,ho,hl⟩:=lookIn_ns ns
   exact PySem.W.kia_one (kitx_exc ea) I.kIn ⟨_,some od,g,rfl,rfl,ho⟩ e (fun z=>nomatch z) fun tk=>⟨.bl b,H,I.tok tk,rfl,q⟩
end
end L2
namespace L2
open PySem PySem.Spec PyProof.Rows
section
variable {P:Program} {w:World} {K:PySem.W.Frag} {mg:Str→Option Value} {base:Heap} {qual:Str} {C:Addr} {st:Stmt} {N ps:List Str} {k:Nat} {sp:Sp}
def XiDe (K:PySem.W.Frag) (C:Addr) (qual:Str) (st:Stmt) (ps:List Str):Prop:=∃ f fd,FunG K "__init__" qual st f fd∧hU K C bmV "ValueError.__new__"=some f∧PySem.W.typeIn K (.ref f)=some (.type "function")∧Binds K fd ps []
theorem XiDe.ok (F:XiDe K C qual st ps) (S:FnScope N ps (ag st)) (len:∀ vs H Q E,sp vs H Q E→vs.length=ps.length) (hbody:fo P w K mg base qual st N k sp):XiB P w K mg base C (k+1) ps sp:=
 let ⟨f,fd,a,b,c,d⟩:=F
 ⟨f,fd,b,c,d,a.ok S len (hbody f)⟩
theorem XiDe.fi (F:XiDe K C qual st ps):∃ f,hU K C bmV "ValueError.__new__"=some f:=let ⟨f,_,_,b,_⟩:=F;⟨f,b⟩
end
end L2
namespace L2
open PySem PySem.Spec PyProof.Rows
open Builtin Builtin.ObjectAttr
section
variable {prog:Program} {w:World} {A:Around} {E:Value→Shared→Prop} {s:Shared} {K:PySem.W.Frag} {x C D:Addr} {o:Obj} {name:Str} {v:Value} {m:Str→Option Value} {ns:List Str}
theorem exc_set1 {Q:Unit→Shared→Prop} (X:K.In s.heap) (F:ExI K C) (n:NoAttr K C name) (hx:s.heap.get? x=some o) (hc:o.cls=.ref C) (hnc:∀ c,o.data≠.cls c) (hdn:o.dict=some D) (hD:s.heap.Ns1 D m) (hW:Within m ns) (hl:ns.length<100) (hxD:x≠D)
  (hq:∀ h' tk',h'.get? x=some o→h'.Ns1 D (fun y=>if y=name then some v else m y)→(∀ b ob,b≠D→s.heap.get? b=some ob→h'.get? b=some ob)→Q () { s with heap:=h',toks:=tk' }) :
  wpAny (model prog w) A (setAttr (.ref x) name v) Q E s:=by
 have hno:PySem.W.notCls o=true:=by
  unfold PySem.W.notCls
  split
  ·rename_i c e
   exact absurd e (hnc c)
  ·rfl
 obtain ⟨od,esd,epd,hod,_⟩:=id hD
 have I:PySem.W.InstAt s.heap x o C (some od):=⟨hx,hc,hno,by rw [hdn];exact hod⟩
 refine PySem.W.set_plain X I F.sa (exc_open (s:={ s with toks:=s.toks+1 }) X I F n fun b=>?_)
 obtain ⟨cd,tl,hcl,hm,hd⟩:=F.cl
 obtain ⟨h,g,d,t,os⟩:=s
 dsimp only at hx X hq hD hod
 unfold storeInOwnDict ownDictForStores instanceDict
 refine wpAny_bind (wpAny_pure (wpAny_bind (wpAny_bind (wpAny_loadPart hx ?_))))
 rw [hc]
 refine wpAny_bind ((PySem.W.looks_clsIn X hcl).at ?_)
 rw [hd,hdn]
 simp only [Bool.not_true,Bool.false_eq_true,if_false]
 refine wpAny_pure ?_
 show wpAny _ _ (storeInDict D (.str name t) name v) _ _ _
 unfold storeInDict newKeyGuard
 refine wpAny_bind (wpAny_pure (wpAny_bind (wpAny_nsSet1 hD fun h' hn' hs=>?_)))
 obtain ⟨oD,esD,epD,hoD,hdD,hcD⟩:=hn'.count (Within.cons name v hW)
 refine wpAny_bind (wpAny_lookBehind hoD (by rw [hdD];exact pastItsLine_dict (Nat.le_trans hcD (by rw [List.length_cons,sizeLine_eq];omega))) ?_)
 exact wpAny_pure (hq h' _ ((hs.2 x hxD).trans hx) hn' fun b ob hb e=>(hs.2 b hb).trans e)
end
section
variable {X:Cx} {o value:Expr} {pos pos':Pos} {ta tv:TE} {f:Str}
def XDm (dx:Addr) (fs:List (Str × V)):HO:=.ext fun h=>∃ mA,h.Ns1 dx mA∧∀ g,RelO (fs.lookup g) (mA g)
theorem XDm.ok {P:Program} {w:World} {H:Hp} {h:Heap} {dx:Addr} {fs:List (Str × V)} {mA:Str→Option Value} (n:h.Ns1 dx mA) (r:∀ g,RelO (fs.lookup g) (mA g)):ObjOk P w H h dx (XDm dx fs):=
 ⟨⟨mA,n,r⟩,(let ⟨o,_,_,e,_⟩:=n;⟨o,e⟩),fun _ _ ⟨mB,n',r'⟩ k=>⟨mB,n'.at fun o e=>k o e,r'⟩⟩
theorem rel_cons {fs:List (Str × V)} {f:Str} {y:V} {u:Value} {mA:Str→Option Value} (ry:RelV y u) (rel:∀ g,RelO (fs.lookup g) (mA g)) (g:Str):RelO (List.lookup g ((f,y)::fs)) (if g=f then some u else mA g):=by
 rw [List.lookup_cons]
 by_cases h:g=f
 ·rw [if_pos h,show (g == f)=true from beq_iff_eq.mpr h]
  exact ry
 ·rw [if_neg h,show (g == f)=false from beq_eq_false_iff_ne.mpr h]
  exact rel g
def sXf0 (K:PySem.W.Frag) (ta tv:TE) (f:Str):TS:=fun D σ H=>tv σ H fun y H1=>ta σ H1 fun x H2=>∃ a C,x=.ref a∧H2 a=some (XI a C none)∧ExI K C∧NoAttr K C f∧
 ∀ dx,H2 dx=none→D.nx σ (upd (upd H2 a (XI a C (some dx))) dx (XDm dx [(f,y)]))
theorem ps_xfld0 (ha:PE X o ta) (hv:PE X value tv) (hs:swapsWith value (some (.Attribute o f pos')) pos.line X.env=pure false) (hex:X.ex=[]:=by rfl):PS X (.Assign [.Attribute o f pos'] value pos) (sXf0 X.K ta tv f):=by
 intro pins s σ H D I h
 refine plainObj_wpAny_Assign_Attribute (thn (hv pins s σ H _ I h) fun u s1 ⟨y,H1,I1,ry,q⟩=>thn (ha pins s1 σ H1 _ I1 q) fun ov s2 ⟨x,H2,I2,rx,a,C,ex,ea,c,n,q2⟩=>?_) hs
 subst ex
 obtain rfl:ov=Value.ref a:=rx
 obtain ⟨⟨t0,g0⟩,_⟩:=(show ObjOk X.prog X.w H2 s2.heap a (XI a C none) from I2.hok a _ ea)
 refine exc_set0 I2.kIn c n g0 rfl (by nofun) rfl fun h' tk' g1 ns kp=>?_
 have nd:H2 s2.heap.objs.size=none:=I2.hok.fresh (Nat.le_refl _)
 have ne:s2.heap.objs.size≠a:=fun z=>by rw [z,ea] at nd;cases nd
 have J:=I2.write (t':=tk') (x:=a) (e:=a) (o:=XI a C (some s2.heap.objs.size)) (by rw [ea];exact True.intro) (.inl rfl) kp ⟨_,g1⟩ (XI.ok g1)
 have J2:=J.track (x:=s2.heap.objs.size) (o:=XDm s2.heap.objs.size [(f,y)]) (by rw [ak ne];exact nd) (I2.off hex (Heap.get?_none_of_le (Nat.le_refl _))) (XDm.ok ns (rel_cons ry fun g=>True.intro))
 exact ⟨σ,_,J2,q2 _ nd⟩
def sXf1 (K:PySem.W.Frag) (ta tv:TE) (f:Str):TS:=fun D σ H=>tv σ H fun y H1=>ta σ H1 fun x H2=>∃ a C dx fs,x=.ref a∧H2 a=some (XI a C (some dx))∧H2 dx=some (XDm dx fs)∧a≠dx∧fs.length≤10∧ExI K C∧NoAttr K C f∧D.nx σ (upd H2 dx (.xd ((f,y)::fs)))
theorem ps_xfld1 (ha:PE X o ta) (hv:PE X value tv) (hs:swapsWith value (some (.Attribute o f pos')) pos.line X.env=pure false):PS X (.Assign [.Attribute o f pos'] value pos) (sXf1 X.K ta tv f):=by
 intro pins s σ H D I h
 refine plainObj_wpAny_Assign_Attribute (thn (hv pins s σ H _ I h) fun u s1 ⟨y,H1,I1,ry,q⟩=>thn (ha pins s1 σ H1 _ I1 q) fun ov s2 ⟨x,H2,I2,rx,a,C,dx,fs,ex,ea,ed,ne,hl,c,n,q2⟩=>?_) hs
 subst ex
 obtain rfl:ov=Value.ref a:=rx
 obtain ⟨⟨t0,g0⟩,_⟩:=(show ObjOk X.prog X.w H2 s2.heap a (XI a C (some dx)) from I2.hok a _ ea)
 obtain ⟨⟨mA,nsA,rel⟩,_⟩:=(show ObjOk X.prog X.w H2 s2.heap dx (XDm dx fs) from I2.hok dx _ ed)
 have W:Within mA (fs.map (·.1)):=fun g hg=>by
  have r:=rel g
  cases e:fs.lookup g with
  | none=>
   rw [e] at r
   cases e2:mA g with
   | none=>exact absurd e2 hg
   | some v=>rw [e2] at r;exact r.elim
  | some v=>exact List.mem_map.mpr ⟨(g,v),PySem.mem_of_lookup e,rfl⟩
 refine exc_set1 I2.kIn c n g0 rfl (by nofun) rfl nsA W (by rw [List.length_map];omega) ne fun h' tk' g1 ns' kp=>?_
 have J:=I2.write (t':=tk') (x:=dx) (e:=dx) (o:=.xd ((f,y)::fs)) (by rw [ed];exact True.intro) (.inl rfl) kp (let ⟨o,_,_,e,_⟩:=ns';⟨o,e⟩) ⟨_,ns',rel_cons ry rel⟩
 exact ⟨σ,_,J,q2⟩
end
end L2
namespace L2
open PySem PySem.Spec PyProof.Rows
section
variable {X:Cx}
def rSlS:V→Option Int→Option Int→Hp→VK→Prop:=fun x lo hi H Q=>∃ z,x=.str z∧z.length≤sizeLine∧Q (.str (Txt.slice z lo hi)) H
theorem pe_gi {x:Str} {i:Int} {pos:Pos} (h:∃ tk,X.mg x=some (.int i tk)) (hg:Gl X x:=by rfl) (hd:(x == ("__debug__":Str))=false:=by decide):PE X (.Name x pos) (tC (.int i)):=by
 obtain ⟨tk,h⟩:=h
 exact aM hg h ⟨tk,rfl⟩ hd
def rEqN (K:PySem.W.Frag):R2:=fun x y H Q=>∃ p q xs,x=.ref p∧y=.ref q∧SqL K H p xs∧SqL K H q []∧Q (.bl xs.isEmpty) H
def rNeN (K:PySem.W.Frag):R2:=fun x y H Q=>∃ p q xs,x=.ref p∧y=.ref q∧SqL K H p xs∧SqL K H q []∧Q (.bl (!xs.isEmpty)) H
theorem op_neN (hu:X.A.units<cLine):OpR X (compareOp .NotEq) (rNeN X.K):=by
 intro pins s σ H x y v u Q I rx ry h
 obtain ⟨p,q,xs,rfl,rfl,hp,hq,k⟩:=h
 cases rx
 cases ry
 obtain ⟨us,r,pl,hz⟩:=I.list hp
 obtain ⟨ws,r',pl',hz'⟩:=I.list hq
 cases r'
 cases r with
 | nil=>exact SeqAt.RcNeAt.lists (e:=fun _=>true) pl.isList pl'.isList rfl hu (fun j h1 _=>absurd h1 (by simp)) X.prog X.w X.xe _ ⟨.bl false,H,I,rfl,k⟩
 | cons=>exact SeqAt.RcNeAt.lists_lengths pl.isList pl'.isList (by simp) hu X.prog X.w X.xe _ ⟨.bl true,H,I,rfl,k⟩
theorem pe_fldK {K:PySem.W.Frag} {o:Expr} {f:Str} {pos:Pos} {ta:TE} (hK:X.K=K) (h:PE X o ta) (hb:attributeBase o f X.env (eval o X.env)=eval o X.env):PE X (.Attribute o f pos) (tFld K ta f):=by
 subst hK
 exact bc h hb
end
end L2
namespace L2
open PySem PySem.Spec PyProof.Rows
section
variable {κ:Type} [DecidableEq κ]
def bP (kvs:List (κ × V)) (k:κ):Option V:=(kvs.find? fun kv=>decide (kv.1=k)).map (·.2)
def cX (kvs:List (κ × V)) (k:κ) (v:V):List (κ × V):=
 if (kvs.any fun kv=>decide (kv.1=k))=true then kvs.map (fun kv=>if kv.1=k then (kv.1,v) else kv) else kvs++[(k,v)]
def fP (kvs:List (κ × V)) (k:κ):List (κ × V):=kvs.filter fun kv=>decide (kv.1≠k)
theorem bR {p:κ × V} {r:List (κ × V)} {k:κ} (e:p.1=k):bP (p::r) k=some p.2:=by simp [bP,List.find?_cons,e]
theorem bS {p:κ × V} {r:List (κ × V)} {k:κ} (e:¬ p.1=k):bP (p::r) k=bP r k:=by simp [bP,List.find?_cons,e]
theorem dD (k:κ):∀ kvs:List (κ × V),(kvs.any fun kv=>decide (kv.1=k))=(bP kvs k).isSome
 | []=>rfl
 | p::r=>by
  rw [List.any_cons]
  by_cases e:p.1=k
  ·simp only [bR e,decide_eq_true e,Bool.true_or,Option.isSome_some]
  ·rw [bS e,decide_eq_false e,Bool.false_or];exact dD k r
theorem valV_map (k j:κ) (y:V):∀ kvs:List (κ × V),bP (kvs.map fun kv=>if kv.1=k then (kv.1,y) else kv) j=(bP kvs j).map fun x=>if j=k then y else x
 | []=>rfl
 | p::r=>by
  have ih:=valV_map k j y r
  rw [List.map_cons]
  by_cases h:p.1=k
  ·rw [if_pos h]
   by_cases e:p.1=j
   ·rw [bR (p:=(p.1,y)) e,bR e,Option.map_some,if_pos (e.symm.trans h)]
   ·rw [bS (p:=(p.1,y)) e,bS e,ih]
  ·rw [if_neg h]
   by_cases e:p.1=j
   ·rw [bR (p:=p) e,bR e,Option.map_some,if_neg (fun z=>h (e.trans z))]
   ·rw [bS (p:=p) e,bS e,ih]
theorem valV_snoc (k j:κ) (y:V):∀ kvs:List (κ × V),bP kvs k=none→bP (kvs++[(k,y)]) j=if j=k then some y else bP kvs j
 | [],_=>by
  by_cases e:k=j
  ·rw [if_pos e.symm];exact bR (p:=(k,y)) e
  ·rw [if_neg (fun z=>e z.symm)];exact bS (p:=(k,y)) e
 | p::r,hn=>by
  rw [List.cons_append]
  have hk:¬ p.1=k:=fun z=>by rw [bR z] at hn;cases hn
  rw [bS hk] at hn
  have ih:=valV_snoc k j y r hn
  by_cases e:p.1=j
  ·rw [bR e,bR e,if_neg (fun z=>hk (e.trans z))]
  ·rw [bS e,bS e,ih]
theorem valV_put (kvs:List (κ × V)) (k j:κ) (y:V):bP (cX kvs k y) j=if j=k then some y else bP kvs j:=by
 unfold cX
 by_cases a:(kvs.any fun kv=>decide (kv.1=k))=true
 ·rw [if_pos a,valV_map]
  rw [dD] at a
  by_cases e:j=k
  ·obtain ⟨x,hx⟩:=Option.isSome_iff_exists.mp a
   rw [if_pos e,e,hx,Option.map_some,if_pos rfl]
  ·rw [if_neg e]
   cases bP kvs j with
   | none=>rfl
   | some x=>rw [Option.map_some,if_neg e]
 ·rw [if_neg a]
  refine valV_snoc k j y kvs ?_
  rw [dD] at a
  cases q:bP kvs k with
  | none=>rfl
  | some x=>rw [q] at a;exact (a rfl).elim
theorem fO (kvs:List (κ × V)) (k:κ) (v:V):(cX kvs k v).length≤kvs.length+1:=by
 unfold cX
 split
 ·rw [List.length_map];omega
 ·rw [List.length_append,List.length_cons,List.length_nil];omega
theorem putK_new {kvs:List (κ × V)} {k:κ} (v:V) (h:bP kvs k=none):cX kvs k v=kvs++[(k,v)]:=by
 unfold cX
 rw [dD,h]
 exact if_neg (by decide)
theorem RelO.isSome_eq {o:Option V} {u:Option Value} (r:RelO o u):o.isSome=u.isSome:=by
 cases o with
 | none=>cases u with
  | none=>rfl
  | some _=>exact (show False from r).elim
 | some _=>cases u with
  | none=>exact (show False from r).elim
  | some _=>rfl
theorem RelO.getD {o:Option V} {u:Option Value} {d:V} {d':Value} (r:RelO o u) (rd:RelV d d'):RelV (o.getD d) (u.getD d'):=by
 cases o with
 | none=>cases u with
  | none=>exact rd
  | some _=>exact (show False from r).elim
 | some _=>cases u with
  | none=>exact (show False from r).elim
  | some _=>exact r
theorem KV.val {kvs:List (κ × V)} {vs:List (κ × Value)} (r:KV kvs vs) (k:κ):RelO (bP kvs k) (valueAt vs k):=by
 unfold KV at r
 induction r with
 | nil=>exact True.intro
 | @cons p q ps qs h t ih=>
  obtain ⟨h1,h2⟩:=h
  by_cases e:p.1=k
  ·have e':q.1=k:=h1.symm.trans e
   have b:valueAt (q::qs) k=some q.2:=by simp [valueAt,List.find?_cons,e']
   rw [bR e,b];exact h2
  ·have e':¬ q.1=k:=fun z=>e (h1.trans z)
   have b:valueAt (q::qs) k=valueAt qs k:=by simp [valueAt,List.find?_cons,e']
   rw [bS e,b];exact ih
theorem KV.any {kvs:List (κ × V)} {vs:List (κ × Value)} (r:KV kvs vs) (k:κ):(kvs.any fun kv=>decide (kv.1=k))=vs.any fun kv=>decide (kv.1=k):=by
 unfold KV at r
 induction r with
 | nil=>rfl
 | cons h t ih=>rw [List.any_cons,List.any_cons,ih,h.1]
theorem KV.repl {kvs:List (κ × V)} {vs:List (κ × Value)} (r:KV kvs vs) (k:κ) {y:V} {u:Value} (ry:RelV y u) :
  KV (kvs.map fun kv=>if kv.1=k then (kv.1,y) else kv) (vs.map fun kv=>if kv.1=k then (kv.1,u) else kv):=by
 unfold KV at r ⊢
 induction r with
 | nil=>exact .nil
 | @cons p q ps qs h t ih=>
  rw [List.map_cons,List.map_cons]
  refine .cons ?_ ih
  obtain ⟨h1,h2⟩:=h
  by_cases e:p.1=k
  ·rw [if_pos e,if_pos (h1.symm.trans e)];exact ⟨h1,ry⟩
  ·rw [if_neg e,if_neg (fun z=>e (h1.trans z))];exact ⟨h1,h2⟩
theorem KV.put {kvs:List (κ × V)} {vs:List (κ × Value)} (r:KV kvs vs) (k:κ) {y:V} {u:Value} (ry:RelV y u):KV (cX kvs k y) (stored vs k u):=by
 unfold cX stored
 rw [r.any k]
 by_cases e:(vs.any fun kv=>decide (kv.1=k))=true
 ·rw [if_pos e,if_pos e];exact r.repl k ry
 ·rw [if_neg e,if_neg e];exact Paired.snoc r ⟨rfl,ry⟩
theorem KV.length {kvs:List (κ × V)} {vs:List (κ × Value)} (r:KV kvs vs):kvs.length=vs.length:=Paired.length r
end
theorem kV_is {P:Program} {w:World} {k:Key} {u:Value} (r:RelV (kV k) u):(a9 P w).is k u=true:=by
 cases k with
 | inl i=>obtain ⟨t,e⟩:=(show ∃ t,u=Value.int i t from r);subst e;exact mixKind_int P w i t
 | inr x=>obtain ⟨t,e⟩:=(show ∃ t,u=Value.str x t from r);subst e;exact mixKind_str P w x t
theorem kV_inj {a b:Key} (e:kV a=kV b):a=b:=by
 cases a with
 | inl i=>cases b with
  | inl j=>have e':V.int i=V.int j:=e;injection e' with e';rw [e']
  | inr y=>exact nomatch (show V.int i=V.str y from e)
 | inr x=>cases b with
  | inl j=>exact nomatch (show V.str x=V.int j from e)
  | inr y=>have e':V.str x=V.str y:=e;injection e' with e';rw [e']
theorem items_are {P:Program} {w:World}:∀ {ks:List Key} {us:List Value},Vals (ks.map kV) us→ItemsAre (a9 P w) ks us
 | [],_,r=>by rw [List.map_nil] at r;cases r;exact .nil
 | k::ks,_,r=>by
  rw [List.map_cons] at r
  cases r with
  | cons h t=>exact .cons (kV_is h) (items_are t)
abbrev KT (H:Hp):List (List Key × V)→List (List Key × Addr × Value)→Prop:=Paired fun p q=>p.1=q.1∧H q.2.1=some (.tup (p.1.map kV))∧RelV p.2 q.2.2
theorem KT.val {H:Hp} {kvs:List (List Key × V)} {xs:List (List Key × Addr × Value)} (r:KT H kvs xs) (k:List Key):RelO (bP kvs k) ((atKey xs k).map (·.2)):=by
 induction r with
 | nil=>exact True.intro
 | @cons p q ps qs h t ih=>
  obtain ⟨h1,_,h2⟩:=h
  by_cases e:p.1=k
  ·have e':q.1=k:=h1.symm.trans e
   have b:atKey (q::qs) k=some q.2:=by simp [atKey,List.find?_cons,e']
   rw [bR e,b];exact h2
  ·have e':¬ q.1=k:=fun z=>e (h1.trans z)
   have b:atKey (q::qs) k=atKey qs k:=by simp [atKey,List.find?_cons,e']
   rw [bS e,b];exact ih
theorem KT.repl {H:Hp} {kvs:List (List Key × V)} {xs:List (List Key × Addr × Value)} (r:KT H kvs xs) (k:List Key) {y:V} {u:Value} (ry:RelV y u) :
  KT H (kvs.map fun kv=>if kv.1=k then (kv.1,y) else kv) (xs.map (putAt k u)):=by
 induction r with
 | nil=>exact .nil
 | @cons p q ps qs h t ih=>
  rw [List.map_cons,List.map_cons]
  refine .cons ?_ ih
  obtain ⟨h1,h2,h3⟩:=h
  unfold putAt
  by_cases e:p.1=k
  ·rw [if_pos e,if_pos (h1.symm.trans e)];exact ⟨h1,h2,ry⟩
  ·rw [if_neg e,if_neg (fun z=>e (h1.trans z))];exact ⟨h1,h2,h3⟩
theorem KT.put {H:Hp} {kvs:List (List Key × V)} {xs:List (List Key × Addr × Value)} (r:KT H kvs xs) (k:List Key) {b:Addr} {y:V} {u:Value} (hb:H b=some (.tup (k.map kV))) (ry:RelV y u) :
  KT H (cX kvs k y) (storedH xs k b u):=by
 have e:(kvs.any fun kv=>decide (kv.1=k))=(atKey xs k).isSome:=by
  rw [dD,(r.val k).isSome_eq,Option.isSome_map]
 unfold cX storedH
 rw [e]
 by_cases q:(atKey xs k).isSome=true
 ·rw [if_pos q,if_pos q];exact r.repl k ry
 ·rw [if_neg q,if_neg q];exact Paired.snoc r ⟨rfl,hb,ry⟩
theorem KT.keeps {H H':Hp} {kvs:List (List Key × V)} {xs:List (List Key × Addr × Value)} (r:KT H kvs xs) (ht:∀ b ys,H b=some (.tup ys)→H' b=some (.tup ys)):KT H' kvs xs:=
 Paired.mapP r fun _ _ z=>⟨z.1,ht _ _ z.2.1,z.2.2⟩
section
variable {P:Program} {w:World} {H:Hp} {h:Heap} {a:Addr}
theorem rd_of {u:HO} (ok:HOk P w H h) (e:Rd H a u):ObjOk P w H h a u:=e.ok ok
theorem gi {kvs:List (Key × V)} (ok:HOk P w H h) (e:Rd H a (.dK kvs)):kvs.length≤sizeLine∧(a == sysModules)=false∧∃ vs,KV kvs vs∧h.DictOf (a9 P w) a vs:=
 show ObjOk P w H h a (.dK kvs) from rd_of ok e
theorem dk_of {kvs:List (Key × V)} (ok:HOk P w H h) (e:H a=some (.dK kvs)):kvs.length≤sizeLine∧(a == sysModules)=false∧∃ vs,KV kvs vs∧h.DictOf (a9 P w) a vs:=gi ok (.inl e)
theorem key_of {ks:List Key} (ok:HOk P w H h) (e:H a=some (.tup (ks.map kV))):(tupleKind (a9 P w)).is h ks a:=by
 obtain ⟨_,its,r,o,h1,h2,n,h3⟩:=(show ObjOk P w H h a (.tup (ks.map kV)) from ok a _ e)
 exact ⟨o,its.toArray,n,h1,h2,h3,by simpa using items_are r⟩
theorem dt_rd {kvs:List (List Key × V)} (ok:HOk P w H h) (e:Rd H a (.dT kvs)):kvs.length≤sizeLine∧(a == sysModules)=false∧
  ∃ xs,KT H kvs xs∧h.DictOfH (tupleKind (a9 P w)) a xs:=by
 obtain ⟨z,y,xs,r,o,es,ep,h1,h2,h3,h4,h5⟩:=(show ObjOk P w H h a (.dT kvs) from rd_of ok e)
 refine ⟨z,y,xs,r,o,es,ep,h1,h2,h3,h4,fun x hx=>?_,h5⟩
 have all:∀ {l:List (List Key × V)} {m:List (List Key × Addr × Value)},KT H l m→∀ x∈m,(tupleKind (a9 P w)).is h x.1 x.2.1:=by
  intro l m q
  induction q with
  | nil=>intro x hx;exact nomatch hx
  | @cons p q ps qs hq t ih=>
   intro x hx
   rcases List.mem_cons.mp hx with e | hx
   ·subst e
    exact key_of ok (by rw [← hq.1];exact hq.2.1)
   ·exact ih x hx
 exact all r x hx
theorem dt_of {kvs:List (List Key × V)} (ok:HOk P w H h) (e:H a=some (.dT kvs)):kvs.length≤sizeLine∧(a == sysModules)=false∧
  ∃ xs,KT H kvs xs∧h.DictOfH (tupleKind (a9 P w)) a xs:=dt_rd ok (.inl e)
end
def DGet (H:Hp) (a:Addr) (y:V) (r:Option V):Prop:=
 (∃ kvs k,Rd H a (.dK kvs)∧y=kV k∧r=bP kvs k)∨∃ kvs k b,Rd H a (.dT kvs)∧y=.ref b∧H b=some (.tup (k.map kV))∧r=bP kvs k
def DPut (H:Hp) (a:Addr) (y v:V) (H':Hp):Prop:=
 (∃ kvs k,H a=some (.dK kvs)∧y=kV k∧kvs.length<sizeLine∧H'=upd H a (.dK (cX kvs k v)))∨
 ∃ kvs k b,H a=some (.dT kvs)∧y=.ref b∧H b=some (.tup (k.map kV))∧kvs.length<sizeLine∧H'=upd H a (.dT (cX kvs k v))
theorem DGet.k {H:Hp} {a:Addr} {kvs:List (Key × V)} {k:Key} (e:H a=some (.dK kvs)):DGet H a (kV k) (bP kvs k):=.inl ⟨kvs,k,.inl e,rfl,rfl⟩
theorem DPut.k {H:Hp} {a:Addr} {kvs:List (Key × V)} {k:Key} {v:V} (e:H a=some (.dK kvs)) (hl:kvs.length<sizeLine):DPut H a (kV k) v (upd H a (.dK (cX kvs k v))):=.inl ⟨kvs,k,e,rfl,hl,rfl⟩
section
variable {X:Cx} {pins:List (Addr × Obj)} {σ:St} {H:Hp} {s:Shared} {a:Addr} {y v:V} {u r:Value} {o:Option V} {A:Around} {E:Value→Shared→Prop}
theorem Inv.big (I:Inv X pins σ H s):sysModules<s.heap.objs.size:=by
 have h:mainGlobals<s.heap.objs.size:=(I.mod.glob.keeps I.bk).lt
 exact Nat.lt_trans (by decide) h
theorem d_getItem {Q:Value→Shared→Prop} (hu:A.units+1<cLine) (I:Inv X pins σ H s) (g:DGet H a y (some v)) (ry:RelV y u) (h:∀ w' s',Inv X pins σ H s'→RelV v w'→Q w' s') :
  wpAny (model X.prog X.w) A (getItem (.ref a) u) Q E s:=by
 rcases g with ⟨kvs,k,e,ey,l⟩ | ⟨kvs,k,b,e,ey,eb,l⟩
 ·subst ey
  obtain ⟨z,hd,vs,rel,dd⟩:=gi I.hok e
  obtain ⟨w',hw,rw'⟩:=RelO.some_of (v:=v) (o:=valueAt vs k) (by rw [l];exact rel.val k)
  exact wpAny_getItem_of (kV_is ry) dd.mapOf hw (h w' _ (I.tok _) rw')
 ·subst ey
  cases (show u=Value.ref b from ry)
  obtain ⟨z,hd,xs,rel,dd⟩:=dt_rd I.hok e
  obtain ⟨w',hw,rw'⟩:=RelO.some_of (v:=v) (o:=(atKey xs k).map (·.2)) (by rw [l];exact rel.val k)
  obtain ⟨p,hp,hp2⟩:=Option.map_eq_some_iff.mp hw
  refine wpAny_getItem_heap (tupleKind_room_in1 hu) (key_of I.hok eb) dd hp ?_
  rw [hp2]
  exact h w' _ (I.tok _) rw'
theorem d_in {Q:Value→Shared→Prop} (hu:A.units+1<cLine) (I:Inv X pins σ H s) (g:DGet H a y o) (ry:RelV y u) (h:∀ s',Inv X pins σ H s'→Q (.bool o.isSome) s') :
  wpAny (model X.prog X.w) A (compareOp .In u (.ref a)) Q E s:=by
 rcases g with ⟨kvs,k,e,ey,l⟩ | ⟨kvs,k,b,e,ey,eb,l⟩
 ·subst ey
  obtain ⟨z,hd,vs,rel,dd⟩:=gi I.hok e
  refine wpAny_in_of (kV_is ry) hd dd.mapOf ?_
  rw [← (rel.val k).isSome_eq,← l]
  exact h _ (I.tok _)
 ·subst ey
  cases (show u=Value.ref b from ry)
  obtain ⟨z,hd,xs,rel,dd⟩:=dt_rd I.hok e
  refine wpAny_in_heap (tupleKind_room_in1 hu) (key_of I.hok eb) hd dd ?_
  have q:=(rel.val k).isSome_eq
  rw [Option.isSome_map] at q
  rw [← q,← l]
  exact h _ (I.tok _)
theorem d_notIn {Q:Value→Shared→Prop} (hu:A.units+1<cLine) (I:Inv X pins σ H s) (g:DGet H a y o) (ry:RelV y u) (h:∀ s',Inv X pins σ H s'→Q (.bool (!o.isSome)) s') :
  wpAny (model X.prog X.w) A (compareOp .NotIn u (.ref a)) Q E s:=by
 rcases g with ⟨kvs,k,e,ey,l⟩ | ⟨kvs,k,b,e,ey,eb,l⟩
 ·subst ey
  obtain ⟨z,hd,vs,rel,dd⟩:=gi I.hok e
  refine wpAny_notIn_of (kV_is ry) hd dd.mapOf ?_
  rw [← (rel.val k).isSome_eq,← l]
  exact h _ (I.tok _)
 ·subst ey
  cases (show u=Value.ref b from ry)
  obtain ⟨z,hd,xs,rel,dd⟩:=dt_rd I.hok e
  refine wpAny_notIn_heap (tupleKind_room_in1 hu) (key_of I.hok eb) hd dd ?_
  have q:=(rel.val k).isSome_eq
  rw [Option.isSome_map] at q
  rw [← q,← l]
  exact h _ (I.tok _)
theorem d_write {h':Heap} {t':Nat} {ob:HO} (I:Inv X pins σ H s) (mu:Mut (H a)) (hs:Heap.SameBut a s.heap h') (he:∃ q,h'.get? a=some q) (new:ObjOk X.prog X.w (upd H a ob) h' a ob) :
  Inv X pins σ (upd H a ob) { s with heap:=h',toks:=t' }:=
 I.write (x:=a) (e:=a) mu (.inl rfl) (fun b q hb z=>(hs.2 b hb).trans z) he new
theorem dk_new {P:Program} {w:World} {H':Hp} {h':Heap} {kvs:List (Key × V)} {vs:List (Key × Value)} (z:kvs.length≤sizeLine) (hd:(a == sysModules)=false) (rel:KV kvs vs) (dd:h'.DictOf (a9 P w) a vs) :
  ObjOk P w H' h' a (.dK kvs):=⟨z,hd,vs,rel,dd⟩
theorem d_setItem {H':Hp} {Q:Unit→Shared→Prop} (hu:A.units+1<cLine) (I:Inv X pins σ H s) (g:DPut H a y v H') (ry:RelV y u) (rv:RelV v r) (h:∀ s',Inv X pins σ H' s'→Q () s') :
  wpAny (model X.prog X.w) A (setItem (.ref a) u r) Q E s:=by
 rcases g with ⟨kvs,k,e,ey,l,eH⟩ | ⟨kvs,k,b,e,ey,eb,l,eH⟩
 ·subst ey eH
  obtain ⟨z,hd,vs,rel,dd⟩:=dk_of I.hok e
  have hz:vs.length≤sizeLine:=by rw [← rel.length];exact z
  have hl:(cX kvs k v).length≤sizeLine:=by have:=fO kvs k v;omega
  refine wpAny_setItem_pairs (hsz:=hz) (kV_is ry) dd fun h' dd' hs=>h _ ?_
  have he:∃ q,h'.get? a=some q:=let ⟨q,_,_,hq,_⟩:=dd';⟨q,hq⟩
  exact d_write I (by rw [e];exact True.intro) hs he (dk_new hl hd (rel.put k rv) dd')
 ·subst ey eH
  cases (show u=Value.ref b from ry)
  obtain ⟨z,hd,xs,rel,dd⟩:=dt_of I.hok e
  have hz:xs.length≤sizeLine:=by rw [← Paired.length rel];exact z
  have hl:(cX kvs k v).length≤sizeLine:=by have:=fO kvs k v;omega
  refine wpAny_setItem_heap (hsz:=hz) (tupleKind_room_in1 hu) (key_of I.hok eb) dd fun h' dd' hs=>h _ ?_
  obtain ⟨q,es,ep,hq,h2,h3,h4,_,h5⟩:=dd'
  refine d_write I (by rw [e];exact True.intro) hs ⟨q,hq⟩ ⟨hl,hd,_,(rel.put k eb rv).keeps fun c ys ec=>?_,q,es,ep,hq,h2,h3,h4,h5⟩
  rw [ak (cS ec e (fun z=>nomatch z))]
  exact ec
end
section
variable {X:Cx} {pins:List (Addr × Obj)} {σ:St} {H:Hp} {s:Shared} {a:Addr} {kvs:List (Key × V)} {k:Key} {u:Value} {A:Around} {E:Value→Shared→Prop}
end
def NoSl (i:Expr):Prop:=∀ ov iv,subscripted i false ov iv=operate [ov,iv] (getItem ov iv)
theorem subD_of {prog:Program} {w:World} {A:Around} {E:Value→Shared→Prop} {s:Shared} {env:Env} {value slice:Expr} {pos:Pos} {T id:String} {Q:Value→Shared→Prop}
  (hl:typeLookup (.type T) "__getitem__"=pure (some (.builtin id))) (hs:NoSl slice)
  (h:wpAny (model prog w) A (eval value env) (fun o s₁=>wpAny (model prog w) A (eval slice env) (fun i s₂=>s₂.TypeIs o T∧wpAny (model prog w) A (getItem o i) Q E s₂) E s₁) E s) :
  wpAny (model prog w) A (eval (.Subscript value slice pos) env) Q E s:=by
 refine Subscript_ (wpAny_mono h (fun o s₁ h₁=>wpAny_mono h₁ (fun i s₂ h₂=>?_) fun _ _ x=>x) fun _ _ x=>x)
 obtain ⟨hT,h₂⟩:=h₂
 unfold subscriptTail
 refine wpAny_bind ?_
 rw [getitemInPython_of_ne hT.not_modules]
 refine wpAny_bind (wpAny_specialOf hT hl ?_)
 have fin:wpAny (model prog w) A (subscripted slice false o i) (fun r s₃=>wpAny (model prog w) A (letTemporaryGo value o r >>= fun _=>pure r) Q E s₃) E s₂:=by
  rw [hs o i]
  exact wpAny_operating (wpAny_mono h₂ (fun r s₃ h₃=>wpAny_bind (wpAny_letTemporaryGo (wpAny_pure h₃))) fun _ _ x=>x)
 first
  | exact wpAny_pure (wpAny_bind fin)
  | exact wpAny_bind (wpAny_pure (wpAny_bind fin))
  | exact wpAny_bind fin
theorem dict_typeIs {X:Cx} {pins:List (Addr × Obj)} {σ:St} {H:Hp} {s:Shared} {a:Addr} {y:V} {o:Option V} (I:Inv X pins σ H s) (g:DGet H a y o):s.TypeIs (.ref a) "dict":=by
 rcases g with ⟨kvs,k,e,_,_⟩ | ⟨kvs,k,b,e,_,_,_⟩
 ·obtain ⟨_,_,vs,_,dd⟩:=gi I.hok e
  exact dd.typeIs
 ·obtain ⟨_,_,xs,_,dd⟩:=dt_rd I.hok e
  exact dd.typeIs
def tDGet (td ty:TE):TE:=fun σ H Q=>td σ H fun x H1=>ty σ H1 fun y H2=>∃ a v,x=.ref a∧DGet H2 a y (some v)∧Q v H2
def tDIn (ty td:TE):TE:=fun σ H Q=>ty σ H fun y H1=>td σ H1 fun x H2=>∃ a o,x=.ref a∧DGet H2 a y o∧Q (.bl o.isSome) H2
def tDNotIn (ty td:TE):TE:=fun σ H Q=>ty σ H fun y H1=>td σ H1 fun x H2=>∃ a o,x=.ref a∧DGet H2 a y o∧Q (.bl (!o.isSome)) H2
def sDPut (td ty tv:TE):TS:=fun D σ H=>tv σ H fun v H1=>td σ H1 fun x H2=>ty σ H2 fun y H3=>∃ a H4,x=.ref a∧DPut H3 a y v H4∧D.nx σ H4
def sDAug (td ty tv:TE) (rd:V→V→Hp→VK→Prop):TS:=fun D σ H=>td σ H fun x H1=>ty σ H1 fun y H2=>∃ a v,x=.ref a∧DGet H2 a y (some v)∧
 tv σ H2 fun y2 H3=>rd v y2 H3 fun z H4=>∃ H5,DPut H4 a y z H5∧D.nx σ H5
def sDDel (td ty:TE):TS:=fun D σ H=>td σ H fun x H1=>ty σ H1 fun y H2=>∃ a kvs k,x=.ref a∧H2 a=some (.dK kvs)∧y=kV k∧(bP kvs k).isSome=true∧D.nx σ (upd H2 a (.dK (fP kvs k)))
section
variable {X:Cx} {o i e value:Expr} {pos pos' tpos:Pos} {td ty tv:TE}
theorem eZ (hu:X.A.units+1<cLine) (ho:PE X o td) (hi:PE X i ty) (hs:NoSl i):PE X (.Subscript o i pos) (tDGet td ty):=by
 intro pins s σ H Q I h
 refine subD_of PySem.F.slot_dict_getitem.lookup hs (thn (ho pins s σ H _ I h) fun u s1 ⟨x,H1,I1,rx,q1⟩=>thn (hi pins s1 σ H1 _ I1 q1) fun iv s2 ⟨y,H2,I2,ry,a,v,ex,g,q2⟩=>?_)
 subst ex
 obtain rfl:u=Value.ref a:=rx
 exact ⟨dict_typeIs I2 g,d_getItem hu I2 g ry fun w' s3 I3 rw'=>⟨v,H2,I3,rw',q2⟩⟩
theorem pc_din (hu:X.A.units+1<cLine) (hi:PE X i ty) (ho:PE X o td):PC X .In i o (tDIn ty td):=by
 intro pins s σ H Q I h
 refine thn (hi pins s σ H _ I h) fun iv s1 ⟨y,H1,I1,ry,q1⟩=>thn (ho pins s1 σ H1 _ I1 q1) fun u s2 ⟨x,H2,I2,rx,a,ov,ex,g,q2⟩=>?_
 subst ex
 obtain rfl:u=Value.ref a:=rx
 exact d_in hu I2 g ry fun s3 I3=>⟨.bl ov.isSome,H2,I3,rfl,q2⟩
theorem eT (hu:X.A.units+1<cLine) (hi:PE X i ty) (ho:PE X o td):PC X .NotIn i o (tDNotIn ty td):=by
 intro pins s σ H Q I h
 refine thn (hi pins s σ H _ I h) fun iv s1 ⟨y,H1,I1,ry,q1⟩=>thn (ho pins s1 σ H1 _ I1 q1) fun u s2 ⟨x,H2,I2,rx,a,ov,ex,g,q2⟩=>?_
 subst ex
 obtain rfl:u=Value.ref a:=rx
 exact d_notIn hu I2 g ry fun s3 I3=>⟨.bl (!ov.isSome),H2,I3,rfl,q2⟩
theorem d9 (hu:X.A.units+1<cLine) (ho:PE X o td) (hi:PE X i ty) (hv:PE X value tv) (hs:swapsWith value (some (.Subscript o i pos')) pos.line X.env=pure false) :
  PS X (.Assign [.Subscript o i pos'] value pos) (sDPut td ty tv):=by
 intro pins s σ H D I h
 refine wpAny_Assign_Subscript (thn (hv pins s σ H _ I h) fun r s1 ⟨v,H1,I1,rv,q1⟩=>thn (ho pins s1 σ H1 _ I1 q1) fun u s2 ⟨x,H2,I2,rx,q2⟩=>thn (hi pins s2 σ H2 _ I2 q2) fun iv s3 ⟨y,H3,I3,ry,a,H4,ex,g,q3⟩=>?_) hs
 subst ex
 obtain rfl:u=Value.ref a:=rx
 exact d_setItem hu I3 g ry rv fun s4 I4=>⟨σ,H4,I4,q3⟩
end
theorem dk_empty {P:Program} {w:World} {H:Hp} (h:Heap) (hb:sysModules<h.objs.size):ObjOk P w H (h.push { cls:=.type "dict",data:=.dict #[] }) h.objs.size (.dK []):=
 ⟨Nat.zero_le _,beq_eq_false_iff_ne.mpr (Ne.symm (Nat.ne_of_lt hb)),[],.nil,Heap.DictOf.new h⟩
def tDNewK:TE:=fun _ H Q=>∀ p,H p=none→Q (.ref p) (upd H p (.dK []))
def tDNewT:TE:=fun _ H Q=>∀ p,H p=none→Q (.ref p) (upd H p (.dT []))
section
variable {X:Cx} {pos:Pos}
theorem eS:PE X (.Dict [] [] pos) tDNewK:=fun pins s σ H Q I h=>
 wpAny_Dict_empty ⟨.ref s.heap.objs.size,_,I.laid (a:=s.heap.objs.size) (o:=.dK []) (t':=s.toks) (fun _ _ q=>Heap.get?_push_of_some _ q) (Nat.le_refl _) (dk_empty s.heap I.big),rfl,h _ (I.hok.fresh (Nat.le_refl _))⟩
end
def tPairs:List (TE × TE)→St→Hp→(List (V × V)→Hp→Prop)→Prop
 | [],_,H,Q=>Q [] H
 | (tk,tv)::r,σ,H,Q=>tk σ H fun x H1=>tv σ H1 fun y H2=>tPairs r σ H2 fun ps H3=>Q ((x,y)::ps) H3
abbrev VV:List (V × V)→List (Value × Value)→Prop:=Paired fun p q=>RelV p.1 q.1∧RelV p.2 q.2
def PPs (X:Cx) (pos:Pos) (keys:List (Option Expr)) (values:List Expr) (trs:List (TE × TE)):Prop:=
 ∀ (pins:List (Addr × Obj)) (s:Shared) (σ:St) (H:Hp) (Q:List (V × V)→Hp→Prop),Inv X pins σ H s→tPairs trs σ H Q→
  wpAny (model X.prog X.w) X.A (evalPairs (pairTrees keys values X.env pos)) (fun vs s'=>∃ ps H',Inv X pins σ H' s'∧VV ps vs∧Q ps H') X.xe s
def mergeK (kvs more:List (Key × V)):List (Key × V):=more.foldl (fun acc kv=>cX acc kv.1 kv.2) kvs
def tDisp (trs:List (TE × TE)):TE:=fun σ H Q=>∀ p,H p=none→tPairs trs σ (upd H p (.dK [])) fun ps H2=>H2 p=some (.dK [])∧∃ kvs:List (Key × V),ps=kvs.map (fun kv=>(kV kv.1,kv.2))∧kvs.length≤15∧Q (.ref p) (upd H2 p (.dK (mergeK [] kvs)))
structure M1 (X:Cx) (o:Expr) (m:Str) (apos:Pos) (e:Expr) (cpos:Pos):Prop where
 base:attributeBase o m X.env (eval o X.env)=eval o X.env
 few:((backTo cpos (starEach [e] X.env)).all (fun x=>!x.1) && (backToKw cpos (keywordEach [] X.env)).all (fun x=>x.1.isSome)
  && decide (([e]:List Expr).length+([]:List Keyword).length+(if ([]:List Keyword).isEmpty then 0 else 1)<30))=true
 line:(apos.endLine == cpos.line)=true
 trees:backTo cpos (starEach [e] X.env)=[(false,eval e X.env)]
structure M2 (X:Cx) (o:Expr) (m:Str) (apos:Pos) (e f:Expr) (cpos:Pos):Prop where
 base:attributeBase o m X.env (eval o X.env)=eval o X.env
 few:((backTo cpos (starEach [e,f] X.env)).all (fun x=>!x.1) && (backToKw cpos (keywordEach [] X.env)).all (fun x=>x.1.isSome)
  && decide (([e,f]:List Expr).length+([]:List Keyword).length+(if ([]:List Keyword).isEmpty then 0 else 1)<30))=true
 line:(apos.endLine == cpos.line)=true
 trees:backTo cpos (starEach [e,f] X.env)=[(false,eval e X.env),(false,eval f X.env)]
def IsD (H:Hp) (a:Addr):Prop:=(∃ kvs,Rd H a (.dK kvs))∨∃ kvs,Rd H a (.dT kvs)
theorem isD_at {X:Cx} {pins:List (Addr × Obj)} {σ:St} {H:Hp} {s:Shared} {a:Addr} (I:Inv X pins σ H s) (d:IsD H a) :
  s.TypeIs (.ref a) "dict"∧(∀ b,Value.ref a=.ref b→∃ ob,s.heap.get? b=some ob∧ob.dict=none)∧(a == sysModules)=false:=by
 rcases d with ⟨kvs,e⟩ | ⟨kvs,e⟩
 ·obtain ⟨_,hd,vs,_,dd⟩:=gi I.hok e
  refine ⟨dd.typeIs,fun b q=>?_,hd⟩
  cases q
  obtain ⟨ob,_,_,h1,h2,_⟩:=dd
  exact ⟨ob,h1,h2.2.1⟩
 ·obtain ⟨_,hd,xs,_,dd⟩:=dt_rd I.hok e
  refine ⟨dd.typeIs,fun b q=>?_,hd⟩
  cases q
  obtain ⟨ob,_,_,h1,h2,_⟩:=dd
  exact ⟨ob,h1,h2.2.1⟩
section
variable {X:Cx} {pins:List (Addr × Obj)} {σ:St} {H:Hp} {s:Shared} {a:Addr} {y d:V} {u r:Value} {o:Option V} {A:Around} {E:Value→Shared→Prop}
theorem d_get2 {Q:Value→Shared→Prop} (hu:A.units+1<cLine) (I:Inv X pins σ H s) (g:DGet H a y o) (ry:RelV y u) (rd:RelV d r) (h:∀ w' s',Inv X pins σ H s'→RelV (o.getD d) w'→Q w' s') :
  wpAny (model X.prog X.w) A (call (.builtin "dict.get") [.ref a,u,r]) Q E s:=by
 rcases g with ⟨kvs,k,e,ey,l⟩ | ⟨kvs,k,b,e,ey,eb,l⟩
 ·subst ey
  obtain ⟨z,hd,vs,rel,dd⟩:=gi I.hok e
  refine call_meetsIn PySem.F.slot_dict_get dd.typeIs PySem.F.entry_dict_get (PySem.F.args_dict_get_3 _ _ _) (meets_dict_get_default (a9 X.prog X.w) a (kV_is ry) hd r) ⟨_,dd.mapOf,h _ _ (I.tok _) ?_⟩
  rw [l]
  exact (rel.val k).getD rd
 ·subst ey
  cases (show u=Value.ref b from ry)
  obtain ⟨z,hd,xs,rel,dd⟩:=dt_rd I.hok e
  refine call_meetsIn PySem.F.slot_dict_get dd.typeIs PySem.F.entry_dict_get (PySem.F.args_dict_get_3 _ _ _) (meetsH_dict_get_default (tupleKind (a9 X.prog X.w)) a b hd r) ⟨tupleKind_room_in1 hu,k,xs,key_of I.hok eb,dd,h _ _ (I.tok _) ?_⟩
  rw [l]
  exact (rel.val k).getD rd
end
def tDGet1 (td ty:TE):TE:=fun σ H Q=>td σ H fun x H1=>∃ a,x=.ref a∧IsD H1 a∧ty σ H1 fun y H2=>∃ o,DGet H2 a y o∧Q (o.getD .non) H2
def tDGet2 (td ty tx:TE):TE:=fun σ H Q=>td σ H fun x H1=>∃ a,x=.ref a∧IsD H1 a∧ty σ H1 fun y H2=>tx σ H2 fun z H3=>∃ o,DGet H3 a y o∧Q (o.getD z) H3
def tDPop1 (td ty:TE):TE:=fun σ H Q=>td σ H fun x H1=>∃ a,x=.ref a∧IsD H1 a∧ty σ H1 fun y H2=>∃ kvs k v,H2 a=some (.dK kvs)∧y=kV k∧bP kvs k=some v∧Q v (upd H2 a (.dK (fP kvs k)))
def tDPop2 (td ty tx:TE):TE:=fun σ H Q=>td σ H fun x H1=>∃ a,x=.ref a∧IsD H1 a∧ty σ H1 fun y H2=>tx σ H2 fun z H3=>∃ kvs k,H3 a=some (.dK kvs)∧y=kV k∧
 (∀ v,bP kvs k=some v→Q v (upd H3 a (.dK (fP kvs k))))∧(bP kvs k=none→Q z H3)
section
variable {X:Cx} {o e f:Expr} {apos cpos:Pos} {td ty tx:TE}
theorem pe_dget2 (hu:X.A.units+1<cLine) (ho:PE X o td) (he:PE X e ty) (hf:PE X f tx) (m:M2 X o "get" apos e f cpos):PE X (.Call (.Attribute o "get" apos) [e,f] [] cpos) (tDGet2 td ty tx):=by
 intro pins s σ H Q I h
 refine wpAny_Call_method m.base m.few m.line PySem.F.plainAttrs_dict PySem.F.slot_dict_get PySem.F.type_dict_get (thn (ho pins s σ H _ I h) fun u s1 ⟨x,H1,I1,rx,a,ex,d,q1⟩=>?_)
 subst ex
 obtain rfl:u=Value.ref a:=rx
 obtain ⟨t1,t2,_⟩:=isD_at I1 d
 refine ⟨t1,t2,?_⟩
 rw [m.trees]
 refine Calls.callWith_builtin rfl (Calls.evalArgs_plain (Calls.spliced_cons (thn (he pins s1 σ H1 _ I1 q1) fun iv s2 ⟨y,H2,I2,ry,q2⟩=>
  Calls.spliced_cons (thn (hf pins s2 σ H2 _ I2 q2) fun fv s3 ⟨z,H3,I3,rz,ov,g,q3⟩=>Calls.spliced_nil ?_))))
 exact d_get2 hu I3 g ry rz fun w' s4 I4 rw'=>⟨_,H3,I4,rw',q3⟩
end
section
variable {X:Cx} {pins:List (Addr × Obj)} {σ:St} {H:Hp} {s:Shared} {a:Addr} {kvs:List (Key × V)} {A:Around} {E:Value→Shared→Prop}
end
section
variable {X:Cx} {pins:List (Addr × Obj)} {σ:St} {H:Hp} {s:Shared} {a:Addr} {y:V} {u:Value} {A:Around} {E:Value→Shared→Prop}
end
end L2
namespace L2
open PySem PySem.Spec PyProof.Rows
section
variable {X:Cx}
end
end L2
namespace L2
open PySem PySem.Spec PyProof.Rows
section
variable {κ:Type} [DecidableEq κ]
theorem valV_not {kvs:List (κ × V)} {k:κ} (h:bP kvs k=none):¬ k∈kvs.map (·.1):=by
 intro m
 obtain ⟨p,hp,e⟩:=List.mem_map.mp m
 have q:(kvs.any fun kv=>decide (kv.1=k))=true:=List.any_eq_true.mpr ⟨p,hp,decide_eq_true e⟩
 rw [dD,h] at q
 exact absurd q (by simp)
theorem valV_in {kvs:List (κ × V)} {k:κ} {v:V} (h:bP kvs k=some v):k∈kvs.map (·.1):=by
 have q:(kvs.any fun kv=>decide (kv.1=k))=true:=by
  rw [dD,h]
  all_goals rfl
 obtain ⟨p,hp,e⟩:=List.any_eq_true.mp q
 exact List.mem_map.mpr ⟨p,hp,of_decide_eq_true e⟩
theorem dropK_pos {p:κ × V} {r:List (κ × V)} {k:κ} (e:p.1=k):fP (p::r) k=fP r k:=by
 unfold fP
 rw [List.filter_cons,if_neg (by simp [e])]
theorem dropK_neg {p:κ × V} {r:List (κ × V)} {k:κ} (e:¬ p.1=k):fP (p::r) k=p::fP r k:=by
 unfold fP
 rw [List.filter_cons,if_pos (by simp [e])]
theorem dropK_no:∀ {kvs:List (κ × V)} {k:κ},¬ k∈kvs.map (·.1)→fP kvs k=kvs
 | [],_,_=>rfl
 | p::r,k,h=>by
  have h':¬ k∈r.map (·.1):=fun m=>by
   obtain ⟨q,hq,e⟩:=List.mem_map.mp m
   exact h (List.mem_map.mpr ⟨q,List.mem_cons.mpr (Or.inr hq),e⟩)
  rw [dropK_neg fun e=>h (List.mem_map.mpr ⟨p,List.mem_cons.mpr (Or.inl rfl),e⟩),dropK_no h']
theorem dropK_mem {kvs:List (κ × V)} {k:κ} {p:κ × V} (h:p∈fP kvs k):p∈kvs:=(List.mem_filter.mp h).1
end
end L2
namespace L2
open PySem PySem.Spec PyProof.Rows
section
variable {X:Cx}
def PTs (X:Cx) (ifs:List Expr) (t:TT):Prop:=
 ∀ (pins:List (Addr × Obj)) (s:Shared) (σ:St) (H:Hp) (Q:Bool→Hp→Prop),Inv X pins σ H s→t σ H Q→
  wpAny (model X.prog X.w) X.A (forIn ifs true fun c r=>if r=true then do let ok ← isTrue c X.env (eval c X.env);pure (ForInStep.yield ok) else pure (ForInStep.yield r)) (TP X pins σ Q) X.xe s
def tYes:TT:=fun _ H Q=>Q true H
theorem dC:PTs X [] tYes:=fun pins s σ H Q I h=>wpAny_tests_nil ⟨H,I,h⟩
theorem pts_one {c:Expr} {t:TT} (h:PT X c t):PTs X [c] t:=fun pins s σ H Q I q=>wpAny_tests_one (h pins s σ H Q I q)
def ClSub (X:Cx):List (Str × Addr)→Prop
 | []=>True
 | p::r=>X.env.cells.lookup p.1=some p.2∧ClSub X r
theorem ClSub.at:∀ {cl:List (Str × Addr)},ClSub X cl→∀ y c,cl.lookup y=some c→X.env.cells.lookup y=some c
 | [],_,y,c,e=>by simp at e
 | (z,d)::r,h,y,c,e=>by
  by_cases q:y=z
  ·subst q
   simp at e
   subst e
   exact h.1
  ·rw [List.lookup_cons,beq_eq_false_iff_ne.mpr q] at e
   exact ClSub.at h.2 y c e
theorem lookup_has {cl:List (Str × Addr)} {y:Str}:y∈cl.map (·.1)→∃ c,cl.lookup y=some c:=by
 induction cl with
 | nil=>intro h;simp at h
 | cons p r ih=>
  intro h
  by_cases q:y=p.1
  ·subst q
   exact ⟨p.2,by cases p;simp⟩
  ·obtain ⟨c,e⟩:=ih (by
    rcases List.mem_cons.mp h with z | z
    ·exact absurd z q
    ·exact z)
   exact ⟨c,by rw [List.lookup_cons,beq_eq_false_iff_ne.mpr q];exact e⟩
theorem gf {scope:Scope} {env:Env} {z:Str} {k:NameKind} (h:(z,k)∈(relabel scope env).names) (hk:k=.cell∨k=.free):(z,NameKind.cell)∈scope.names∨(z,NameKind.free)∈scope.names:=by
 unfold relabel at h
 obtain ⟨⟨n,k'⟩,hm,e⟩:=List.mem_map.mp h
 dsimp only at e
 split at e
 ·rename_i c
  cases e
  have:k'=.free:=by
   have:=(Bool.and_eq_true_iff.mp (Bool.and_eq_true_iff.mp c).1).1
   simpa using this
  subst this
  exact .inr hm
 ·cases e
  rcases hk with rfl | rfl
  ·exact .inl hm
  ·exact .inr hm
theorem Clos.many {scope:Scope} {cl:List (Str × Addr)} {ys:List Str} (h:closureFor scope X.env=pure cl) (hs:ClSub X cl) (hy:cl.map (·.1)=ys)
  (hr:∀ p∈scope.names,(p.2=.cell∨p.2=.free)→p.1∈ys):Clos X scope cl:=by
 refine ⟨h,fun y c e=>hs.at y c e,fun y hz=>lookup_has ?_⟩
 rw [hy]
 rcases hz with q | q
 ·rcases gf (PySem.mem_of_lookup q) (.inl rfl) with m | m
  ·exact hr _ m (.inl rfl)
  ·exact hr _ m (.inr rfl)
 ·rcases gf (PySem.mem_of_lookup q) (.inr rfl) with m | m
  ·exact hr _ m (.inl rfl)
  ·exact hr _ m (.inr rfl)
def RdAll (X:Cx) (scope:Scope):List Str→List Nat→Prop
 | [],[]=>True
 | y::ys,j::js=>(X.N[j]?=some y∧X.env.scope.names.lookup y=some .cell∧(relabel scope X.env).names.lookup y=some .cell)∧RdAll X scope ys js
 | _,_=>False
theorem RdAll.len {scope:Scope}:∀ {ys:List Str} {js:List Nat},RdAll X scope ys js→js.length=ys.length
 | [],[],_=>rfl
 | y::ys,j::js,h=>by rw [List.length_cons,List.length_cons,RdAll.len h.2]
theorem RdAll.at {scope:Scope}:∀ {ys:List Str} {js:List Nat},RdAll X scope ys js→∀ (i:Nat) (y:Str) (j:Nat),ys[i]?=some y→js[i]?=some j→X.N[j]?=some y∧X.env.scope.names.lookup y=some .cell∧(relabel scope X.env).names.lookup y=some .cell
 | [],[],_,i,y,j,e,_=>by simp at e
 | y'::ys,j'::js,h,0,y,j,e1,e2=>by
  simp at e1 e2
  subst e1 e2
  exact h.1
 | y'::ys,j'::js,h,i+1,y,j,e1,e2=>RdAll.at h.2 i y j (by simpa using e1) (by simpa using e2)
theorem Reads.many {scope:Scope} {ys:List Str} {js:List Nat} (h:RdAll X scope ys js):Reads X scope ys (fun σ=>js.map fun j=>σ.getD j Option.none):=by
 refine fun σ=>⟨by rw [List.length_map,h.len],fun i y v e1 e2=>?_⟩
 rw [List.getElem?_map] at e2
 cases q:js[i]? with
 | none=>rw [q] at e2;cases e2
 | some j=>
  rw [q] at e2
  obtain ⟨h1,h2,h3⟩:=h.at i y j e1 q
  refine ⟨j,h1,?_,h2,h3⟩
  have e3:σ.getD j Option.none=some v:=Option.some.inj e2
  rw [List.getD_eq_getElem?_getD] at e3
  cases z:σ[j]? with
  | none=>rw [z] at e3;cases e3
  | some o=>rw [z] at e3;exact congrArg some e3
def tCompG (k:Nat) (wi:TI) (g:TG) (tc:TT) (te:TE) (sel:St→St):TE:=fun σ H Q=>wi σ H fun J H1=>∀ l,H1 l=none→∃ W:Nat→Nat→Hp→Prop,(∃ m,W 0 m (upd H1 l (.lst [])))∧∀ i m H,W i m H→
 (J.stop i H∧Q (.ref l) H)∨(J.go i H∧∀ x H',J.yld i H x H'→∀ zs:St,zs.length=k→g x (zs++sel σ) H' fun σ2 H2=>(∃ zs':St,zs'.length=k∧σ2=zs'++sel σ)∧tc σ2 H2 fun b H3=>if b=true then te σ2 H3 fun y H4=>∃ ys,H4 l=some (.lst ys)∧ys.length<sizeLine∧∃ m',m'<m∧W (i+1) m' (upd H4 l (.lst (ys++[y]))) else ∃ m',m'<m∧W (i+1) m' H3)
theorem fB {prog:Program} {w:World} {A:Around} {R:Result→Shared→Prop} {s:Shared} {elt target iter:Expr} {ifs:List Expr} {scope:Scope} {pos:Pos} {it acc:Value} {env:Env} (I:Nat→Shared→Prop)
  (turn:∀ n s,I n s→wpAny (model prog w) A (pyNext it) (fun r s₁=>match r with
   | none=>R (.ok .next) s₁
   | some v=>wpAny (model prog w) A (letOwnedTupleGo target it v) (fun _ s₁'=>wpAny (model prog w) A (assign target env v) (fun _ s₂=>
     wpAny (model prog w) A (forIn ifs true fun c r=>if r=true then do let ok ← isTrue c env (eval c env);pure (ForInStep.yield ok) else pure (ForInStep.yield r)) (fun ok s₃=>if ok=true then wpAny (model prog w) A (eval elt env) (fun x s₄=>
      wpAny (model prog w) A (call (.builtin "list.append") [acc,x]) (fun _ s₅=>∃ m,m<n∧I m s₅) (fun _ _=>False) s₄) (fun _ _=>False) s₃ else ∃ m,m<n∧I m s₃) (fun _ _=>False) s₂) (fun _ _=>False) s₁') (fun _ _=>False) s₁) (fun _ _=>False) s)
  (n:Nat) (h:I n s) :
  codeAny (model prog w) A (.compLoop (.ListComp elt [⟨target,iter,ifs,0⟩] scope pos) 0 it acc env) R s:=by
 refine codeAny_loop rfl I (fun n s hI=>?_) n h
 show wpAny _ _ ((compTurn (.ListComp elt [⟨target,iter,ifs,0⟩] scope pos) 0 it acc env).onRaise (fun x=>do noteFrame x env;theTreesLotGoes x)) _ _ s
 refine wpAny_noted ?_
 rw [compTurn_list]
 refine wpAny_bind (wpAny_standAt (wpAny_bind (wpAny_mono (turn n s hI) (fun r s₁ h₁=>?_) fun _ _ h'=>h'.elim)))
 cases r with
 | none=>exact wpAny_pure h₁
 | some v=>
  refine wpAny_bind (wpAny_mono h₁ (fun _ s₁' h₁'=>?_) fun _ _ h'=>h'.elim)
  refine wpAny_bind (wpAny_mono h₁' (fun _ s₂ h₂=>wpAny_bind (wpAny_mono h₂ (fun ok s₃ h₃=>?_) fun _ _ h'=>h'.elim)) fun _ _ h'=>h'.elim)
  cases ok with
  | false=>exact wpAny_pure ⟨rfl,h₃⟩
  | true=>exact wpAny_bind (wpAny_bind (wpAny_mono h₃ (fun x s₄ h₄=>wpAny_bind (wpAny_mono h₄ (fun _ s₅ h₅=>wpAny_pure (wpAny_pure ⟨rfl,h₅⟩)) fun _ _ h'=>h'.elim)) fun _ _ h'=>h'.elim))
theorem comp_blockG {elt iter tg:Expr} {ifs:List Expr} {xs:List Str} {pos:Pos} {scope:Scope} {cl:List (Str × Addr)} {rest:List Str} {sel:St→St} {g:TG} {tc:TT} {te:TE} {pins:List (Addr × Obj)} {σ:St} {H:Hp} {s:Shared} {Q:VK}
  {it:Addr} {fp:List Addr} {tn:Nat→Heap→Prop} {J:It} {RR:Value→Addr→Result→Shared→Prop} {E:Value→Shared→Prop}
  (hcalm:X.calm=true) (hkind:scope.kind=.function) (hcell:∀ z∈scope.names,z.2≠.cell) (hc:Clos X scope cl) (hr:Reads X scope rest sel)
  (hg:∀ (C:Addr) (s:Shared) (H:Hp),PG (b9 X pins (xs++rest) scope cl C fp s H) tg g) (ht:∀ (C:Addr) (s:Shared) (H:Hp),PTs (b9 X pins (xs++rest) scope cl C fp s H) ifs tc)
  (he:∀ (C:Addr) (s:Shared) (H:Hp),PE (b9 X pins (xs++rest) scope cl C fp s H) elt te)
  (I:Inv X pins σ H s) (T:Turn X.prog X.w X.K tg J fp it tn) (t0:tn 0 s.heap) (hf:∀ b∈fp,FpOk X pins H b)
  (h:∀ l,H l=none→∃ W:Nat→Nat→Hp→Prop,(∃ m,W 0 m (upd H l (.lst [])))∧∀ i m H,W i m H→
   (J.stop i H∧Q (.ref l) H)∨(J.go i H∧∀ x H',J.yld i H x H'→∀ zs:St,zs.length=xs.length→g x (zs++sel σ) H' fun σ2 H2=>(∃ zs':St,zs'.length=xs.length∧σ2=zs'++sel σ)∧tc σ2 H2 fun b H3=>if b=true then te σ2 H3 fun y H4=>∃ ys,H4 l=some (.lst ys)∧ys.length<sizeLine∧∃ m',m'<m∧W (i+1) m' (upd H4 l (.lst (ys++[y]))) else ∃ m',m'<m∧W (i+1) m' H3))
  (hRR:∀ (D C:Addr) (H':Hp) (s':Shared),Inv X pins σ H' s'→FpOk X pins H' C→(∃ m,s'.heap.Ns C m)→Q (.ref D) H'→RR (.ref D) C (.ok .next) s') :
  wpAny (model X.prog X.w) X.A (newList []) (fun acc s₃=>wpAny (model X.prog X.w) X.A (newFunctionEnv scope X.env.globals cl [] X.env.qual none .none (some X.env)) (fun cenv s₄=>
   codeAny (model X.prog X.w) X.A (.compStart (.ListComp elt [⟨tg,iter,ifs,0⟩] scope pos) 0 (.ref it) acc { cenv with scope:=relabel scope X.env }) (RR acc cenv.locals) s₄) E s₃) E s:=by
 have hD:H s.heap.objs.size=none:=I.hok.fresh (Nat.le_refl _)
 obtain ⟨W,⟨m0,w0⟩,turn⟩:=h _ hD
 refine wpAny_newObj_type ?_
 have I3:Inv X pins σ (upd H s.heap.objs.size (.lst [])) { s with heap:=s.heap.push { cls:=.type "list",dict:=none,data:=.seq ([]:List Value).toArray } }:=
  I.laid (t':=s.toks) (fun b u e=>Heap.get?_push_of_some _ e) (Nat.le_refl _) ⟨Nat.zero_le _,[],0,.nil,Heap.get?_push_size _ rfl⟩
 generalize hs3:({ s with heap:=s.heap.push { cls:=.type "list",dict:=none,data:=.seq ([]:List Value).toArray } }:Shared)=s3 at I3 ⊢
 have old3:∀ b o,s.heap.get? b=some o→s3.heap.get? b=some o:=fun b o e=>by rw [← hs3];exact Heap.get?_push_of_some _ e
 refine wpAny_newFunctionEnv hcell (by intro y hy;simp at hy) (fun h1 hns1 hsb1=>?_) hkind
 have old4:∀ b o,s3.heap.get? b=some o→h1.get? b=some o:=fun b o e=>hsb1.extBut b o (Nat.ne_of_lt (Heap.lt_size e)) (Heap.get?_push_of_some _ e)
 have fD:∀ b∈fp,b≠s.heap.objs.size:=fun b hb z=>by
  obtain ⟨o,e,_⟩:=T.obj 0 _ t0 b hb
  exact absurd (Heap.lt_size e) (by rw [z];exact Nat.lt_irrefl _)
 have hf3:∀ b∈fp,FpOk X pins (upd H s.heap.objs.size (.lst [])) b:=fun b hb=>⟨by rw [ak (fD b hb)];exact (hf b hb).1,(hf b hb).2⟩
 have fC:∀ b∈fp,b≠s3.heap.objs.size:=fun b hb z=>by
  obtain ⟨o,e,_⟩:=T.obj 0 _ t0 b hb
  exact absurd (Heap.lt_size (old3 b o e)) (by rw [z];exact Nat.lt_irrefl _)
 have cC:∀ y c,cl.lookup y=some c→c≠s3.heap.objs.size:=fun y c e z=>by
  obtain ⟨v,q⟩:=I3.cell y c (hc.sub y c e)
  exact absurd q.lt (by rw [z];exact Nat.lt_irrefl _)
 have fstk:∀ b∈fp,b ∉ frs X.stack:=fun b hb z=>(List.mem_cons.mp (I3.stkSub b z)).elim (hf b hb).2.1 (hf b hb).2.2.1
 have ok:(b9 X pins (xs++rest) scope cl s3.heap.objs.size fp s3 (upd H s.heap.objs.size (.lst []))).Ok:=by
  refine ⟨I.ok.mod,hkind,I.ok.glob,I.ok.blt,Nat.le_refl _,fun y z c e1 e2=>I.ok.inj y z c (hc.sub y c e1) (hc.sub z c e2),fun y hy=>hc.has y hy,fun y c e=>(nomatch e),I.ok.hd,I.ok.frames,.inl rfl,fun b hb=>⟨fC b hb,fun y c e=>(hf b hb).2.2.2.2.1 y c (hc.sub y c e)⟩,
   I3.bs,Nat.le_trans I.ok.bsz I3.sz,fun b o e hb=>?_,fstk,I3.stack,I3.stkFree⟩
  rcases (hf b hb).2.2.2.1 with z | z
  ·exact I.ok.noex b o e z
  ·exact absurd (Nat.lt_of_lt_of_le (Heap.lt_size e) I.ok.bsz) (Nat.not_lt.mpr z)
 have I4:Inv (b9 X pins (xs++rest) scope cl s3.heap.objs.size fp s3 (upd H s.heap.objs.size (.lst []))) [] (xs.map (fun _=>none)++sel σ) (upd H s.heap.objs.size (.lst [])) { s3 with heap:=h1,toks:=s3.toks+([]:List (Str × Value)).length }:=by
  refine ⟨ok,rfl,I3.bare,Un.kept old4,⟨_,hns1,fun i y v e1 e2 e3=>?_⟩,fun y c e=>?_,I3.hok.fresh (Nat.le_refl _),fun y c e=>I3.freeC y c (hc.sub y c e),fun p hp=>?_,I3.hok.kept old4,?_⟩
  ·have hge:xs.length≤i:=by
    apply Classical.byContradiction
    intro hlt
    rw [List.getElem?_append_left (by rw [List.length_map];omega),List.getElem?_map] at e2
    cases q:xs[i]? with
    | none=>rw [q] at e2;cases e2
    | some z=>rw [q] at e2;cases e2
   have e1':rest[i-xs.length]?=some y:=by
    have e1:(xs++rest)[i]?=some y:=e1
    rw [List.getElem?_append_right hge] at e1
    exact e1
   have e2':(sel σ)[i-xs.length]?=some (some v):=by
    rw [List.getElem?_append_right (by rw [List.length_map];exact hge),List.length_map] at e2
    exact e2
   obtain ⟨j,q1,q2,q3,q4⟩:=(hr σ).2 _ y v e1' e2'
   obtain ⟨m,hn,hl⟩:=I3.loc
   obtain ⟨u,r,l⟩:=hl j y v q1 q2 (.inr (.inl q3))
   refine ⟨u,r,.inr ⟨.inl q4,?_⟩⟩
   obtain ⟨c,ec⟩:=hc.has y (.inl q4)
   refine ⟨c,ec,?_⟩
   rcases l with ⟨k,_⟩ | ⟨_,c',e',z⟩
   ·have k':X.env.scope.names.lookup y=some .local:=k
    rw [q3] at k';cases k'
   ·rw [hc.sub y c ec] at e'
    cases e'
    obtain ⟨o,ho,hd⟩:=z
    exact ⟨o,old4 c o ho,hd⟩
  ·obtain ⟨v,o,ho,hd⟩:=I3.cell y c (hc.sub y c e)
   exact ⟨v,o,old4 c o ho,hd⟩
  ·have hp':p∈X.pn++pins:=by simpa [b9] using hp
   obtain ⟨e,n,ne,nf,d⟩:=I3.pin p hp'
   exact ⟨old4 _ _ e,n,Nat.ne_of_lt (Heap.lt_size e),fun z=>(List.mem_cons.mp (I3.stkSub _ z)).elim ne nf,d⟩
  ·show (xs.map (fun _=>none)++sel σ).length=(xs++rest).length
   rw [List.length_append,List.length_append,List.length_map,(hr σ).1]
 have stat:∀ {H':Hp},(∀ b∈fp,H' b=none)→∀ b∈fp,FpOk (b9 X pins (xs++rest) scope cl s3.heap.objs.size fp s3 (upd H s.heap.objs.size (.lst []))) [] H' b:=fun hn b hb=>
  ⟨hn b hb,fC b hb,fstk b hb,.inl hb,fun y c e=>(hf b hb).2.2.2.2.1 y c (hc.sub y c e),fun p hp=>(hf b hb).2.2.2.2.2 p (by simpa [b9] using hp)⟩
 have t4:tn 0 h1:=T.keep _ _ _ t0 fun b hb o e=>old4 b o (old3 b o e)
 have loop:∀ s4:Shared,s4 = { s3 with heap:=h1,toks:=s3.toks+([]:List (Str × Value)).length }→
   codeAny (model X.prog X.w) X.A (.compLoop (.ListComp elt [⟨tg,iter,ifs,0⟩] scope pos) 0 (.ref it) (.ref s.heap.objs.size) (compEnvC scope cl s3.heap.objs.size X.env)) (RR (.ref s.heap.objs.size) s3.heap.objs.size) s4:=by
  rintro s4 rfl
  refine fB (fun n s'=>∃ i zs H',zs.length=xs.length∧Inv (b9 X pins (xs++rest) scope cl s3.heap.objs.size fp s3 (upd H s.heap.objs.size (.lst []))) [] (zs++sel σ) H' s'∧tn i s'.heap∧(∀ b∈fp,H' b=none)∧W i n H') ?_ m0
   ⟨0,_,_,List.length_map _,I4,t4,fun b hb=>(hf3 b hb).1,w0⟩
  rintro n s5 ⟨i,zs,H5,hzs,I5,t5,f5,w5⟩
  rcases turn i n H5 w5 with ⟨stop,qn⟩ | ⟨go,step⟩
  ·refine thn (T.done (b9 X pins (xs++rest) scope cl s3.heap.objs.size fp s3 (upd H s.heap.objs.size (.lst []))) rfl rfl rfl hcalm i [] s5 _ H5 _ I5 (stat f5) t5 stop) fun r s6 ⟨er,I6⟩=>?_
   subst er
   have J6:Inv X pins σ H5 s6:=I3.call' (ch:=fp) I6.os I6.base I6.hok I6.bare fun b hb=>⟨(hf b hb).2.2.2.1,(hf b hb).2.1,(hf b hb).2.2.2.2.1,(hf b hb).2.2.2.2.2⟩
   exact hRR _ _ H5 s6 J6 (I3.fpOk (Nat.le_refl _) I6.free) (let ⟨m,hn,_⟩:=I6.loc;⟨m,hn⟩) qn
  ·refine thn (T.item (b9 X pins (xs++rest) scope cl s3.heap.objs.size fp s3 (upd H s.heap.objs.size (.lst []))) rfl rfl rfl hcalm i [] s5 _ H5 _ I5 (stat f5) t5 go) fun r s6 ⟨u,er,h6⟩=>?_
   subst er
   refine thn h6 fun _ s7 ⟨y,H7,I7,r7,y7,t7,f7⟩=>?_
   have I7':=I7.pinned (stat f7) (T.obj _ _ t7)
   refine thn (hg _ _ _ _ s7 _ H7 y u _ I7' r7 (step y H7 y7 zs hzs)) fun _ s8 ⟨σ8,H8,I8,⟨zs',hz',e8⟩,q8⟩=>?_
   subst e8
   refine thn (ht _ _ _ _ s8 _ H8 _ I8 q8) fun b s9 ⟨H9,I9,q9⟩=>?_
   cases b with
   | false=>
    rw [if_neg Bool.false_ne_true] at q9 ⊢
    obtain ⟨m',hm,w9⟩:=q9
    refine ⟨m',hm,i+1,zs',_,hz',I9.unpinned,T.keep _ _ _ t7 fun b hb o e=>(I9.pin (b,o) (List.mem_append_right _ (List.mem_append_right _ (dz hb e)))).1,fun b hb=>?_,w9⟩
    obtain ⟨o,e,d⟩:=T.obj _ _ t7 b hb
    exact (I9.pin (b,o) (List.mem_append_right _ (List.mem_append_right _ (dz hb e)))).2.1
   | true=>
    rw [if_pos rfl] at q9 ⊢
    refine thn (he _ _ _ _ s9 _ H9 _ I9 q9) fun z s9 ⟨yv,H9,I9,r9,ys,hl,hz,m',hm,w9⟩=>?_
    refine thn (aF (X:=b9 X pins (xs++rest) scope cl s3.heap.objs.size fp s3 (upd H s.heap.objs.size (.lst []))) _ s9 _ H9 (.ref s.heap.objs.size) [yv] (.ref s.heap.objs.size) [z]
     (fun v H'=>H'=upd H9 s.heap.objs.size (.lst (ys++[yv]))) I9 rfl (.cons r9 .nil) ⟨_,ys,yv,rfl,rfl,hl,hz,rfl⟩) fun _ s10 ⟨v10,H10,I10,_,e10⟩=>?_
    subst e10
    refine ⟨m',hm,i+1,zs',_,hz',I10.unpinned,T.keep _ _ _ t7 fun b hb o e=>(I10.pin (b,o) (List.mem_append_right _ (List.mem_append_right _ (dz hb e)))).1,fun b hb=>?_,w9⟩
    obtain ⟨o,e,d⟩:=T.obj _ _ t7 b hb
    exact (I10.pin (b,o) (List.mem_append_right _ (List.mem_append_right _ (dz hb e)))).2.1
 exact codeAny_compStart_list (loop _ rfl) (T.self _ 0 _ _ _ t4 (loop _ rfl))
theorem d6 {elt iter tg:Expr} {ifs:List Expr} {xs:List Str} {pos:Pos} {scope:Scope} {cl:List (Str × Addr)} {rest:List Str} {sel:St→St} {g:TG} {tc:TT} {te:TE} {wi:TI}
  (hcalm:X.calm=true) (hi:PI X tg iter wi) (hg:∀ (pins:List (Addr × Obj)) (fp:List Addr) (C:Addr) (s:Shared) (H:Hp),PG (b9 X pins (xs++rest) scope cl C fp s H) tg g) (ht:∀ (pins:List (Addr × Obj)) (fp:List Addr) (C:Addr) (s:Shared) (H:Hp),PTs (b9 X pins (xs++rest) scope cl C fp s H) ifs tc)
  (he:∀ (pins:List (Addr × Obj)) (fp:List Addr) (C:Addr) (s:Shared) (H:Hp),PE (b9 X pins (xs++rest) scope cl C fp s H) elt te)
  (hc:Clos X scope cl) (hr:Reads X scope rest sel) (hkind:scope.kind=.function:=by rfl) (hcell:∀ z∈scope.names,z.2≠.cell:=by decide +kernel) (hnames:∀ z∈scope.names,z.2=.local→scope.names.lookup z.1=some .local:=by decide +kernel)
  (hs:∀ x,foldedSetIterable iter X.env x=pure x:=by intro _;rfl) :
  PE X (.ListComp elt [⟨tg,iter,ifs,0⟩] scope pos) (tCompG xs.length wi g tc te sel):=by
 intro pins s σ H Q I h
 rw [eval_ListComp]
 refine wpAny_comprehension_free (use:=none) rfl hs hc.clos hkind hnames (thn (hi pins s σ H _ I h) fun v s1 h1=>thn h1 fun itv s2 h2=>?_)
 obtain ⟨it,fp,tn,J,H2,rfl,I2,T,t2,f2,q2⟩:=h2
 refine comp_blockG (RR:=fun acc C=>compPost (model X.prog X.w) X.A X.xe none (EP X pins σ Q) acc C) hcalm hkind hcell hc hr (hg pins fp) (ht pins fp) (he pins fp) I2 T t2 f2 q2 fun D C H' s' I' fC ⟨m,hn⟩ q=>?_
 exact ⟨m,hn,fun h' sb=>⟨.ref D,H',I'.turned (t':=s'.toks) (fun b o hb e=>(sb.2 b hb).trans e) fC.1 fC.2.1 fC.2.2.2.1 fC.2.2.2.2.1 fC.2.2.2.2.2,rfl,q⟩⟩
theorem d5 {i:Nat} {y:Str} {py spos:Pos} {elt iter tg:Expr} {ifs:List Expr} {xs:List Str} {pos:Pos} {scope:Scope} {cl:List (Str × Addr)} {rest:List Str} {sel:St→St} {g:TG} {tc:TT} {te:TE} {wi:TI}
  (hNX:X.N.Nodup) (hi':X.N[i]?=some y) (hy:X.env.scope.names.lookup y=some .local)
  (hcalm:X.calm=true) (hi:PI X tg iter wi) (hg:∀ (pins:List (Addr × Obj)) (fp:List Addr) (C:Addr) (s:Shared) (H:Hp),PG (b9 X pins (xs++rest) scope cl C fp s H) tg g) (ht:∀ (pins:List (Addr × Obj)) (fp:List Addr) (C:Addr) (s:Shared) (H:Hp),PTs (b9 X pins (xs++rest) scope cl C fp s H) ifs tc)
  (he:∀ (pins:List (Addr × Obj)) (fp:List Addr) (C:Addr) (s:Shared) (H:Hp),PE (b9 X pins (xs++rest) scope cl C fp s H) elt te)
  (hc:Clos X scope cl) (hr:Reads X scope rest sel) (hkind:scope.kind=.function:=by rfl) (hcell:∀ z∈scope.names,z.2≠.cell:=by decide +kernel) (hnames:∀ z∈scope.names,z.2=.local→scope.names.lookup z.1=some .local:=by decide +kernel)
  (hs:∀ x,foldedSetIterable iter X.env x=pure x:=by intro _;rfl)
  (hsw:swapsWith (.ListComp elt [⟨tg,iter,ifs,0⟩] scope pos) (some (.Name y py)) spos.line X.env=pure true:=by rfl) :
  PS X (.Assign [.Name y py] (.ListComp elt [⟨tg,iter,ifs,0⟩] scope pos) spos) (tAsg (tCompG xs.length wi g tc te sel) (gName i)):=by
 intro pins s σ H D I h
 rw [exec_Assign_Name_used _ _ _ _ hsw]
 refine wpAny_bind (wpAny_standAt (wpAny_bind ?_))
 show wpAny _ X.A (do let _ ← comprehension (.ListComp elt [⟨tg,iter,ifs,0⟩] scope pos) scope X.env _ (newList []) false (eval iter X.env) (some (assign (.Name y py) X.env))) _ _ s
 refine wpAny_bind (wpAny_mono (wpAny_comprehension_free (use:=some (assign (.Name y py) X.env)) (Q:=fun _ s'=>SP X pins D .next s') rfl hs hc.clos hkind hnames
  (thn (hi pins s σ H _ I h) fun v s1 h1=>thn h1 fun itv s2 h2=>?_)) (fun _ s' hq=>wpAny_pure (wpAny_pure hq)) fun _ _ e=>e)
 obtain ⟨it,fp,tn,J,H2,rfl,I2,T,t2,f2,q2⟩:=h2
 refine comp_blockG (Q:=fun x H1=>gName i x σ H1 D.nx) (RR:=fun acc C=>compPost (model X.prog X.w) X.A X.xe (some (assign (.Name y py) X.env)) (fun _ s'=>SP X pins D .next s') acc C) hcalm hkind hcell hc hr (hg pins fp) (ht pins fp) (he pins fp) I2 T t2 f2 q2 fun L C H' s' I' fC ⟨m,hn⟩ q=>?_
 show wpAny _ X.A (assign (.Name y py) X.env (.ref L)) _ _ _
 refine wpAny_assign_Name (store_ok2 I' hNX hi' (.inl hy) (v:=.ref L) rfl (fun s2 I2' ⟨a,sb,ha⟩=>?_) (.inr hy))
 have hCa:C≠a:=fun z=>by
  rcases ha with z' | z'
  ·exact fC.2.1 (z.trans z')
  ·exact fC.2.2.2.2.1 y a z' z.symm
 exact ⟨m,hn.sameBut sb hCa,fun h' sb'=>⟨_,H',I2'.turned (t':=s2.toks) (fun b o hb e=>(sb'.2 b hb).trans e) fC.1 fC.2.1 fC.2.2.2.1 fC.2.2.2.2.1 fC.2.2.2.2.2,q⟩⟩
end
end L2
namespace L2
open PySem PySem.Spec PyProof.Rows
def TrailF (h:Heap) (e:Addr) (vs:Array Value) (T:Addr):Prop:=
 vs[1]?=some (.ref T)∧T≠e∧∃ oT ts,h.get? T=some oT∧oT.data=.fields ts∧3<ts.size
structure NotedF (l:List Env) (e:Addr) (oe:Obj) (tr:Option Addr) (h h':Heap):Prop where
 exc:∃ vs' T,h'.get? e=some { oe with data:=.fields vs' }∧h.objs.size≤T∧TrailF h' e vs' T
 keep:∀ b o,b≠e→tr≠some b→b ∉ l.filterMap (·.frame)→h.get? b=some o→h'.get? b=some o
 slot:∀ b o,b≠e→tr≠some b→b∈l.filterMap (·.frame)→h.get? b=some o→∃ sl,h'.get? b=some { o with slots:=sl }
structure NotedL (l:List Env) (e:Addr) (oe:Obj) (T:Addr) (h h':Heap):Prop where
 exc:∃ vs' T',h'.get? e=some { oe with data:=.fields vs' }∧(h.objs.size≤T'∨T'=T)∧ie h' e vs' (some T')
 keep:∀ b o,b≠e→some T≠some b→b ∉ l.filterMap (·.frame)→h.get? b=some o→h'.get? b=some o
 slot:∀ b o,b≠e→some T≠some b→b∈l.filterMap (·.frame)→h.get? b=some o→∃ sl,h'.get? b=some { o with slots:=sl }
section
variable {M:Model} {A:Around} {E:Value→Shared→Prop} {s:Shared} {base:Heap} {env:Env} {outer:List Env} {L e:Addr} {oe:Obj} {vs:Array Value} {Q:Unit→Shared→Prop}
end
section
variable {X:Cx} {pins:List (Addr × Obj)} {σ:St} {H H':Hp} {s s':Shared} {h':Heap}
def XFlyF (X:Cx) (pins:List (Addr × Obj)) (H:Hp) (h:Heap) (x:Addr) (cls:Value) (d:Option Addr):Prop:=
 H x=none∧Off X pins x∧∃ vs sl T,h.get? x=some ⟨cls,d,.fields vs,sl⟩∧TrailF h x vs T∧H T=none∧Off X pins T
def XPF (X:Cx) (pins:List (Addr × Obj)) (σ:St) (E:XK) (e:Value) (s':Shared):Prop:=∃ x cls d H',e=.ref x∧Inv X pins σ H' s'∧XFlyF X pins H' s'.heap x cls d∧E cls d H'
def XOutF (X:Cx) (E:XK):Prop:=∀ pins σ e s',XPF X pins σ E e s'→X.xe e s'
end
section
variable {P:Program} {w:World} {K:PySem.W.Frag} {mg:Str→Option Value} {base:Heap} {N:List Str} {qual:Str} {scope:Scope} {f:Addr} {cd:Value} {A:Around} {outer:List Env} {s₀:Shared} {H₀:Hp} {E:XK}
end
section
variable {X:Cx} {E:XK}
def CXC (P:Program) (w:World) (stack:List Env) (fp:List Addr) (C:Addr) (H₃:Hp) (s₃:Shared) (E:XK) (e:Value) (s':Shared):Prop:=
 ∃ x cls d H' vs sl tr,e=.ref x∧s'.os=s₃.os∧AllBare s'.gens∧Un (frs stack) fp H₃ H' s₃.heap s'.heap∧HOk P w H' s'.heap∧H' x=none∧s₃.heap.get? x=none∧x≠C∧
  s'.heap.get? x=some ⟨cls,d,.fields vs,sl⟩∧ie s'.heap x vs tr∧(∀ T,tr=some T→s₃.heap.get? T=none∧H' T=none∧T≠C)∧(∃ m,s'.heap.Ns C m)∧H' C=none∧E cls d H'
def cxCompX (X:Cx) (E:XK) (pins:List (Addr × Obj)) (N':List Str) (scope:Scope) (cl:List (Str × Addr)) (C:Addr) (fp:List Addr) (s:Shared) (H:Hp) (ps:List (Addr × Obj)):Cx:=
 { b9 X pins N' scope cl C fp s H with pn:=X.pn++pins++ps,xe:=fun e s'=>(∀ b∈fp,∃ o,(b,o)∈ps)→CXC X.prog X.w X.stack fp C H s E e s' }
theorem px_or {e:Expr} {t u:XK→TE} (h1:PX X e t) (h2:PX X e u):PX X e (fun E σ H Q=>t E σ H Q∨u E σ H Q):=
 fun pins s σ H Q E I q=>q.elim (h1 pins s σ H Q E I) (h2 pins s σ H Q E I)
end
end L2
namespace L2
open PySem PySem.Spec PyProof.Rows
section
variable {X:Cx} {pins:List (Addr × Obj)} {σ:St} {H:Hp} {s:Shared} {a:Addr} {o:Obj} {u:HO}
theorem Inv.freeze (I:Inv X pins σ H s) (ha:H a=some u) (mu:Mut (some u)) (ho:s.heap.get? a=some o):Inv X pins σ (upd H a (.frz o u)) s:=by
 have mu':Mut (H a):=by rw [ha];exact mu
 have nown:∀ c y,H c=some (.own y)→c≠a:=fun c y r z=>by subst z;rw [r] at mu';exact mu'
 have ntup:∀ c xs,H c=some (.tup xs)→c≠a:=fun c xs r z=>by subst z;rw [r] at mu';exact mu'
 refine I.un (t':=s.toks) (Un.write (x:=a) (e:=a) mu' (.inl rfl) (fun _ _ _ q=>q) ⟨o,ho⟩) (I.hok.write (x:=a) (e:=a) mu' (.inl rfl) (fun _ _ _ q=>q) ⟨o,ho⟩ ⟨ho,?_⟩)
 exact (I.hok a u ha).stay (fun _ _ _ q=>q) (fun c r=>by rw [ak (nown c a r)];exact r) fun c xs r=>by rw [ak (ntup c xs r)];exact r
theorem Inv.thaw (I:Inv X pins σ H s) (ha:H a=some (.frz o u)) (h0:∀ o' u',X.H₀ a≠some (.frz o' u')):Inv X pins σ (upd H a u) s:=by
 have nown:∀ c y,H c=some (.own y)→c≠a:=fun c y r z=>by subst z;rw [r] at ha;cases ha
 have ntup:∀ c xs,H c=some (.tup xs)→c≠a:=fun c xs r z=>by subst z;rw [r] at ha;cases ha
 have nn:∀ c,H c=none→c≠a:=fun c r z=>by subst z;rw [r] at ha;cases ha
 have up:∀ c,H c=none→upd H a u c=none:=fun c r=>by rw [ak (nn c r)];exact r
 refine ⟨I.ok,I.os,I.bare,⟨I.base.keep,I.base.slot,fun b ob e n hx=>up b (I.base.free b ob e n hx),I.base.there,fun b xs e=>?_,fun b ob z e=>?_,fun b ps e=>?_⟩,I.loc,I.cell,up _ I.free,fun x c e=>up _ (I.freeC x c e),fun p hp=>?_,fun b ob e=>?_,I.len⟩
 ·have q:=I.base.tups b xs e
  rw [ak (ntup b xs q)]
  exact q
 ·have q:=I.base.frzs b ob z e
  have nb:b≠a:=fun z'=>by subst z';exact h0 _ _ e
  rw [ak nb]
  exact q
 ·obtain ⟨m,q⟩:=I.base.tbls b ps e
  have nb:b≠a:=fun z'=>by subst z';rw [q] at ha;cases ha
  exact ⟨m,by rw [ak nb];exact q⟩
 ·obtain ⟨e,n,r⟩:=I.pin p hp
  exact ⟨e,up _ n,r⟩
 ·by_cases hb:b=a
  ·subst hb
   rw [ad] at e
   cases e
   obtain ⟨_,q⟩:=I.hok b _ ha
   exact q.stay (fun _ _ _ q=>q) (fun c r=>by rw [ak (nown c b r)];exact r) fun c xs r=>by rw [ak (ntup c xs r)];exact r
  ·rw [ak hb] at e
   exact (I.hok b ob e).stay (fun _ _ _ q=>q) (fun c r=>by rw [ak (nown c b r)];exact r) fun c xs r=>by rw [ak (ntup c xs r)];exact r
theorem Inv.nofrz (I:Inv X pins σ H s) (ha:H a=some u) (nu:∀ o' u',u≠.frz o' u'):∀ o' u',X.H₀ a≠some (.frz o' u'):=fun o' u' e=>by
 have q:=I.base.frzs a o' u' e
 rw [ha] at q
 exact nu _ _ (Option.some.inj q)
def tThaw (t:TE):TE:=fun σ H Q=>∃ a u,H a=some u∧(∀ o' u',u≠.frz o' u')∧t σ H fun v H'=>∃ o,H' a=some (.frz o u)∧Q v (upd H' a u)
theorem pe_thaw {e:Expr} {t:TE} (h:PE X e t):PE X e (tThaw t):=by
 intro pins s σ H Q I q
 obtain ⟨a,u,ha,nu,q⟩:=q
 exact thn (h pins s σ H _ I q) fun v s1 ⟨x,H1,I1,r1,o,e1,q1⟩=>⟨x,_,I1.thaw e1 (I.nofrz ha nu),r1,q1⟩
def tThawS (t:TS):TS:=fun D σ H=>∃ a u,H a=some u∧(∀ o' u',u≠.frz o' u')∧t { D with nx:=fun σ' H'=>∃ o,H' a=some (.frz o u)∧D.nx σ' (upd H' a u),rt:=fun v H'=>∃ o,H' a=some (.frz o u)∧D.rt v (upd H' a u),ct:=fun σ' H'=>∃ o,H' a=some (.frz o u)∧D.ct σ' (upd H' a u),bk:=fun σ' H'=>∃ o,H' a=some (.frz o u)∧D.bk σ' (upd H' a u) } σ H
theorem ps_thaw {st:Stmt} {t:TS} (h:PS X st t):PS X st (tThawS t):=by
 intro pins s σ H D I q
 obtain ⟨a,u,ha,nu,q⟩:=q
 have hn:=I.nofrz ha nu
 refine thn (h pins s σ H _ I q) fun f s1 q1=>?_
 cases f with
 | next=>obtain ⟨σ1,H1,I1,o,e1,q2⟩:=q1;exact ⟨σ1,_,I1.thaw e1 hn,q2⟩
 | cont=>obtain ⟨σ1,H1,I1,o,e1,q2⟩:=q1;exact ⟨σ1,_,I1.thaw e1 hn,q2⟩
 | brk=>obtain ⟨σ1,H1,I1,o,e1,q2⟩:=q1;exact ⟨σ1,_,I1.thaw e1 hn,q2⟩
 | ret v=>obtain ⟨x,σ1,H1,I1,r1,o,e1,q2⟩:=q1;exact ⟨x,σ1,_,I1.thaw e1 hn,r1,q2⟩
def Itd (a:Addr) (o:Obj) (kvs:List (Key × V)):It:=
 ⟨fun i H=>H a=some (.frz o (.dK kvs))∧i<kvs.length,fun i H x H'=>H'=H∧∃ kv,kvs[i]?=some kv∧x=kV kv.1,fun i H=>H a=some (.frz o (.dK kvs))∧kvs.length≤i⟩
theorem KV.get {κ:Type}:∀ {kvs:List (κ × V)} {vs:List (κ × Value)} {i:Nat} {kv:κ × V},KV kvs vs→kvs[i]?=some kv→∃ v,vs[i]?=some (kv.1,v)∧RelV kv.2 v
 | _,_,_,_,.nil,e=>by simp at e
 | _,_,0,kv,.cons (b:=b) r t,e=>by
  simp at e
  subst e
  exact ⟨b.2,by simp [r.1],r.2⟩
 | _,_,i+1,kv,.cons r t,e=>by
  obtain ⟨v,e',r'⟩:=KV.get (i:=i) t (by simpa using e)
  exact ⟨v,by simpa using e',r'⟩
theorem is_kV {P:Program} {w:World} {k:Key} {u:Value} (h:(a9 P w).is k u=true):RelV (kV k) u:=by
 rcases bw (show keyIs k u=true from h) with ⟨i,t,rfl,rfl⟩ | ⟨x,t,rfl,rfl⟩
 ·exact ⟨t,rfl⟩
 ·exact ⟨t,rfl⟩
theorem turn_dict {P:Program} {w:World} {K:PySem.W.Frag} {tg:Expr} (a it:Addr) (o:Obj) (kvs:List (Key × V)) {es:Array DictEntry} {ep:Nat} (hd:o.data=.dict es ep):Turn P w K tg (Itd a o kvs) [it] it (fun i h=>h.IsKeyIter it a i kvs.length ep) where
 mem:=by simp
 obj:=fun i h st b hb=>by
  have e:b=it:=by simpa using hb
  subst e
  obtain ⟨o,e,c,d⟩:=st
  exact ⟨o,e,fun v z=>by rw [d] at z;cases z⟩
 keep:=fun i h h' st k=>st.at fun o e=>k it (by simp) o e
 item:=by
  intro X hP hw hK hc i pins s σ H E I hf st hg
  subst hP hw hK
  obtain ⟨ha,hi⟩:=hg
  obtain ⟨ho,hz,hs,vs,r,o',es',ep',e1,e2,e3,e4,e5,e6⟩:=I.hok a _ ha
  rw [ho] at e1;cases e1
  rw [hd] at e3;cases e3
  have hx:kvs[i]?=some kvs[i]:=List.getElem?_eq_getElem hi
  obtain ⟨v,hv,rv⟩:=KV.get r hx
  obtain ⟨f0,f1,f2,f3,f4,f5⟩:=hf it (by simp)
  have st0:s.heap.IsKeyIter it a i vs.length ep:=by rw [← r.length];exact st
  refine wpAny_pyNext_dict_item st0 ⟨o,es,ho,e2,hd,e4,e5,e6⟩ hv fun key h' hk st' sb=>?_
  rw [← r.length] at st'
  have I1:Inv X pins σ H { s with heap:=h' }:=I.turned (t':=s.toks) (fun b o hb e=>(sb.2 b hb).trans e) f0 f1 f3 f4 f5
  obtain ⟨oi,e,c,d⟩:=id st'
  exact ⟨key,rfl,go_of (s:={ s with heap:=h' }) e c d (by decide) ⟨kV (kvs[i]).1,H,I1,is_kV hk,⟨rfl,_,hx,rfl⟩,st',fun b hb=>(hf b hb).1⟩⟩
 done:=by
  intro X hP hw hK hc i pins s σ H E I hf st hg
  subst hP hw hK
  obtain ⟨ha,hi⟩:=hg
  obtain ⟨ho,hz,hs,vs,r,o',es',ep',e1,e2,e3,e4,e5,e6⟩:=I.hok a _ ha
  rw [ho] at e1;cases e1
  rw [hd] at e3;cases e3
  obtain ⟨f0,f1,f2,f3,f4,f5⟩:=hf it (by simp)
  have st0:s.heap.IsKeyIter it a i vs.length ep:=by rw [← r.length];exact st
  exact wpAny_pyNext_dict_end (I.ok.hd hc) st0 ⟨o,es,ho,e2,hd,e4,e5,e6⟩ (List.getElem?_eq_none (by rw [← r.length];exact hi)) fun h' eb=>⟨rfl,I.turned (t':=s.toks) (fun b o hb e=>eb b o hb e) f0 f1 f3 f4 f5⟩
 self:=fun _ _ _ _ _ st h=>wpAny_pyIter_keyiter st h
def iDic (tl:TE):TI:=fun σ H R=>tl σ H fun x H1=>∃ a kvs,x=.ref a∧H1 a=some (.dK kvs)∧∀ o,R (Itd a o kvs) (upd H1 a (.frz o (.dK kvs)))
theorem pi_dict {tg l:Expr} {tl:TE} (hl:PE X l tl):PI X tg l (iDic tl):=by
 intro pins s σ H R I h
 refine thn (hl pins s σ H _ I h) fun v s1 ⟨x,H1,I1,r1,q1⟩=>?_
 obtain ⟨a,kvs,e,ha,q⟩:=q1
 subst e
 cases r1
 obtain ⟨hz,hs,vs,r,o,es,ep,e1,e2,e3,e4,e5,e6⟩:=dk_of I1.hok ha
 have I2:Inv X pins σ (upd H1 a (.frz o (.dK kvs))) s1:=I1.freeze ha True.intro e1
 refine wpAny_pyIter_dict hs ⟨o,es,e1,e2,e3,e4,e5,e6⟩ ?_
 refine ⟨s1.heap.objs.size,[s1.heap.objs.size],_,_,_,rfl,I2.kept (t':=s1.toks) fun b o e=>Heap.get?_push_of_some _ e,turn_dict a _ o kvs e3,⟨_,Heap.get?_push_size _ rfl,rfl,by rw [r.length];rfl⟩,fun b hb=>?_,q o⟩
 have e:b=s1.heap.objs.size:=by simpa using hb
 subst e
 exact I2.fpOk (Nat.le_refl _) (I2.hok.fresh (Nat.le_refl _))
end
theorem for_dict {a:Addr} {o:Obj} {kvs:List (Key × V)} {g:TG} {tb:TS} {D:Ends} {σ:St} {H:Hp} (Pv:Nat→St→Hp→Prop) (h0:Pv 0 σ H) (hl:∀ i σ H,i≤kvs.length→Pv i σ H→H a=some (.frz o (.dK kvs)))
  (hs:∀ i kv σ H,kvs[i]?=some kv→Pv i σ H→g (kV kv.1) σ H fun σ2 H2=>tb { D with nx:=Pv (i+1),ct:=Pv (i+1),bk:=D.nx } σ2 H2) (hd:∀ σ H,Pv kvs.length σ H→D.nx σ H) :
  ∃ W:Nat→Nat→St→Hp→Prop,(∃ m,W 0 m σ H)∧∀ i m σ H,W i m σ H→
   ((Itd a o kvs).stop i H∧D.nx σ H)∨((Itd a o kvs).go i H∧∃ N:St→Hp→Prop,(∀ σ' H',N σ' H'→∃ m',m'<m∧W (i+1) m' σ' H')∧∀ x H',(Itd a o kvs).yld i H x H'→g x σ H' fun σ2 H2=>tb { D with nx:=N,ct:=N,bk:=D.nx } σ2 H2):=by
 refine ⟨fun i m σ H=>m=kvs.length-i∧i≤kvs.length∧Pv i σ H,⟨kvs.length,by simp,Nat.zero_le _,h0⟩,?_⟩
 rintro i m σ H ⟨rfl,hi,p⟩
 have q:=hl i σ H hi p
 by_cases hlt:i<kvs.length
 ·refine .inr ⟨⟨q,hlt⟩,Pv (i+1),fun σ' H' p'=>⟨kvs.length-(i+1),by omega,rfl,hlt,p'⟩,fun x H' y=>?_⟩
  obtain ⟨e,kv,hkv,ex⟩:=y
  subst e ex
  exact hs i kv σ _ hkv p
 ·have e:i=kvs.length:=by omega
  subst e
  exact .inl ⟨⟨q,Nat.le_refl _⟩,hd σ H p⟩
end L2
namespace L2
open PySem PySem.Spec PyProof.Rows
def fR (n:Nat) (Pv:Nat→Hp→Prop) (i:Nat) (H:Hp):Prop:=∃ m',m'<n-i∧m'=n-(i+1)∧i+1≤n∧Pv (i+1) H
theorem c7 {n i:Nat} {Pv:Nat→Hp→Prop} {H:Hp} (hi:i<n) (h:Pv (i+1) H):fR n Pv i H:=⟨n-(i+1),by omega,rfl,hi,h⟩
section
variable {l:Addr} {k:Nat} {g:TG} {tc:TT} {te:TE} {ρ:St} {R:Hp→Prop} {H₀:Hp}
theorem hZ {J:It} {n:Nat} (Pv:Nat→Hp→Prop) (h0:Pv 0 (upd H₀ l (.lst []))) (hgo:∀ i H,i<n→Pv i H→J.go i H) (hst:∀ H,Pv n H→J.stop n H)
  (hs:∀ i x H H',i<n→J.yld i H x H'→Pv i H→∀ zs:St,zs.length=k→g x (zs ++ ρ) H' fun σ2 H2=>(∃ zs':St,zs'.length=k∧σ2=zs' ++ ρ)∧tc σ2 H2 fun b H3=>if b=true then te σ2 H3 fun y H4=>∃ ys,H4 l=some (.lst ys)∧ys.length<sizeLine∧fR n Pv i (upd H4 l (.lst (ys++[y]))) else fR n Pv i H3)
  (hd:∀ H,Pv n H→R H) :
  ∃ W:Nat→Nat→Hp→Prop,(∃ m,W 0 m (upd H₀ l (.lst [])))∧∀ i m H,W i m H→
   (J.stop i H∧R H)∨(J.go i H∧∀ x H',J.yld i H x H'→∀ zs:St,zs.length=k→g x (zs ++ ρ) H' fun σ2 H2=>(∃ zs':St,zs'.length=k∧σ2=zs' ++ ρ)∧tc σ2 H2 fun b H3=>if b=true then te σ2 H3 fun y H4=>∃ ys,H4 l=some (.lst ys)∧ys.length<sizeLine∧∃ m',m'<m∧W (i+1) m' (upd H4 l (.lst (ys++[y]))) else ∃ m',m'<m∧W (i+1) m' H3):=by
 refine ⟨fun i m H=>m=n-i∧i≤n∧Pv i H,⟨n,by simp,Nat.zero_le _,h0⟩,?_⟩
 rintro i m H ⟨rfl,hi,p⟩
 by_cases hlt:i<n
 ·exact .inr ⟨hgo i H hlt p,fun x H' y=>hs i x H H' hlt y p⟩
 ·have e:i=n:=by omega
  subst e
  exact .inl ⟨hst H p,hd H p⟩
theorem fm {K:PySem.W.Frag} {a:Addr} {xs:List V} (Pv:Nat→Hp→Prop) (h0:Pv 0 (upd H₀ l (.lst []))) (hl:∀ i H,Pv i H→SqL K H a xs)
  (hs:∀ i x H,xs[i]?=some x→Pv i H→∀ zs:St,zs.length=k→g x (zs ++ ρ) H fun σ2 H2=>(∃ zs':St,zs'.length=k∧σ2=zs' ++ ρ)∧tc σ2 H2 fun b H3=>if b=true then te σ2 H3 fun y H4=>∃ ys,H4 l=some (.lst ys)∧ys.length<sizeLine∧fR xs.length Pv i (upd H4 l (.lst (ys++[y]))) else fR xs.length Pv i H3)
  (hd:∀ H,Pv xs.length H→R H) :
  ∃ W:Nat→Nat→Hp→Prop,(∃ m,W 0 m (upd H₀ l (.lst [])))∧∀ i m H,W i m H→
   ((Itl K a).stop i H∧R H)∨((Itl K a).go i H∧∀ x H',(Itl K a).yld i H x H'→∀ zs:St,zs.length=k→g x (zs ++ ρ) H' fun σ2 H2=>(∃ zs':St,zs'.length=k∧σ2=zs' ++ ρ)∧tc σ2 H2 fun b H3=>if b=true then te σ2 H3 fun y H4=>∃ ys,H4 l=some (.lst ys)∧ys.length<sizeLine∧∃ m',m'<m∧W (i+1) m' (upd H4 l (.lst (ys++[y]))) else ∃ m',m'<m∧W (i+1) m' H3):=
 hZ (n:=xs.length) Pv h0 (fun i H hi p=>⟨xs,xs[i],hl i H p,List.getElem?_eq_getElem hi⟩) (fun H p=>⟨xs,hl _ H p,Nat.le_refl _⟩) (fun i x H H' hi y p=>by
  obtain ⟨e,y⟩:=y
  subst e
  exact hs i x _ (y xs (hl i _ p)) p) hd
theorem cv {lo:Int} {n:Nat} (Pv:Nat→Hp→Prop) (h0:Pv 0 (upd H₀ l (.lst [])))
  (hs:∀ i H,i<n→Pv i H→∀ zs:St,zs.length=k→g (.int (lo+i)) (zs ++ ρ) H fun σ2 H2=>(∃ zs':St,zs'.length=k∧σ2=zs' ++ ρ)∧tc σ2 H2 fun b H3=>if b=true then te σ2 H3 fun y H4=>∃ ys,H4 l=some (.lst ys)∧ys.length<sizeLine∧fR n Pv i (upd H4 l (.lst (ys++[y]))) else fR n Pv i H3)
  (hd:∀ H,Pv n H→R H) :
  ∃ W:Nat→Nat→Hp→Prop,(∃ m,W 0 m (upd H₀ l (.lst [])))∧∀ i m H,W i m H→
   ((Itr lo n).stop i H∧R H)∨((Itr lo n).go i H∧∀ x H',(Itr lo n).yld i H x H'→∀ zs:St,zs.length=k→g x (zs ++ ρ) H' fun σ2 H2=>(∃ zs':St,zs'.length=k∧σ2=zs' ++ ρ)∧tc σ2 H2 fun b H3=>if b=true then te σ2 H3 fun y H4=>∃ ys,H4 l=some (.lst ys)∧ys.length<sizeLine∧∃ m',m'<m∧W (i+1) m' (upd H4 l (.lst (ys++[y]))) else ∃ m',m'<m∧W (i+1) m' H3):=
 hZ (n:=n) Pv h0 (fun i H hi p=>hi) (fun H p=>Nat.le_refl _) (fun i x H H' hi y p=>by
  obtain ⟨e,y⟩:=y
  subst e y
  exact hs i _ hi p) hd
theorem compG_dict {a:Addr} {o:Obj} {kvs:List (Key × V)} (Pv:Nat→Hp→Prop) (h0:Pv 0 (upd H₀ l (.lst []))) (hl:∀ i H,Pv i H→H a=some (.frz o (.dK kvs)))
  (hs:∀ i kv H,kvs[i]?=some kv→Pv i H→∀ zs:St,zs.length=k→g (kV kv.1) (zs ++ ρ) H fun σ2 H2=>(∃ zs':St,zs'.length=k∧σ2=zs' ++ ρ)∧tc σ2 H2 fun b H3=>if b=true then te σ2 H3 fun y H4=>∃ ys,H4 l=some (.lst ys)∧ys.length<sizeLine∧fR kvs.length Pv i (upd H4 l (.lst (ys++[y]))) else fR kvs.length Pv i H3)
  (hd:∀ H,Pv kvs.length H→R H) :
  ∃ W:Nat→Nat→Hp→Prop,(∃ m,W 0 m (upd H₀ l (.lst [])))∧∀ i m H,W i m H→
   ((Itd a o kvs).stop i H∧R H)∨((Itd a o kvs).go i H∧∀ x H',(Itd a o kvs).yld i H x H'→∀ zs:St,zs.length=k→g x (zs ++ ρ) H' fun σ2 H2=>(∃ zs':St,zs'.length=k∧σ2=zs' ++ ρ)∧tc σ2 H2 fun b H3=>if b=true then te σ2 H3 fun y H4=>∃ ys,H4 l=some (.lst ys)∧ys.length<sizeLine∧∃ m',m'<m∧W (i+1) m' (upd H4 l (.lst (ys++[y]))) else ∃ m',m'<m∧W (i+1) m' H3):=
 hZ (n:=kvs.length) Pv h0 (fun i H hi p=>⟨hl i H p,hi⟩) (fun H p=>⟨hl _ H p,Nat.le_refl _⟩) (fun i x H H' hi y p=>by
  obtain ⟨e,kv,hkv,ex⟩:=y
  subst e ex
  exact hs i kv _ hkv p) hd
end
theorem g1 {v:V} {ρ:St} {H:Hp} {Q:St→Hp→Prop} (h:Q (some v :: ρ) H):∀ zs:St,zs.length=1→gName 0 v (zs ++ ρ) H Q:=fun zs hz=>by
 match zs,hz with
 | [z],_=>exact h
theorem yes {σ:St} {H:Hp} {A B:Hp→Prop} (h:A H):tYes σ H (fun b H3=>if b=true then A H3 else B H3):=by
 show if true=true then A H else B H
 rw [if_pos rfl]
 exact h
end L2
namespace L2
open PySem PySem.Spec PyProof.Rows
section
variable {X:Cx}
def Iti (a:Addr) (o:Obj) (kvs:List (Key × V)):It:=
 ⟨fun i H=>H a=some (.frz o (.dK kvs))∧i<kvs.length,fun i H x H'=>∃ kv t,kvs[i]?=some kv∧H t=none∧x=.ref t∧H'=upd H t (.tup [kV kv.1,kv.2]),fun i H=>H a=some (.frz o (.dK kvs))∧kvs.length≤i⟩
theorem fZ:entryFor table "dict_itemiterator.__iter__"=some Builtin.«dict_keyiterator.__iter__»:=entryFor_alias (id':="dict_keyiterator.__iter__") (by kernel_rfl) rfl (by decide +kernel) (by kernel_rfl)
theorem Inv.trackI {pins:List (Addr × Obj)} {σ:St} {H:Hp} {s:Shared} {t:Addr} {o:HO} (I:Inv X pins σ H s) (h0:X.s₀.heap.objs.size≤t) (hn:H t=none) (hL:t≠X.env.locals) (hc:∀ x c,X.env.cells.lookup x=some c→c≠t) (hp:∀ p∈X.pn++pins,p.1≠t) (hok:HOk X.prog X.w (upd H t o) s.heap):Inv X pins σ (upd H t o) s:=by
 have up:∀ c,c≠t→H c=none→upd H t o c=none:=fun c n r=>by rw [ak n];exact r
 refine ⟨I.ok,I.os,I.bare,⟨I.base.keep,I.base.slot,fun b ob e n hx=>up b (Nat.ne_of_lt (Nat.lt_of_lt_of_le (Heap.lt_size e) h0)) (I.base.free b ob e n hx),I.base.there,fun b xs e=>?_,fun b ob z e=>?_,fun b ps e=>?_⟩,I.loc,I.cell,up _ hL.symm I.free,fun x c e=>up _ (hc x c e) (I.freeC x c e),fun p hp'=>?_,hok,I.len⟩
 ·have q:=I.base.tups b xs e
  rw [ak (aE q hn)]
  exact q
 ·have q:=I.base.frzs b ob z e
  rw [ak (aE q hn)]
  exact q
 ·obtain ⟨m,q⟩:=I.base.tbls b ps e
  exact ⟨m,by rw [ak (aE q hn)];exact q⟩
 ·obtain ⟨e,n,r⟩:=I.pin p hp'
  exact ⟨e,up _ (hp p hp') n,r⟩
theorem turn_items {P:Program} {w:World} {K:PySem.W.Frag} {elts:List Expr} {x1} {tpos:Pos} (a it:Addr) (o:Obj) (kvs:List (Key × V)) {es:Array DictEntry} {ep:Nat} (hd:o.data=.dict es ep) :
  Turn P w K (.Tuple elts x1 tpos) (Iti a o kvs) [it] it (fun i h=>∃ ok ov,IsItemIter h it a i kvs.length ep ok ov) where
 mem:=by simp
 obj:=fun i h st b hb=>by
  have e:b=it:=by simpa using hb
  subst e
  obtain ⟨ok,ov,e⟩:=st
  exact ⟨_,e,fun v z=>by
   have z':Data.fields _=Data.cell v:=z
   cases z'⟩
 keep:=fun i h h' st k=>let ⟨ok,ov,e⟩:=st;⟨ok,ov,k it (by simp) _ e⟩
 item:=by
  intro X hP hw hK hc i pins s σ H E I hf st hg
  subst hP hw hK
  obtain ⟨ha,hi⟩:=hg
  obtain ⟨ho,hz,hs,vs,r,o',es',ep',e1,e2,e3,e4,e5,e6⟩:=I.hok a _ ha
  rw [ho] at e1;cases e1
  rw [hd] at e3;cases e3
  have hx:kvs[i]?=some kvs[i]:=List.getElem?_eq_getElem hi
  obtain ⟨v,hv,rv⟩:=KV.get r hx
  obtain ⟨f0,f1,f2,f3,f4,f5⟩:=hf it (by simp)
  obtain ⟨ok,ov,st⟩:=st
  have st0:IsItemIter s.heap it a i vs.length ep ok ov:=by rw [← r.length];exact st
  refine wpAny_pyNext_items_item st0 ⟨o,es,ho,e2,hd,e4,e5,e6⟩ hv fun key h' hk st' ht hz' kk=>?_
  rw [← r.length] at st'
  refine ⟨_,rfl,?_⟩
  refine wpAny_letOwnedTupleGo_items (s:={ s with heap:=h' }) st' fun h2 st2 sb=>?_
  have nt:s.heap.objs.size≠it:=Nat.ne_of_gt (Heap.lt_size st0)
  have I1:Inv X pins σ H { s with heap:=h2,toks:=s.toks }:=I.turned (t':=s.toks) (fun b o hb e=>(sb.2 b hb).trans (kk b o hb e)) f0 f1 f3 f4 f5
  have hn:H s.heap.objs.size=none:=I.hok.fresh (Nat.le_refl _)
  have ht2:h2.get? s.heap.objs.size=some { cls:=.type "tuple",data:=.seq #[key,v] }:=(sb.2 _ nt).trans ht
  have hok:HOk X.prog X.w (upd H s.heap.objs.size (.tup [kV (kvs[i]).1,(kvs[i]).2])) h2:=fun b u e=>by
   by_cases hb:b=s.heap.objs.size
   ·subst hb
    rw [ad] at e
    cases e
    exact ⟨by show 2≤sizeLine;decide,[key,v],.cons (is_kV hk) (.cons rv .nil),_,ht2,rfl,_,rfl⟩
   ·rw [ak hb] at e
    exact (I1.hok b u e).stay (fun _ _ _ q=>q) (fun c q=>by rw [ak (aE q hn)];exact q) fun c xs q=>by rw [ak (aE q hn)];exact q
  have I2:=I1.trackI (t:=s.heap.objs.size) I.sz hn (Nat.ne_of_gt I.lt) (fun x c e z=>by
   obtain ⟨v,q⟩:=I.cell x c e
   exact absurd q.lt (by rw [z];exact Nat.lt_irrefl _)) (fun p hp z=>absurd (Heap.lt_size (I.pin p hp).1) (by rw [z];exact Nat.lt_irrefl _)) hok
  refine ⟨.ref s.heap.objs.size,_,I2,rfl,⟨_,_,hx,hn,rfl,rfl⟩,⟨_,_,st2⟩,fun b hb=>?_⟩
  have e:b=it:=by simpa using hb
  subst e
  rw [ak nt.symm]
  exact f0
 done:=by
  intro X hP hw hK hc i pins s σ H E I hf st hg
  subst hP hw hK
  obtain ⟨ha,hi⟩:=hg
  obtain ⟨ho,hz,hs,vs,r,o',es',ep',e1,e2,e3,e4,e5,e6⟩:=I.hok a _ ha
  rw [ho] at e1;cases e1
  rw [hd] at e3;cases e3
  obtain ⟨f0,f1,f2,f3,f4,f5⟩:=hf it (by simp)
  obtain ⟨ok,ov,st⟩:=st
  have st0:IsItemIter s.heap it a i vs.length ep ok ov:=by rw [← r.length];exact st
  exact wpAny_pyNext_items_end (I.ok.hd hc) st0 ⟨o,es,ho,e2,hd,e4,e5,e6⟩ (List.getElem?_eq_none (by rw [← r.length];exact hi)) fun h' eb=>⟨rfl,I.turned (t':=s.toks) (fun b o hb e=>eb b o hb e) f0 f1 f3 f4 f5⟩
 self:=fun _ _ _ _ _ st h=>by
  obtain ⟨ok,ov,st⟩:=st
  have hT:Shared.TypeIs _ (.ref it) "dict_itemiterator":=⟨_,st,rfl⟩
  refine wpAny_pyIter_slot hT F.slot_dict_itemiterator_iter (wpAny_call_entry F.slot_dict_itemiterator_iter hT fZ ?_ (F.args_dict_itemiterator_iter_1 _))
  show wpAny _ _ (ret (.ref it)) _ _ _
  exact wpAny_pure ⟨_,rfl,"dict_itemiterator",_,hT,F.slot_dict_itemiterator_next.lookup,h⟩
def iItems (to:TE):TI:=fun σ H R=>to σ H fun x H1=>∃ a kvs,x=.ref a∧H1 a=some (.dK kvs)∧∀ o,R (Iti a o kvs) (upd H1 a (.frz o (.dK kvs)))
theorem pi_items {elts:List Expr} {x1} {tpos apos cpos:Pos} {o:Expr} {to:TE} (ho:PE X o to) (hbase:attributeBase o "items" X.env (eval o X.env)=eval o X.env:=by rfl) (hline:(apos.endLine == cpos.line)=true:=by rfl) :
  PI X (.Tuple elts x1 tpos) (.Call (.Attribute o "items" apos) [] [] cpos) (iItems to):=by
 intro pins s σ H R I h
 refine wpAny_Call_method0_late hbase hline (thn (ho pins s σ H _ I h) fun v s1 ⟨x,H1,I1,r1,a,kvs,e,ha,q⟩=>?_)
 subst e
 cases r1
 obtain ⟨hz,hs,vs,r,o,es,ep,e1,e2,e3,e4,e5,e6⟩:=dk_of I1.hok ha
 have hm:s1.heap.DictOf (a9 X.prog X.w) a vs:=⟨o,es,ep,e1,e2,e3,e4,e5,e6⟩
 obtain ⟨h1,h2⟩:=tyV_is (T:="dict") I1 (x:=.ref a) rfl (.inr (.inr (.inl ⟨rfl,.inl ⟨kvs,ha⟩⟩)))
 refine ⟨"dict","dict.items",F.plainAttrs_dict,F.slot_dict_items,F.type_dict_items,h1,h2,?_⟩
 have I2:Inv X pins σ (upd H1 a (.frz o (.dK kvs))) s1:=I1.freeze ha True.intro e1
 refine method_meetsIn F.slot_dict_items F.entry_dict_items rfl (PySem.evalArgs_none ⟨rfl,hm.typeIs,F.args_dict_items_1 _,_,meets_dict_items (a9 X.prog X.w) a hs,⟨vs,hm⟩,?_⟩)
 have I3:Inv X pins σ (upd H1 a (.frz o (.dK kvs))) { s1 with heap:=s1.heap.push { cls:=.type "dict_items",data:=.fields #[.ref a] } }:=I2.kept (t':=s1.toks) fun b o e=>Heap.get?_push_of_some _ e
 refine wpAny_pyIter_items (knd:=a9 X.prog X.w) (d:=a) (kvs:=vs) (ep:=ep) ⟨_,Heap.get?_push_size _ rfl,rfl,rfl⟩ ⟨o,es,Heap.get?_push_of_some _ e1,e2,e3,e4,e5,e6⟩ ?_
 refine ⟨_,[_],_,_,_,rfl,I3.kept (t':=s1.toks) fun b o e=>Heap.get?_push_of_some _ e,turn_items a _ o kvs e3,⟨.none,.none,?_⟩,fun b hb=>?_,q o⟩
 ·rw [r.length]
  exact Heap.get?_push_size _ rfl
 ·have e:=List.mem_singleton.mp hb
  subst e
  exact I3.fpOk (Nat.le_refl _) (I3.hok.fresh (Nat.le_refl _))
end
end L2
namespace L2
open PySem PySem.Spec PyProof.Rows
theorem vals_idx:∀ {xs:List V} {us:List Value},xs.length=us.length→(∀ (j:Nat) (x:V) (u:Value),xs[j]?=some x→us[j]?=some u→RelV x u)→Vals xs us
 | [],[],_,_=>.nil
 | [],_::_,h,_=>by cases h
 | _::_,[],h,_=>by cases h
 | x::xs,u::us,h,k=>.cons (k 0 x u rfl rfl) (vals_idx (Nat.succ.inj h) fun j y w a b=>k (j+1) y w (by simpa using a) (by simpa using b))
section
variable {X:Cx}
theorem fQ (hh:X.A.handled=none):gj X (.type "list") (fun xs H Q=>∃ p kvs,xs=[.ref p]∧Rd H p (.dK kvs)∧∀ l,H l=none→Q (.ref l) (upd H l (.lst (kvs.map fun kv=>kV kv.1)))):=by
 intro pins s σ H xs us Q I r h
 obtain ⟨p,kvs,rfl,hp,q⟩:=h
 obtain ⟨u,rfl,rx⟩:=vals1 r
 cases rx
 obtain ⟨hz,hs,vs,kv,hD⟩:=gi I.hok hp
 obtain ⟨ep,hat⟩:=hD.dictAt
 have el:=kv.length
 refine PySem.W.kdl_call (PySem.W.kdl_dict (knd:=a9 X.prog X.w) (kvs:=vs) (ep:=ep) hs) hh hat (by rw [← el];exact hz) fun h' tk acc c hk hD' hacc=>?_
 obtain ⟨e1,e2⟩:=hacc
 refine ⟨.ref s.heap.objs.size,_,I.laid (t':=tk) hk (Nat.le_refl _) (show ObjOk X.prog X.w _ h' _ (.lst (kvs.map fun kv=>kV kv.1)) from ⟨by rw [List.length_map];exact hz,acc.toList,c,vals_idx (by rw [List.length_map,el,← e1];simp) fun j x w a b=>?_,by simpa using hD'⟩),rfl,q _ (I.hok.fresh (Nat.le_refl _))⟩
 rw [List.getElem?_map] at a
 cases e:kvs[j]? with
 | none=>rw [e] at a;cases a
 | some z=>
  rw [e] at a
  cases a
  obtain ⟨v,hv,_⟩:=KV.get kv e
  obtain ⟨k,y,hk,hi⟩:=e2 j w (by simpa using b)
  rw [hv] at hk
  cases hk
  exact is_kV hi
def ViewO (v d:Addr):HO:=.ext fun h=>h.IsValuesView v d
def rValues:V→List V→Hp→VK→Prop:=fun x vs H Q=>∃ a kvs,x=.ref a∧vs=[]∧Rd H a (.dK kvs)∧∀ v,H v=none→Q (.ref v) (upd H v (ViewO v a))
theorem mt_values:MtM X "dict.values" rValues:=by
 intro pins s σ H x vs v us Q I rx rv h
 obtain ⟨a,kvs,rfl,rfl,ha,q⟩:=h
 cases rx
 cases rv
 obtain ⟨hz,hs,ws,kv,hD⟩:=gi I.hok ha
 refine call_meetsIn PySem.F.slot_dict_values hD.typeIs PySem.F.entry_dict_values (PySem.F.args_dict_values_1 _) (meets_dict_values (a9 X.prog X.w) a hs) ⟨⟨ws,hD⟩,?_⟩
 have e:(s.heap.push { cls:=.type "dict_values",data:=.fields #[.ref a] }).get? s.heap.objs.size=some { cls:=.type "dict_values",data:=.fields #[.ref a] }:=Heap.get?_push_size _ rfl
 refine ⟨.ref s.heap.objs.size,_,I.laid (t':=s.toks) (fun b o e=>Heap.get?_push_of_some _ e) (Nat.le_refl _) (show ObjOk X.prog X.w _ _ _ (ViewO _ a) from ⟨⟨_,e,rfl,rfl⟩,⟨_,e⟩,fun h1 h2 z k=>?_⟩),rfl,q _ (I.hok.fresh (Nat.le_refl _))⟩
 obtain ⟨o,ho,c⟩:=z
 exact ⟨o,k _ ho,c⟩
theorem call_list_vals (hh:X.A.handled=none):gj X (.type "list") (fun xs H Q=>∃ v a kvs,xs=[.ref v]∧H v=some (ViewO v a)∧Rd H a (.dK kvs)∧∀ l,H l=none→Q (.ref l) (upd H l (.lst (kvs.map (·.2))))):=by
 intro pins s σ H xs us Q I r h
 obtain ⟨v,p,kvs,rfl,hv,hp,q⟩:=h
 obtain ⟨u,rfl,rx⟩:=vals1 r
 cases rx
 obtain ⟨hz,hs,vs,kv,hD⟩:=gi I.hok hp
 obtain ⟨ep,hat⟩:=hD.dictAt
 obtain ⟨hview,_⟩:=(show ObjOk X.prog X.w H s.heap v (ViewO v p) from I.hok v _ hv)
 have el:=kv.length
 refine PySem.W.kdl_call (PySem.W.kdl_values (knd:=a9 X.prog X.w) (kvs:=vs) (ep:=ep)) hh ⟨hview,hat⟩ (by rw [← el];exact hz) fun h' tk acc c hk hD' hacc=>?_
 obtain ⟨e1,e2⟩:=hacc
 refine ⟨.ref s.heap.objs.size,_,I.laid (t':=tk) hk (Nat.le_refl _) (show ObjOk X.prog X.w _ h' _ (.lst (kvs.map (·.2))) from ⟨by rw [List.length_map];exact hz,acc.toList,c,vals_idx (by rw [List.length_map,el,← e1];simp) fun j x w a b=>?_,by simpa using hD'⟩),rfl,q _ (I.hok.fresh (Nat.le_refl _))⟩
 rw [List.getElem?_map] at a
 cases e:kvs[j]? with
 | none=>rw [e] at a;cases a
 | some z=>
  rw [e] at a
  cases a
  obtain ⟨y,hy,ry⟩:=KV.get kv e
  obtain ⟨k,hk⟩:=e2 j w (by simpa using b)
  rw [hy] at hk
  cases hk
  exact ry
end
end L2
namespace L2
open PySem PySem.Spec PyProof.Rows
section
variable {X:Cx}
def rDClear:V→List V→Hp→VK→Prop:=fun x vs H Q=>∃ a kvs,x=.ref a∧vs=[]∧H a=some (.dK kvs)∧Q .non (upd H a (.dK []))
end
section
variable {l:Addr} {k:Nat} {g:TG} {tc:TT} {te:TE} {ρ:St} {R:Hp→Prop} {H₀:Hp}
theorem compG_items {a:Addr} {o:Obj} {kvs:List (Key × V)} (Pv:Nat→Hp→Prop) (h0:Pv 0 (upd H₀ l (.lst []))) (hl:∀ i H,Pv i H→H a=some (.frz o (.dK kvs)))
  (hs:∀ i kv t H,kvs[i]?=some kv→H t=none→Pv i H→∀ zs:St,zs.length=k→g (.ref t) (zs ++ ρ) (upd H t (.tup [kV kv.1,kv.2])) fun σ2 H2=>(∃ zs':St,zs'.length=k∧σ2=zs' ++ ρ)∧tc σ2 H2 fun b H3=>if b=true then te σ2 H3 fun y H4=>∃ ys,H4 l=some (.lst ys)∧ys.length<sizeLine∧fR kvs.length Pv i (upd H4 l (.lst (ys++[y]))) else fR kvs.length Pv i H3)
  (hd:∀ H,Pv kvs.length H→R H) :
  ∃ W:Nat→Nat→Hp→Prop,(∃ m,W 0 m (upd H₀ l (.lst [])))∧∀ i m H,W i m H→
   ((Iti a o kvs).stop i H∧R H)∨((Iti a o kvs).go i H∧∀ x H',(Iti a o kvs).yld i H x H'→∀ zs:St,zs.length=k→g x (zs ++ ρ) H' fun σ2 H2=>(∃ zs':St,zs'.length=k∧σ2=zs' ++ ρ)∧tc σ2 H2 fun b H3=>if b=true then te σ2 H3 fun y H4=>∃ ys,H4 l=some (.lst ys)∧ys.length<sizeLine∧∃ m',m'<m∧W (i+1) m' (upd H4 l (.lst (ys++[y]))) else ∃ m',m'<m∧W (i+1) m' H3):=
 hZ (n:=kvs.length) Pv h0 (fun i H hi p=>⟨hl i H p,hi⟩) (fun H p=>⟨hl _ H p,Nat.le_refl _⟩) (fun i x H H' hi y p=>by
  obtain ⟨kv,t,hkv,ht,ex,eh⟩:=y
  subst ex eh
  exact hs i kv t _ hkv ht p) hd
end
section
variable {X:Cx} {CX:CXT} {j:Nat} {E:XK} {m:Str} {pos apos:Pos} {e o:Expr} {es:List Expr} {ta:TE} {t:TA}
theorem pe_mtDK {pl:Sem Bool} {P:Program} {w:World} {K:PySem.W.Frag} {mg:Str→Option Value} {base:Heap} (hP:X.prog=P) (hw:X.w=w) (hK:X.K=K) (hmg:X.mg=mg) (hb:X.base=base) (he:PE X o ta) (hr:Room j X.A) (hx:cI CX X E) (ha:PA X (e::es) t)
  (hst:starEach (e::es) X.env=(false,eval e X.env)::starEach es X.env:=by rfl) (hpl:(backTo pos (starEach es X.env)).any (·.1)=false:=by rfl)
  (ht:eval (.Call (.Attribute o m apos) (e::es) [] pos) X.env=(do
   let ov ← eval o X.env
   standAt apos.atName
   let (f,first) ← holding [ov] (getMethod ov m pl)
   callWith pos f first (backTo pos (starEach (e::es) X.env)) (backToKw pos (keywordEach [] X.env))):=by rfl):PE X (.Call (.Attribute o m apos) (e::es) [] pos) (tMethD P w K mg base CX m j E ta t):=by
 subst hP hw hK hmg hb
 exact gw he hr hx ha hst hpl ht
theorem pg_tupK {K:PySem.W.Frag} {es:List Expr} {k:Nat} {t:TGs} {n:Nat} (hK:X.K=K) (hc:X.calm=true) (h:PGs X es t)
  (hn:(assignEach es X.env).length=n:=by rfl) (hst:(assignEach es X.env).findIdx? (·.1)=none:=by rfl):PG X (.Tuple es k pos) (gTup K n t):=by
 subst hK
 exact gv hc h hn hst
end
section
variable {X:Cx}
end
end L2
namespace L2
open PySem PySem.Spec PyProof.Rows
theorem eqV_str (x y:Str):eqV (.str x) (.str y)=decide (x=y):=by
 unfold eqV
 by_cases h:x=y
 ·subst h;simp
 ·simp [h]
theorem eU (ts:List Str):(ts.map V.str).all c5=true:=by
 rw [List.all_eq_true]
 intro v hv
 obtain ⟨t,_,rfl⟩:=List.mem_map.mp hv
 rfl
section
variable {X:Cx}
def rIndexT (K:PySem.W.Frag):V→List V→Hp→VK→Prop:=fun x vs H Q=>∃ (l:Addr) (ts:List Str) (y:Str),x=.ref l∧vs=[.str y]∧SqL K H l (ts.map V.str)∧y∈ts∧Q (.int (ts.idxOf y:Nat)) H
end
section
variable {prog:Program} {w:World} {A:Around}
variable {E:Value→Shared→Prop} {s:Shared}
def freshSet (led:Bool):Obj:={ cls:=.type "set",dict:=none,data:=.set #[] 0 (.fresh 0 0 led) }
end
section
variable {X:Cx}
def SetT (P:Program) (w:World) (p:Addr) (ts:List Str):HO:=.ext fun h=>h.SetOf (PySem.strKind P w) p (fun x=>decide (x∈ts)) ts.length
def rNeL (K:PySem.W.Frag):R2:=fun x y H Q=>∃ p q xs ys,x=.ref p∧y=.ref q∧SqL K H p xs∧SqL K H q ys∧xs.all c5=true∧ys.all c5=true∧Q (.bl (!eqVs xs ys)) H
theorem op_neL (hu:X.A.units<cLine):OpR X (compareOp .NotEq) (rNeL X.K):=by
 intro pins s σ H x y v u Q I rx ry h
 obtain ⟨p,q,xs,ys,rfl,rfl,hp,hq,fx,fy,k⟩:=h
 cases rx
 cases ry
 obtain ⟨us,r,pl,_⟩:=I.list hp
 obtain ⟨ws,r',pl',_⟩:=I.list hq
 have e1:=r.length
 have e2:=r'.length
 by_cases hl:xs.length=ys.length
 ·refine SeqAt.RcNeAt.lists (e:=hV xs ys) pl.isList pl'.isList (by simp;omega) hu (fun j h1 h2=>?_) X.prog X.w X.xe _ ⟨.bl _,H,I,rfl,?_⟩
  ·have j1:j<us.length:=by simpa using h1
   have j2:j<ws.length:=by simpa using h2
   have a1:xs[j]?=some (xs[j]'(by omega)):=List.getElem?_eq_getElem _
   have a2:ys[j]?=some (ys[j]'(by omega)):=List.getElem?_eq_getElem _
   have:hV xs ys j=eqV (xs[j]'(by omega)) (ys[j]'(by omega)):=by unfold hV;rw [a1,a2]
   rw [this,List.getElem_toArray,List.getElem_toArray]
   exact eqAt_V (vals_at r a1 (List.getElem?_eq_getElem j1)) (vals_at r' a2 (List.getElem?_eq_getElem j2)) (List.all_eq_true.mp fx _ (List.getElem_mem _)) (List.all_eq_true.mp fy _ (List.getElem_mem _))
  ·rw [List.size_toArray,← e1,eqVs_all hl]
   exact k
 ·refine SeqAt.RcNeAt.lists_lengths pl.isList pl'.isList (by simp;omega) hu X.prog X.w X.xe _ ⟨.bl _,H,I,rfl,?_⟩
  rw [eqVs_len hl] at k
  exact k
theorem eqVs_strs:∀ ts:List Str,eqVs (ts.map V.str) (ts.map V.str)=true
 | []=>rfl
 | t::ts=>by
  show (eqV (.str t) (.str t) && eqVs (ts.map V.str) (ts.map V.str))=true
  rw [eqVs_strs ts,eqV_str,decide_eq_true rfl]
  rfl
end
end L2
namespace L2
open PySem PySem.Spec PyProof.Rows
section
variable {X:Cx}
theorem tup_all {xs ys:List V} {us ws:List Value} (e1:xs.length=us.length) (e2:ys.length=ws.length):((List.range (min us.toArray.size ws.toArray.size)).all (hV xs ys) && us.toArray.size == ws.toArray.size)=eqVs xs ys:=by
 rw [List.size_toArray,List.size_toArray,← e1,← e2]
 by_cases hl:xs.length=ys.length
 ·rw [← hl,Nat.min_self,eqVs_all hl]
  simp
 ·rw [eqVs_len hl]
  simp [hl]
theorem tup_eqs {pins:List (Addr × Obj)} {σ:St} {H:Hp} {s:Shared} {xs ys:List V} {us ws:List Value} (I:Inv X pins σ H s) (r:Vals xs us) (r':Vals ys ws) (fx:xs.all c5=true) (fy:ys.all c5=true) {A:Around}:∀ j (h1:j<us.toArray.size) (h2:j<ws.toArray.size),SeqAt.EqAt A s us.toArray[j] ws.toArray[j] (hV xs ys j):=fun j h1 h2=>by
 have e1:=r.length
 have e2:=r'.length
 have j1:j<us.length:=by simpa using h1
 have j2:j<ws.length:=by simpa using h2
 have a1:xs[j]?=some (xs[j]'(by omega)):=List.getElem?_eq_getElem _
 have a2:ys[j]?=some (ys[j]'(by omega)):=List.getElem?_eq_getElem _
 have:hV xs ys j=eqV (xs[j]'(by omega)) (ys[j]'(by omega)):=by unfold hV;rw [a1,a2]
 rw [this,List.getElem_toArray,List.getElem_toArray]
 exact eqAt_V (vals_at r a1 (List.getElem?_eq_getElem j1)) (vals_at r' a2 (List.getElem?_eq_getElem j2)) (List.all_eq_true.mp fx _ (List.getElem_mem _)) (List.all_eq_true.mp fy _ (List.getElem_mem _))
def rEqT (K:PySem.W.Frag):R2:=fun x y H Q=>∃ p q xs ys,x=.ref p∧y=.ref q∧SqT K H p xs∧SqT K H q ys∧xs.all c5=true∧ys.all c5=true∧Q (.bl (eqVs xs ys)) H
def rNeT (K:PySem.W.Frag):R2:=fun x y H Q=>∃ p q xs ys,x=.ref p∧y=.ref q∧SqT K H p xs∧SqT K H q ys∧xs.all c5=true∧ys.all c5=true∧Q (.bl (!eqVs xs ys)) H
theorem op_neT (hu:X.A.units<cLine):OpR X (compareOp .NotEq) (rNeT X.K):=by
 intro pins s σ H x y v u Q I rx ry h
 obtain ⟨p,q,xs,ys,rfl,rfl,hp,hq,fx,fy,k⟩:=h
 cases rx
 cases ry
 obtain ⟨us,r,pl,_⟩:=I.tuple hp
 obtain ⟨ws,r',pl',_⟩:=I.tuple hq
 refine SeqAt.RcNeAt.tuples (e:=hV xs ys) pl pl' hu (tup_eqs I r r' fx fy) X.prog X.w X.xe _ ⟨.bl _,H,I,rfl,?_⟩
 rw [tup_all r.length r'.length]
 exact k
end
end L2
namespace L2
open PySem PySem.Spec PyProof.Rows
structure RoomH (k:Nat) (A:Around):Prop where
 dp:A.depth+3*k+5<recursionLimit
 un:A.units+16*k+200<cLine
structure FnOkH (P:Program) (w:World) (K:PySem.W.Frag) (mg:Str→Option Value) (base:Heap) (CX:CXT) (k:Nat) (f:Addr) (fd:FuncData) (ps:List Str) (sp:Sp):Prop where
 len:∀ vs H Q E,sp vs H Q E→vs.length=ps.length
 run:∀ (A:Around) (outer:List Env) (s:Shared) (H:Hp) (args:Args) (us:List Value) (vs:List V) (Q:VK) (E:XK),RoomH k A→Env0 P w K mg base A outer s H→BindsTo s fd args (ps.zip us)→Vals vs us→sp vs H Q E→
  codeAny (model P w) A (.call (.ref f) args) (CR CX outer P w H s Q E) s
abbrev Cx.rough (X:Cx):Cx:={ X with calm:=false }
section
variable {P:Program} {w:World} {K:PySem.W.Frag} {mg:Str→Option Value} {base:Heap}
def FnBH (P:Program) (w:World) (K:PySem.W.Frag) (mg:Str→Option Value) (base:Heap) (CX:CXT) (x:Str) (k:Nat) (ps:List Str) (sp:Sp):Prop:=
 ∃ f fd,mg x=some (.ref f)∧PySem.W.keepIn K (.ref f)=true∧Binds K fd ps []∧FnOkH P w K mg base CX k f fd ps sp
end
section
variable {X:Cx} {CX:CXT} {k j:Nat} {f:Addr} {fd:FuncData} {ps:List Str} {sp:Sp} {dvs:List V} {ds:List Value} {E:XK} {x:Str} {p pos:Pos} {e:Expr} {es:List Expr} {t:TA}
end
end L2
namespace L2
open PySem PySem.Spec PyProof.Rows
section
variable {X:Cx}
end
end L2
namespace L2
open PySem PySem.Spec PyProof.Rows
section
variable {X:Cx}
def tFree (t:TS):TS:=fun D σ H=>∃ a o u,H a=some (.frz o u)∧(∀ o' u',X.H₀ a≠some (.frz o' u'))∧t D σ (upd H a u)
def tFree? (t:TS):TS:=fun D σ H=>t D σ H∨tFree (X:=X) t D σ H
end
end L2
namespace L2
open PySem PySem.Spec PyProof.Rows
section
variable {X:Cx}
theorem op_inK {K:PySem.W.Frag} (hK:X.K=K):OpR X (compareOp .In) (rIn K false):=by
 subst hK
 exact op_in_seq
theorem op_notInK {K:PySem.W.Frag} (hK:X.K=K):OpR X (compareOp .NotIn) (rIn K true):=by
 subst hK
 exact g5
variable {j:Nat} {m:Str} {pos apos:Pos} {e o:Expr} {es:List Expr} {ta:TE} {t:TA}
end
end L2
namespace G
def gcd (a b:Int):Int:=(Int.gcd a b:Int)
theorem gcd_nonneg (a b:Int):0≤gcd a b:=Int.natCast_nonneg _
theorem gcd_zero (a:Int) (h:0≤a):gcd a 0=a:=by
 unfold gcd;rw [Int.gcd_zero_right];omega
theorem gcd_abs (a b:Int):gcd (if a<0 then -a else a) (if b<0 then -b else b)=gcd a b:=by
 unfold gcd;congr 1
 split <;> split <;> simp [Int.neg_gcd,Int.gcd_neg]
theorem gcd_step (a b:Int) (hb:0<b):gcd b (a % b)=gcd a b:=by
 unfold gcd;congr 1
 rw [Int.gcd_comm b]
 have e:a=a % b+(a / b)*b:=by have:=Int.emod_add_mul_ediv a b;rw [Int.mul_comm] at this;omega
 have h:=Int.gcd_add_mul_right_left b (a % b) (a / b)
 rw [← e] at h
 exact h.symm
theorem eV (a b:Nat):(a:Int).fdiv (b:Int)=((a / b:Nat):Int):=by
 rw [Int.fdiv_eq_ediv_of_nonneg _ (Int.natCast_nonneg _)];rfl
theorem fk (x:Rat):(0:Int)<(x.den:Int):=by have:=x.den_nz;omega
theorem gcd_den (x:Rat):gcd x.num x.den=1:=by
 have h:=x.reduced
 have e:Int.gcd x.num x.den=1:=h
 unfold gcd;rw [e];rfl
theorem init_spec (a b:Int) (hb:b≠0):a.fdiv (if b<0 then -(gcd a b) else gcd a b)=(Rat.divInt a b).num∧b.fdiv (if b<0 then -(gcd a b) else gcd a b)=((Rat.divInt a b).den:Int):=by
 have gp:0<Int.gcd a b:=Int.gcd_pos_of_ne_zero_right a hb
 obtain ⟨k,hk⟩:=Int.gcd_dvd_left a b
 obtain ⟨m,hm⟩:=Int.gcd_dvd_right a b
 have gz:(Int.gcd a b:Int)≠0:=by omega
 rw [Rat.num_divInt,Rat.den_divInt,if_neg hb,Int.gcd_comm b a]
 unfold gcd
 generalize hgg:Int.gcd a b=g at *
 have e1:∀ z:Int,(g*z).fdiv g=z:=fun z=>by rw [Int.mul_comm,Int.mul_fdiv_cancel _ gz]
 have e2:∀ z:Int,(g*z).fdiv (-(g:Int)) = -z:=fun z=>by
  have:(g:Int)*z=(-z)*(-(g:Int)):=by rw [Int.neg_mul_neg,Int.mul_comm]
  rw [this,Int.mul_fdiv_cancel _ (by omega)]
 by_cases hs:b<0
 ·rw [if_pos hs,Int.sign_eq_neg_one_of_neg hs]
  constructor
  ·conv=>lhs;rw [hk,e2]
   have:-1*a = -k*g:=by rw [hk,Int.mul_comm (g:Int) k,Int.neg_mul,Int.neg_mul,Int.one_mul]
   rw [this,Int.mul_ediv_cancel _ gz]
  ·conv=>lhs;rw [hm,e2]
   have mneg:m<0:=by
    rcases Int.lt_trichotomy m 0 with h | h | h
    ·exact h
    ·rw [h] at hm;omega
    ·have:=Int.mul_pos (show (0:Int)<g by omega) h;omega
   have:b.natAbs=m.natAbs*g:=by rw [hm,Int.natAbs_mul,Int.natAbs_natCast,Nat.mul_comm]
   rw [this,Nat.mul_div_cancel _ gp];omega
 ·rw [if_neg hs,Int.sign_eq_one_of_pos (by omega)]
  constructor
  ·conv=>lhs;rw [hk,e1]
   have:1*a=k*g:=by rw [hk,Int.mul_comm (g:Int) k,Int.one_mul]
   rw [this,Int.mul_ediv_cancel _ gz]
  ·conv=>lhs;rw [hm,e1]
   have mpos:0<m:=by
    rcases Int.lt_trichotomy m 0 with h | h | h
    ·have:=Int.mul_neg_of_pos_of_neg (show (0:Int)<g by omega) h;omega
    ·rw [h] at hm;omega
    ·exact h
   have:b.natAbs=m.natAbs*g:=by rw [hm,Int.natAbs_mul,Int.natAbs_natCast,Nat.mul_comm]
   rw [this,Nat.mul_div_cancel _ gp];omega
theorem gH {a:Int} {g:Nat} (h:(g:Int)∣a):a.fdiv (g:Int)=a.tdiv g:=by
 rw [Int.fdiv_eq_ediv_of_nonneg _ (Int.natCast_nonneg _),Int.tdiv_eq_ediv_of_dvd h]
theorem add_spec (x y:Rat) :
  let g:=gcd x.den y.den
  let own:=(x.den:Int).fdiv g
  let top:=x.num*((y.den:Int).fdiv g)+y.num*own
  let left:=gcd top g
  top.fdiv left=(x+y).num∧own*((y.den:Int).fdiv left)=((x+y).den:Int):=by
 have hx:=x.den_nz
 have hy:=y.den_nz
 have eg:gcd x.den y.den=((x.den.gcd y.den:Nat):Int):=by unfold gcd;rw [Int.gcd_natCast_natCast]
 have gpos:0<x.den.gcd y.den:=Nat.gcd_pos_of_pos_left _ (by omega)
 intro g own top left
 have hown:own=((x.den / x.den.gcd y.den:Nat):Int):=by show (x.den:Int).fdiv (gcd x.den y.den)=_;rw [eg,eV]
 have htop:top=x.num*((y.den / x.den.gcd y.den:Nat):Int)+y.num*((x.den / x.den.gcd y.den:Nat):Int):=by
  show x.num*((y.den:Int).fdiv (gcd x.den y.den))+y.num*own=_
  rw [hown,eg,eV]
 have hleft:left=((top.natAbs.gcd (x.den.gcd y.den):Nat):Int):=by
  show ((Int.gcd top (gcd x.den y.den):Nat):Int)=_
  rw [eg];rfl
 have e1:x+y=Rat.add x y:=rfl
 rw [e1];delta Rat.add;dsimp only
 rw [hleft,hown]
 split
 ·rename_i h1
  rw [htop]
  simp only [h1,Nat.div_one,Nat.gcd_one_right,eV]
  simp
 ·rename_i h1
  rw [Rat.maybeNormalize_eq]
  dsimp only
  simp only [Int.divExact_eq_tdiv]
  rw [← htop]
  have d1:((top.natAbs.gcd (x.den.gcd y.den):Nat):Int)∣top:=Int.ofNat_dvd_left.2 (Nat.gcd_dvd_left _ _)
  have d2:(top.natAbs.gcd (x.den.gcd y.den):Nat)∣y.den:=Nat.dvd_trans (Nat.gcd_dvd_right _ _) (Nat.gcd_dvd_right _ _)
  refine ⟨?_,?_⟩
  ·rw [gH d1]
  ·rw [eV,← Int.natCast_mul,Nat.mul_div_assoc _ d2]
theorem mul_spec (x y:Rat) :
  let first:=gcd x.num y.den
  let second:=gcd y.num x.den
  x.num.fdiv first*y.num.fdiv second=(x*y).num∧(x.den:Int).fdiv second*(y.den:Int).fdiv first=((x*y).den:Int):=by
 intro first second
 have e1:x*y=Rat.mul x y:=rfl
 rw [e1];delta Rat.mul;dsimp only
 have h1:first=((x.num.natAbs.gcd y.den:Nat):Int):=rfl
 have h2:second=((y.num.natAbs.gcd x.den:Nat):Int):=rfl
 rw [h1,h2]
 simp only [Int.divExact_eq_tdiv,Nat.divExact_eq_div]
 rw [gH (Int.ofNat_dvd_left.2 (Nat.gcd_dvd_left _ _)),gH (Int.ofNat_dvd_left.2 (Nat.gcd_dvd_left _ _)),eV,eV]
 exact ⟨rfl,by rw [Int.natCast_mul]⟩
end G
namespace G
def Bd (n:Nat) (x:Rat):Prop:=x.num.natAbs≤2 ^ n∧x.den≤2 ^ n
theorem aV {m n:Nat} (h:m≤n):2 ^ m≤2 ^ n:=Nat.pow_le_pow_right (by decide) h
theorem natAbs_ediv_le (a:Int) (d:Nat):(a / (d:Int)).natAbs≤a.natAbs:=by
 rcases Nat.eq_zero_or_pos d with h | h
 ·subst h;simp
 ·have hd:(0:Int)<d:=by omega
  rcases Int.le_total 0 a with ha | ha
  ·have h1:=Int.ediv_nonneg ha (Int.le_of_lt hd)
   have h2:=Int.ediv_le_self (d:Int) ha
   omega
  ·have h1:a / (d:Int)≤0:=Int.ediv_nonpos_of_nonpos_of_neg ha hd
   have h2:a≤a / (d:Int):=by
    rw [Int.le_ediv_iff_mul_le hd]
    have h3:0≤(-a)*((d:Int)-1):=Int.mul_nonneg (by omega) (by omega)
    rw [Int.neg_mul,Int.mul_sub,Int.mul_one] at h3
    omega
   omega
theorem Bd.divInt {n:Nat} {a b:Int} (ha:a.natAbs≤2 ^ n) (hb:b.natAbs≤2 ^ n):Bd n (Rat.divInt a b):=by
 constructor
 ·rw [Rat.num_divInt]
  refine Nat.le_trans (natAbs_ediv_le _ _) ?_
  rw [Int.natAbs_mul]
  have:b.sign.natAbs≤1:=by
   rcases Int.lt_trichotomy b 0 with h | h | h
   ·rw [Int.sign_eq_neg_one_of_neg h];decide
   ·rw [h];decide
   ·rw [Int.sign_eq_one_of_pos h];decide
  calc b.sign.natAbs*a.natAbs≤1*a.natAbs:=Nat.mul_le_mul_right _ this
   _≤2 ^ n:=by omega
 ·rw [Rat.den_divInt]
  split
  ·exact Nat.one_le_two_pow
  ·exact Nat.le_trans (Nat.div_le_self _ _) hb
theorem gD {a b m n:Nat} (ha:a≤2 ^ m) (hb:b≤2 ^ n):a*b≤2 ^ (m+n):=by
 rw [Nat.pow_add];exact Nat.mul_le_mul ha hb
end G
namespace G
theorem divInt_nn (n:Int) {d:Int} (h:0<d):0≤Rat.divInt n d↔0≤n:=Rat.divInt_nonneg_iff_of_pos_right h
theorem lt_div {a b c d:Int} (hb:0<b) (hd:0<d):Rat.divInt a b<Rat.divInt c d↔a*d<c*b:=by
 rw [← Rat.not_le,Rat.le_iff_sub_nonneg,Rat.divInt_sub_divInt _ _ (by omega) (by omega),divInt_nn _ (Int.mul_pos hb hd)]
 omega
end G
namespace G
open PySem
theorem str_ext {x y:Str} (h:x.cps.toList=y.cps.toList):x=y:=by
 cases x;cases y
 exact congrArg Str.mk (Array.toList_inj.mp h)
theorem fY (x y:Str):(x++y).cps.toList=x.cps.toList++y.cps.toList:=by
 show (x.cps++y.cps).toList=_
 exact Array.toList_append
theorem app_left {x y z:Str} (h:x++y=x++z):y=z:=by
 have:=congrArg (fun u:Str=>u.cps.toList) h
 simp only [fY] at this
 exact str_ext (List.append_cancel_left this)
theorem app_right {x y z:Str} (h:x++y=z++y):x=z:=by
 have:=congrArg (fun u:Str=>u.cps.toList) h
 simp only [fY] at this
 exact str_ext (List.append_cancel_right this)
theorem rep_cps (c n:Nat):((List.replicate n #[c]).foldl (· ++ ·) (#[]:Array Nat)).toList=List.replicate n c:=by
 have:∀ (n:Nat) (a:Array Nat),((List.replicate n #[c]).foldl (· ++ ·) a).toList=a.toList++List.replicate n c:=by
  intro n
  induction n with
  | zero=>intro a;simp
  | succ n ih=>
   intro a
   rw [List.replicate_succ,List.foldl_cons,ih]
   simp [List.replicate_succ]
 simpa using this n #[]
theorem dO (c:Nat) (n:Int):(Txt.mul ⟨#[c]⟩ n).cps.toList=List.replicate n.toNat c:=by
 unfold Txt.mul
 by_cases h1:n<1
 ·rw [if_pos h1,show n.toNat=0 by omega]
  rfl
 ·rw [if_neg h1]
  by_cases h2:n=1
  ·subst h2
   rfl
  ·rw [if_neg (by simp [h2,Str.length])]
   exact rep_cps c n.toNat
theorem len_cps (x:Str):x.length=x.cps.toList.length:=by show x.cps.size=_;rw [Array.length_toList]
def sgs:Str:="abcdefghijklmnopqrstuvwxyz0123456789."
def sgAt (i:Int):Nat:=sgs.cps.toList.getD i.toNat 0
def eK (k c:Int):Int:=(k*(1+c / 5 % 36)+c / 180) % 37
def aT (k c:Int):Str:=if c % 3=0 then Txt.mul ⟨#[sgAt (c / 3 % 37)]⟩ (eK k c+1) else Txt.mul "x" (c / 3 % 25)++⟨#[sgAt (eK k c)]⟩++Txt.mul "x" (c / 75 % 25)
theorem sgs_list:sgs.cps.toList=[97,98,99,100,101,102,103,104,105,106,107,108,109,110,111,112,113,114,115,116,117,118,119,120,121,122,48,49,50,51,52,53,54,55,56,57,46]:=by decide +kernel
theorem sgAt_some {i:Int} (h0:0≤i) (h1:i<37):L2.atI sgs.cps.toList i=some (sgAt i):=by
 obtain ⟨n,rfl⟩:=Int.eq_ofNat_of_zero_le h0
 have hn:n<37:=by omega
 refine L2.atI_nat ?_
 unfold sgAt
 rw [sgs_list,List.getD_eq_getElem?_getD,Int.toNat_natCast]
 rw [List.getElem?_eq_getElem (by simpa using hn)]
 rfl
theorem sgAt_inj:∀ i<37,∀ j<37,sgs.cps.toList.getD i 0=sgs.cps.toList.getD j 0→i=j:=by
 rw [sgs_list]
 decide +kernel
theorem gM (k c:Int):0≤eK k c∧eK k c<37:=⟨Int.emod_nonneg _ (by decide),Int.emod_lt_of_pos _ (by decide)⟩
theorem d7 (k c:Int):(aT k c).length≤60:=by
 obtain ⟨a1,a2⟩:=gM k c
 have h1:=Int.emod_nonneg (c / 3) (show (25:Int)≠0 by decide)
 have h2:=Int.emod_lt_of_pos (c / 3) (show (0:Int)<25 by decide)
 have h3:=Int.emod_nonneg (c / 75) (show (25:Int)≠0 by decide)
 have h4:=Int.emod_lt_of_pos (c / 75) (show (0:Int)<25 by decide)
 unfold aT
 rw [len_cps]
 split
 ·rw [dO,List.length_replicate]
  omega
 ·rw [fY,fY,show ("x":Str)=⟨#[120]⟩ from by decide +kernel,dO,dO,List.length_append,List.length_append,List.length_replicate,List.length_replicate,show ((⟨#[sgAt (eK k c)]⟩:Str).cps.toList).length=1 from rfl]
  omega
end G
namespace G
def Cop (a b:Int):Prop:=∀ d:Int,d∣a→d∣b→d∣1
theorem Cop.one {a b:Int} (h:gcd a b=1):Cop a b:=fun d h1 h2=>by
 have:=Int.dvd_coe_gcd h1 h2
 rw [show ((Int.gcd a b:Nat):Int)=1 from h] at this
 exact this
theorem Cop.gcd {a b:Int} (h:Cop a b):Int.gcd a b=1:=by
 have h1:=Int.eq_one_of_dvd_one (Int.natCast_nonneg _) (h _ (Int.gcd_dvd_left a b) (Int.gcd_dvd_right a b))
 omega
theorem Cop.gauss {d m n:Int} (h:Cop d m) (hd:d∣m*n):d∣n:=by
 have e:=h.gcd
 rw [← Int.natAbs_dvd_natAbs] at hd ⊢
 rw [Int.natAbs_mul] at hd
 exact Nat.Coprime.dvd_of_dvd_mul_left e hd
theorem Cop.quot {B b c u v:Int} (hc:c=G.gcd B b) (c0:c≠0) (hB:B=c*u) (hb:b=c*v):Cop u v:=fun d h1 h2=>by
 have k:c*d∣c:=by
  have:=Int.dvd_coe_gcd (a:=B) (b:=b) (c:=c*d) (by rw [hB];exact Int.mul_dvd_mul_left c h1) (by rw [hb];exact Int.mul_dvd_mul_left c h2)
  rw [show ((Int.gcd B b:Nat):Int)=c from hc.symm] at this
  exact this
 obtain ⟨z,hz⟩:=k
 refine ⟨z,?_⟩
 have:c*(d*z)=c*1:=by rw [← Int.mul_assoc,← hz,Int.mul_one]
 exact (Int.eq_of_mul_eq_mul_left c0 this).symm
theorem den_ne' (x:Rat):(x.den:Int)≠0:=by have:=x.den_nz;omega
structure TInv (x:Rat) (T B s:Int):Prop where
 pB:0<B
 ps:0<s
 r:∃ r,B=s*r∧Cop T r
 v:Rat.divInt T B=x
theorem TInv.zero:TInv 0 0 1 1:=⟨by decide,by decide,⟨1,by decide,fun d _ h=>h⟩,by rw [Rat.zero_divInt]⟩
theorem fdiv_mul {c k:Int} (h:c≠0):(c*k).fdiv c=k:=by rw [Int.mul_comm,Int.mul_fdiv_cancel _ h]
theorem TInv.step {x y:Rat} {T B s:Int} (I:TInv x T B s) :
  TInv (x+y) (T*(y.den:Int).fdiv (gcd B y.den)+y.num*B.fdiv (gcd B y.den)) (B*(y.den:Int).fdiv (gcd B y.den)) (s*(gcd B y.den).fdiv (gcd s (gcd B y.den))):=by
 obtain ⟨pB,ps,⟨r,hr,cr⟩,hv⟩:=I
 have yp:=fk y
 have cp:0<gcd B y.den:=by
  have:=Int.gcd_pos_of_ne_zero_left (y.den:Int) (show B≠0 by omega)
  unfold gcd;omega
 generalize hc':gcd B y.den=c at cp ⊢
 have hc:=hc'.symm
 have dB:c∣B:=by rw [hc];exact Int.gcd_dvd_left _ _
 have db:c∣(y.den:Int):=by rw [hc];exact Int.gcd_dvd_right _ _
 obtain ⟨u,hu⟩:=dB
 obtain ⟨v,hv'⟩:=db
 have c0:c≠0:=by omega
 have cuv:Cop u v:=Cop.quot hc c0 hu hv'
 have ey:(y.den:Int).fdiv c=v:=by rw [hv',fdiv_mul c0]
 have eB:B.fdiv c=u:=by rw [hu,fdiv_mul c0]
 have up:0<u:=Int.pos_of_mul_pos_left (by rw [Int.mul_comm,← hu];exact pB) cp
 have vp:0<v:=Int.pos_of_mul_pos_left (by rw [Int.mul_comm,← hv'];exact yp) cp
 rw [ey,eB]
 have gp:0<gcd s c:=by
  have:=Int.gcd_pos_of_ne_zero_left c (show s≠0 by omega)
  unfold gcd;omega
 generalize hg':gcd s c=g at gp ⊢
 have hg:=hg'.symm
 have d1:g∣s:=by rw [hg];exact Int.gcd_dvd_left _ _
 have d2:g∣c:=by rw [hg];exact Int.gcd_dvd_right _ _
 obtain ⟨s1,hs1⟩:=d1
 obtain ⟨c1,hc1⟩:=d2
 have g0:g≠0:=by omega
 have cs:Cop s1 c1:=Cop.quot hg g0 hs1 hc1
 have ec:c.fdiv g=c1:=by rw [hc1,fdiv_mul g0]
 rw [ec]
 have c1p:0<c1:=Int.pos_of_mul_pos_left (by rw [Int.mul_comm,← hc1];exact cp) gp
 have s1p:0<s1:=Int.pos_of_mul_pos_left (by rw [Int.mul_comm,← hs1];exact ps) gp
 have e1:c1*u=s1*r:=by
  apply Int.eq_of_mul_eq_mul_left g0
  rw [← Int.mul_assoc,← Int.mul_assoc,← hc1,← hs1,← hu,hr]
 have k1:c1∣r:=Cop.gauss (d:=c1) (m:=s1) (fun d a b=>cs d b a) ⟨u,e1.symm⟩
 obtain ⟨r1,hr1⟩:=k1
 have e2:u=s1*r1:=by
  apply Int.eq_of_mul_eq_mul_left (show c1≠0 by omega)
  rw [e1,hr1,← Int.mul_assoc,← Int.mul_assoc,Int.mul_comm s1 c1]
 refine ⟨Int.mul_pos pB vp,Int.mul_pos ps c1p,⟨r1*v,?_,?_⟩,?_⟩
 ·rw [hr,hr1]
  simp only [Int.mul_assoc]
 ·intro d h1 h2
  have cdv:Cop d v:=fun e he hev=>by
   have z1:e∣y.num*u:=by
    have:=Int.dvd_sub (Int.dvd_trans he h1) (Int.dvd_trans hev (Int.dvd_mul_left T v))
    rw [Int.add_comm,Int.add_sub_cancel] at this
    exact this
   rw [Int.mul_comm] at z1
   have z2:e∣y.num:=Cop.gauss (fun f h3 h4=>cuv f h4 (Int.dvd_trans h3 hev)) z1
   exact Cop.one (gcd_den y) e z2 (by rw [hv'];exact Int.dvd_trans hev (Int.dvd_mul_left c v))
  have z3:d∣r1:=Cop.gauss cdv (by rw [Int.mul_comm];exact h2)
  have z4:d∣u:=by rw [e2];exact Int.dvd_trans z3 (Int.dvd_mul_left s1 r1)
  have z5:d∣v*T:=by
   have:=Int.dvd_sub h1 (Int.dvd_trans z4 (Int.dvd_mul_left y.num u))
   rw [Int.add_sub_cancel,Int.mul_comm] at this
   exact this
  exact cr d (Cop.gauss cdv z5) (by rw [hr1];exact Int.dvd_trans z3 (Int.dvd_mul_left c1 r1))
 ·rw [← hv]
  conv=>rhs;rw [← Rat.num_divInt_den y]
  rw [Rat.divInt_add_divInt _ _ (show B≠0 by omega) (den_ne' y),Rat.divInt_eq_divInt_iff (show B*v≠0 by have:=Int.mul_pos pB vp;omega) (Int.mul_ne_zero (by omega) (den_ne' y)),hv',hu]
  grind
theorem TInv.fin {x:Rat} {T B s:Int} (I:TInv x T B s):T.fdiv (gcd T s)=x.num∧B.fdiv (gcd T s)=(x.den:Int):=by
 obtain ⟨pB,ps,⟨r,hr,cr⟩,hv⟩:=I
 have e:gcd T s=gcd T B:=by
  refine Int.dvd_antisymm (gcd_nonneg _ _) (gcd_nonneg _ _) (Int.dvd_coe_gcd (Int.gcd_dvd_left _ _) (Int.dvd_trans (Int.gcd_dvd_right _ _) ⟨r,hr⟩)) (Int.dvd_coe_gcd (Int.gcd_dvd_left _ _) ?_)
  refine Cop.gauss (m:=r) (fun d h1 h2=>cr d (Int.dvd_trans h1 (Int.gcd_dvd_left _ _)) h2) ?_
  rw [Int.mul_comm,← hr]
  exact Int.gcd_dvd_right _ _
 obtain ⟨i1,i2⟩:=init_spec T B (by omega)
 rw [if_neg (by omega),hv] at i1 i2
 rw [e]
 exact ⟨i1,i2⟩
end G
namespace G
open PySem L2
theorem sum_snoc (xs:List Rat) (a:Rat):(xs++[a]).sum=xs.sum+a:=by
 induction xs with
 | nil=>simp;grind
 | cons x xs ih=>rw [List.cons_append,List.sum_cons,List.sum_cons,ih];grind
def addK (ks:List Str) (n:Str):List Str:=if n∈ks then ks else ks++[n]
def keysOf (ns:List Str):List Str:=ns.foldl addK []
theorem mem_addK {ks:List Str} {n m:Str}:m∈addK ks n↔m∈ks∨m=n:=by
 unfold addK
 split
 ·exact ⟨.inl,fun h=>h.elim id fun e=>by rw [e];assumption⟩
 ·simp
def upf {α:Type} (f:Str→α) (n:Str) (y:α):Str→α:=fun m=>if m=n then y else f m
theorem upf_same {α:Type} {f:Str→α} {n:Str} {y:α}:upf f n y n=y:=if_pos rfl
theorem upf_ne {α:Type} {f:Str→α} {n m:Str} {y:α} (h:m≠n):upf f n y m=f m:=if_neg h
structure Tab {α:Type} (R:Hp→V→α→Prop) (H:Hp) (kvs:List (Key × V)) (ks:List Str) (f:Str→α):Prop where
 keys:kvs.map (·.1)=ks.map (fun n=>(Sum.inr n:Key))
 vals:∀ n∈ks,∃ v,bP kvs (Sum.inr n:Key)=some v∧R H v (f n)
section
variable {α:Type} {R:Hp→V→α→Prop} {H H':Hp} {kvs:List (Key × V)} {ks:List Str} {f:Str→α} {n:Str} {v:V} {y:α}
theorem Tab.mono (t:Tab R H kvs ks f) (h:∀ v x,R H v x→R H' v x):Tab R H' kvs ks f:=⟨t.keys,fun n hn=>let ⟨v,e,r⟩:=t.vals n hn;⟨v,e,h _ _ r⟩⟩
theorem Tab.congr {g:Str→α} (t:Tab R H kvs ks f) (h:∀ n∈ks,f n=g n):Tab R H kvs ks g:=⟨t.keys,fun n hn=>let ⟨v,e,r⟩:=t.vals n hn;⟨v,e,by rw [← h n hn];exact r⟩⟩
theorem Tab.nil:Tab R H [] [] f:=⟨rfl,fun n h=>absurd h List.not_mem_nil⟩
theorem inr_in {n:Str} {ks:List Str}:(Sum.inr n:Key)∈ks.map (fun n=>(Sum.inr n:Key))↔n∈ks:=by
 constructor
 ·intro h
  obtain ⟨y,hy,e⟩:=List.mem_map.mp h
  rw [← Sum.inr.inj e]
  exact hy
 ·exact fun h=>List.mem_map.mpr ⟨n,h,rfl⟩
theorem Tab.none (t:Tab R H kvs ks f) (h:¬ n∈ks):bP kvs (Sum.inr n:Key)=none:=by
 cases e:bP kvs (Sum.inr n:Key) with
 | none=>rfl
 | some v=>
  have:=valV_in e
  rw [t.keys] at this
  exact absurd (inr_in.mp this) h
theorem Tab.len (t:Tab R H kvs ks f):kvs.length=ks.length:=by have:=congrArg List.length t.keys;rwa [List.length_map,List.length_map] at this
theorem Tab.put (t:Tab R H kvs ks f) (r:R H v y):Tab R H (cX kvs (Sum.inr n:Key) v) (addK ks n) (upf f n y):=by
 refine ⟨?_,fun m hm=>?_⟩
 ·by_cases hn:n∈ks
  ·obtain ⟨u,e,_⟩:=t.vals n hn
   unfold cX addK
   rw [dD,e,if_pos (show (some u).isSome=true from rfl),if_pos hn,← t.keys,List.map_map]
   refine List.map_congr_left fun kv _=>?_
   show (if kv.1=_ then _ else _:Key × V).1=kv.1
   split <;> rfl
  ·rw [putK_new _ (t.none hn)]
   unfold addK
   rw [if_neg hn,List.map_append,List.map_append,t.keys]
   rfl
 ·rw [valV_put]
  by_cases e:m=n
  ·subst e
   rw [if_pos rfl,upf_same]
   exact ⟨v,rfl,r⟩
  ·rw [if_neg fun z=>e (Sum.inr.inj z),upf_ne e]
   exact t.vals m ((mem_addK.mp hm).resolve_right e)
theorem val_idx {κ:Type} [DecidableEq κ]:∀ {kvs:List (κ × V)} {i:Nat} {kv:κ × V},(kvs.map (·.1)).Nodup→kvs[i]?=some kv→bP kvs kv.1=some kv.2
 | [],_,_,_,e=>by simp at e
 | p::r,0,kv,_,e=>by
  simp at e
  subst e
  exact bR rfl
 | p::r,i+1,kv,nd,e=>by
  have e:r[i]?=some kv:=by simpa using e
  obtain ⟨h1,h2⟩:=List.nodup_cons.mp (show (p.1::r.map (·.1)).Nodup from nd)
  rw [bS fun z=>h1 (by rw [z];exact List.mem_map.mpr ⟨kv,List.mem_of_getElem? e,rfl⟩)]
  exact val_idx h2 e
theorem Tab.at_ {i:Nat} {kv:Key × V} (t:Tab R H kvs ks f) (nd:ks.Nodup) (e:kvs[i]?=some kv):∃ n,ks[i]?=some n∧kv.1=Sum.inr n∧bP kvs (Sum.inr n:Key)=some kv.2∧R H kv.2 (f n):=by
 have hi:i<ks.length:=by rw [← t.len];exact (List.getElem?_eq_some_iff.mp e).1
 have e1:kv.1=Sum.inr ks[i]:=by
  have g:=congrArg (fun l=>l[i]?) t.keys
  simp only [List.getElem?_map,e,List.getElem?_eq_getElem hi,Option.map_some] at g
  exact Option.some.inj g
 have nd2:(kvs.map (·.1)).Nodup:=by
  rw [t.keys]
  exact nd.map _ (fun u v h e=>h (Sum.inr.inj e))
 have ev:=val_idx nd2 e
 rw [e1] at ev
 obtain ⟨v,e2,r⟩:=t.vals _ (List.getElem_mem hi)
 rw [ev] at e2
 cases e2
 exact ⟨ks[i],List.getElem?_eq_getElem hi,e1,ev,r⟩
end
theorem eL {ks:List Str} {i:Nat} {n:Str} (nd:ks.Nodup) (e:ks[i]?=some n):ks.take (i+1)=ks.take i++[n]∧¬ n∈ks.take i:=by
 have hi:=(List.getElem?_eq_some_iff.mp e).1
 refine ⟨by rw [List.take_add_one,e];rfl,fun m=>?_⟩
 obtain ⟨j,hj⟩:=List.mem_iff_getElem?.mp m
 have hj2:j<i:=by
  have:=(List.getElem?_eq_some_iff.mp hj).1
  rw [List.length_take] at this
  omega
 rw [List.getElem?_take,if_pos hj2] at hj
 have:=(List.getElem?_inj (by omega) nd).mp (hj.trans e.symm)
 omega
theorem ic {ks:List Str} {n:Str} (h:¬ n∈ks):addK ks n=ks++[n]:=if_neg h
def KeepD (H H':Hp):Prop:=∀ b ob,H b=some ob→(∀ kvs,ob≠.dK kvs)→(∀ o u,ob≠.frz o u)→H' b=some ob
theorem KeepD.of {H H':Hp} (s:Same H H'):KeepD H H':=fun b ob e _ _=>s b ob e
theorem KeepD.trans {H H' H'':Hp} (s:KeepD H H') (t:KeepD H' H''):KeepD H H'':=fun b ob e h1 h2=>t b ob (s b ob e h1 h2) h1 h2
theorem KeepD.put {H:Hp} {d:Addr} {kvs:List (Key × V)} {o:HO} (hd:H d=some (.dK kvs)):KeepD H (upd H d o):=fun b ob e h1 _=>by
 have:b≠d:=fun z=>by rw [z,hd] at e;exact h1 kvs (Option.some.inj e).symm
 rw [ak this]
 exact e
theorem KeepD.frz {H:Hp} {d:Addr} {ob:Obj} {u o:HO} (hd:H d=some (.frz ob u)):KeepD H (upd H d o):=fun b ob' e _ h2=>by
 have:b≠d:=fun z=>by rw [z,hd] at e;exact h2 _ _ (Option.some.inj e).symm
 rw [ak this]
 exact e
def occ (zs:List (Str × Rat)) (n:Str):List Rat:=(zs.filter (fun z=>decide (z.1=n))).map (·.2)
inductive BdS:List Rat→Nat→Prop
 | nil:BdS [] 0
 | snoc {xs:List Rat} {N m:Nat} {x:Rat}:BdS xs N→Bd m x→BdS (xs++[x]) (N+(m+1))
theorem BdS.fn {xs:List Rat} {N:Nat} (h:BdS xs N):∃ S:Nat→Nat,S 0=0∧(∀ i,i≤xs.length→S i≤N)∧∀ i y,xs[i]?=some y→∃ m,Bd m y∧S i+(m+1)≤S (i+1):=by
 induction h with
 | nil=>exact ⟨fun _=>0,rfl,fun _ _=>Nat.zero_le _,fun i y e=>by simp at e⟩
 | @snoc xs N m x _ b ih=>
  obtain ⟨S,h0,h1,h2⟩:=ih
  refine ⟨fun j=>if j≤xs.length then S j else N+(m+1),by simp [h0],fun i hi=>?_,fun i y e=>?_⟩
  ·show (if i≤xs.length then S i else N+(m+1))≤_
   split
   ·rename_i h
    have:=h1 i h
    omega
   ·exact Nat.le_refl _
  ·show ∃ m',Bd m' y∧(if i≤xs.length then S i else N+(m+1))+(m'+1)≤(if i+1≤xs.length then S (i+1) else N+(m+1))
   have hi:=(List.getElem?_eq_some_iff.mp e).1
   rw [List.length_append,List.length_cons,List.length_nil] at hi
   by_cases hl:i<xs.length
   ·rw [List.getElem?_append_left hl] at e
    obtain ⟨m',b',q⟩:=h2 i y e
    exact ⟨m',b',by rw [if_pos (by omega),if_pos (by omega)];exact q⟩
   ·have ei:i=xs.length:=by omega
    subst ei
    rw [List.getElem?_append_right (Nat.le_refl _),Nat.sub_self] at e
    have:x=y:=by simpa using e
    subst this
    refine ⟨m,b,?_⟩
    rw [if_pos (Nat.le_refl _),if_neg (by omega)]
    have:=h1 _ (Nat.le_refl _)
    omega
end G
namespace G
open PySem L2
def Sm (i:Int):Prop:=i.natAbs<2 ^ 9000
def SmR (x:Rat):Prop:=Sm x.num∧Sm (x.den:Int)
theorem Sm.le {a b:Int} (h:Sm b) (l:a.natAbs≤b.natAbs):Sm a:=Nat.lt_of_le_of_lt l h
theorem eF (a:Int) {b:Int} (hb:0<b) (ha:0≤a):(a.fdiv b).natAbs≤a.natAbs:=by
 rw [Int.fdiv_eq_ediv_of_nonneg a (Int.le_of_lt hb)]
 have h1:=Int.ediv_nonneg ha (Int.le_of_lt hb)
 have h2:=Int.ediv_le_self b ha
 omega
theorem fdiv_le' (a:Int) {b:Int} (hb:0<b) (hd:b∣a):(a.fdiv b).natAbs≤a.natAbs:=by
 obtain ⟨k,rfl⟩:=hd
 have e:(b*k).fdiv b=k:=by rw [Int.mul_comm,Int.mul_fdiv_cancel _ (by omega)]
 rw [e,Int.natAbs_mul]
 exact Nat.le_mul_of_pos_left _ (by omega)
theorem cU (a:Int) {b:Int} (h:b≠0):0<gcd a b:=by
 have:=Int.gcd_pos_of_ne_zero_right a h
 unfold gcd;omega
theorem gcd_le_r (a:Int) {b:Int} (h:b≠0):(gcd a b).natAbs≤b.natAbs:=by
 have:=Int.gcd_le_natAbs_right a h
 unfold gcd;omega
theorem gcd_dvd_l (a b:Int):gcd a b∣a:=Int.gcd_dvd_left a b
theorem Sm.gcd_r (a:Int) {b:Int} (h:b≠0) (s:Sm b):Sm (gcd a b):=s.le (gcd_le_r a h)
theorem gI (x:Rat):(x.den:Int)≠0:=by have:=x.den_nz;omega
theorem tb:¬ (("top":Str) = "bottom"):=by decide +kernel
def ff (t b:Int):List (Str × V):=[("top",.int t),("bottom",.int b)]
theorem ff_T (t b:Int):(ff t b).lookup ("top":Str)=some (.int t):=rfl
theorem ff_B (t b:Int):(ff t b).lookup ("bottom":Str)=some (.int b):=by
 have h:(("bottom":Str) == "top")=false:=by decide +kernel
 show List.lookup ("bottom":Str) [(("top":Str),V.int t),("bottom",V.int b)]=_
 rw [List.lookup_cons,h]
 rfl
theorem ff_no (t b:Int) {m:Str} (h1:(m == "top")=false) (h2:(m == "bottom")=false):(ff t b).lookup m=none:=by
 show List.lookup m [(("top":Str),V.int t),("bottom",V.int b)]=_
 rw [List.lookup_cons,h1,List.lookup_cons,h2]
 rfl
theorem ff_new (t b:Int):bQ "bottom" (.int b) (bQ "top" (.int t) [])=ff t b:=by
 show (if ("top":Str) = "bottom" then _ else (("top":Str),V.int t)::[(("bottom":Str),V.int b)])=ff t b
 rw [if_neg tb]
 rfl
theorem ff_put (a c t b:Int):bQ "bottom" (.int b) (bQ "top" (.int t) (ff a c))=ff t b:=by
 show bQ "bottom" (.int b) (if ("top":Str) = "top" then (("top":Str),V.int t)::[(("bottom":Str),V.int c)] else _)=ff t b
 rw [if_pos rfl]
 show (if ("top":Str) = "bottom" then _ else (("top":Str),V.int t)::(if ("bottom":Str) = "bottom" then (("bottom":Str),V.int b)::[] else _))=ff t b
 rw [if_neg tb,if_pos rfl]
 rfl
def FrAt (C:Addr) (H:Hp) (p:Addr) (x:Rat):Prop:=∃ dx,H p=some (.ins C dx (ff x.num x.den))
theorem FrAt.mono {C:Addr} {H H':Hp} {p:Addr} {x:Rat} (h:FrAt C H p x) (s:Same H H'):FrAt C H' p x:=let ⟨dx,e⟩:=h;⟨dx,s _ _ e⟩
theorem FrAt.up {C:Addr} {H H':Hp} {p:Addr} {x:Rat} (s:Same H H') (h:FrAt C H p x):FrAt C H' p x:=h.mono s
structure FrC (K:PySem.W.Frag) (C:Addr):Prop where
 cl:Cls K C
 nT:NoAttr K C "top"
 nB:NoAttr K C "bottom"
 c1:PySem.W.findIn K (.ref C) "__class__"=some (some (.builtin "object.__class__"))
 c2:PySem.W.specialIn K (.builtin "object.__class__") "__get__"=some (some (.builtin "getset_descriptor.__get__"))
 c3:PySem.W.takesIn K (.builtin "object.__class__")=some true
 c4:PySem.W.mroIn K C (.type "object")=some true
theorem FrAt.ty {K:PySem.W.Frag} {C:Addr} {H:Hp} {p:Addr} {x:Rat} (F:FrC K C) (h:FrAt C H p x):TyOf K H (.ref p) (.ref C):=let ⟨_,e⟩:=h;TyOf.ins e F.cl F.c1 F.c2 F.c3 F.c4
def tTop (C:Addr) (ta:TE):TE:=fun σ H Q=>ta σ H fun v H1=>∃ p x,v=.ref p∧FrAt C H1 p x∧Q (.int x.num) H1
def tBot (C:Addr) (ta:TE):TE:=fun σ H Q=>ta σ H fun v H1=>∃ p x,v=.ref p∧FrAt C H1 p x∧Q (.int x.den) H1
section
variable {X:Cx} {C:Addr} {e o:Expr} {ta:TE} {pos:Pos}
def Mono (t:TE):Prop:=∀ σ H Q Q',(∀ v H1,Q v H1→Q' v H1)→t σ H Q→t σ H Q'
theorem cH (F:FrC X.K C) (he:PE X e ta) (hb:attributeBase e "top" X.env (eval e X.env)=eval e X.env:=by rfl):PE X (.Attribute e "top" pos) (tTop C ta):=by
 intro pins s σ H Q I h
 refine attr_of hb (thn (he pins s σ H _ I h) fun u s1 ⟨v,H1,I1,r,p,x,e,⟨dx,hp⟩,q⟩=>?_)
 subst e
 obtain rfl:u=Value.ref p:=r
 exact gG I1 hp F.cl F.nT (ff_T _ _) fun u' s' I' r'=>⟨_,H1,I',r',q⟩
theorem ck (F:FrC X.K C) (he:PE X e ta) (hb:attributeBase e "bottom" X.env (eval e X.env)=eval e X.env:=by rfl):PE X (.Attribute e "bottom" pos) (tBot C ta):=by
 intro pins s σ H Q I h
 refine attr_of hb (thn (he pins s σ H _ I h) fun u s1 ⟨v,H1,I1,r,p,x,e,⟨dx,hp⟩,q⟩=>?_)
 subst e
 obtain rfl:u=Value.ref p:=r
 exact gG I1 hp F.cl F.nB (ff_B _ _) fun u' s' I' r'=>⟨_,H1,I',r',q⟩
def tFrM (C:Addr) (sp:Sp) (E:XK) (ta:TE) (t:TA):TE:=fun σ H Q=>ta σ H fun v H1=>∃ p x,v=.ref p∧FrAt C H1 p x∧t σ H1 fun vs H2=>sp (v::vs) H2 Q E
variable {CX:CXT} {k j:Nat} {ps:List Str} {sp:Sp} {E:XK} {m:Str} {p apos:Pos} {es:List Expr} {t:TA}
theorem eG {pl:Sem Bool} (F:FrC X.K C) (he:PE X o ta) (M:MtB X.prog X.w X.K X.mg X.base CX C m k ps sp) (hr:Room j X.A) (hx:cI CX X E) (ha:PA X (e::es) t) (hj:k≤j:=by decide) (h1:(m == "top")=false:=by decide +kernel) (h2:(m == "bottom")=false:=by decide +kernel)
  (hst:starEach (e::es) X.env=(false,eval e X.env)::starEach es X.env:=by rfl) (hpl:(backTo pos (starEach es X.env)).any (·.1)=false:=by rfl)
  (ht:eval (.Call (.Attribute o m apos) (e::es) [] pos) X.env=(do
   let ov ← eval o X.env
   standAt apos.atName
   let (f,first) ← holding [ov] (getMethod ov m pl)
   callWith pos f first (backTo pos (starEach (e::es) X.env)) (backToKw pos (keywordEach [] X.env))):=by rfl):PE X (.Call (.Attribute o m apos) (e::es) [] pos) (tFrM C sp E ta t):=by
 obtain ⟨f,fd,hm,b,d⟩:=M
 intro pins s σ H Q I h
 refine PySem.W.methodCall_KW (pl:=pl) (thn (he pins s σ H _ I h) fun u s1 ⟨v,H1,I1,rx,a,x,ex,⟨dx,ea⟩,q⟩=>?_) ht
 subst ex
 obtain rfl:u=Value.ref a:=rx
 refine fg I1 ea F.cl hm (ff_no _ _ h1 h2) ?_
 refine PySem.W.callWith_K (first:=[.ref a]) (h₀:=X.base) I.ok.mod.kin hm.kp (thn (ha pos pins s1 σ H1 _ I1 q) fun us s2 ⟨vs,H2,I2,r,q2⟩=>⟨I2.kIn,?_⟩) hst hpl
 exact run_fn (us:=.ref a::us) (vs:=.ref a::vs) (dvs:=[]) d (hr.mono hj) b .nil hx I2 (.cons rfl r) (by simpa using q2)
theorem pe_frm0 {pl:Sem Bool} (F:FrC X.K C) (he:PE X o ta) (M:MtB X.prog X.w X.K X.mg X.base CX C m k ps sp) (hr:Room j X.A) (hx:cI CX X E) (hj:k≤j:=by decide) (h1:(m == "top")=false:=by decide +kernel) (h2:(m == "bottom")=false:=by decide +kernel)
  (ht:eval (.Call (.Attribute o m apos) [] [] pos) X.env=(do
   let ov ← eval o X.env
   standAt apos.atName
   let (f,first) ← holding [ov] (getMethod ov m pl)
   callWith pos f first (backTo pos (starEach [] X.env)) (backToKw pos (keywordEach [] X.env))):=by rfl):PE X (.Call (.Attribute o m apos) [] [] pos) (tFrM C sp E ta tNil):=by
 obtain ⟨f,fd,hm,b,d⟩:=M
 intro pins s σ H Q I h
 refine PySem.W.methodCall_KW (pl:=pl) (thn (he pins s σ H _ I h) fun u s1 ⟨v,H1,I1,rx,a,x,ex,⟨dx,ea⟩,q⟩=>?_) ht
 subst ex
 obtain rfl:u=Value.ref a:=rx
 refine fg I1 ea F.cl hm (ff_no _ _ h1 h2) ?_
 exact PySem.W.callWith_K0 (first:=[.ref a]) I1.kIn hm.kp (run_fn (us:=[.ref a]) (vs:=[.ref a]) (dvs:=[]) d (hr.mono hj) b .nil hx I1 (.cons rfl .nil) q)
def spDiv:Sp:=fun vs H Q _=>∃ a b:Int,vs=[.int a,.int b]∧Q (.int (gcd a b)) H
def spInit (C:Addr):Sp:=fun vs H Q _=>∃ (p dx:Addr) (a b:Int),vs=[.ref p,.int a,.int b]∧H p=some (.ins C dx [])∧b≠0∧Sm b∧∀ H',H'=upd H p (.ins C dx (ff (Rat.divInt a b).num (Rat.divInt a b).den))→Q .non H'
def NewFr (C:Addr) (H:Hp) (Q:VK) (x:Rat):Prop:=∀ (r:Addr) (H':Hp),H r=none→Same H H'→FrAt C H' r x→Q (.ref r) H'
def spLow (C:Addr):Sp:=fun vs H Q _=>∃ t b:Int,vs=[.int t,.int b]∧∀ (r dx:Addr) (H':Hp),H r=none→Same H H'→H' r=some (.ins C dx (ff t b))→Q (.ref r) H'
def spR2 (C:Addr) (f:Rat→Rat→Rat) (pre:Rat→Rat→Prop):Sp:=fun vs H Q _=>∃ (p q:Addr) (x y:Rat),vs=[.ref p,.ref q]∧FrAt C H p x∧FrAt C H q y∧SmR x∧SmR y∧pre x y∧NewFr C H Q (f x y)
theorem mk_fr {H:Hp} {a b:Int} {Q:VK} {E:XK} {x dx:Addr} (nx:H x=none) (nd:H dx=none) (hb:b≠0) (hs:Sm b) (k:∀ H':Hp,Same H H'→FrAt C H' x (Rat.divInt a b)→Q .non H') :
  spInit C [.ref x,.int a,.int b] (upd (upd H dx (.own x)) x (.ins C dx [])) Q E:=by
 refine ⟨x,dx,a,b,rfl,ad,hb,hs,fun H' e=>?_⟩
 subst e
 refine k _ (fun c o e=>?_) ⟨dx,ad⟩
 rw [ak (aE e nx),ak (aE e nx),ak (aE e nd)]
 exact e
def tMkFr (C:Addr) (dvs:List V) (t:TA):TE:=fun σ H Q=>t σ H fun vs H1=>∃ a b:Int,vs++dvs=[.int a,.int b]∧b≠0∧Sm b∧NewFr C H1 Q (Rat.divInt a b)
theorem b7 {dvs:List V} {x:Str} (F:MkB X.prog X.w X.K X.mg X.base CX C k ["self","top","bottom"] dvs (spInit C)) (hr:Room j X.A) (hm:X.mg x=some (.ref C)) (hx:cI CX X E) (ha:PA X (e::es) t) (hj:k+1≤j:=by decide) (hg:Gl X x:=by rfl) (hdb:(x == ("__debug__":Str))=false:=by decide)
  (he:starEach (e::es) X.env=(false,eval e X.env)::starEach es X.env:=by rfl) (hpl:(backTo pos (starEach es X.env)).any (·.1)=false:=by rfl):PE X (.Call (.Name x p) (e::es) [] pos) (tMkFr C dvs t):=by
 obtain ⟨f,fd,ds,M,b,c,d⟩:=F
 intro pins s σ H Q I h
 refine wpAny_Call_Name_kw (dP I hg hm ?_ hdb)
 refine PySem.W.callWith_K (h₀:=X.base) I.ok.mod.kin M.kp (thn (ha pos pins s σ H _ I h) fun us s1 ⟨vs,H1,I1,r,a',b',ev,hb,hs,q⟩=>⟨I1.kIn,?_⟩) he hpl
 refine run_make M d (hr.mono hj) b c hx I1 r fun y dx n1 n2 _=>?_
 rw [ev]
 exact mk_fr n1 n2 hb hs fun H' s' f'=>⟨rfl,q y H' n1 s' f'⟩
def tIsFr (C:Addr) (ta:TE):TE:=fun σ H Q=>ta σ H fun v H1=>∃ p x,v=.ref p∧FrAt C H1 p x∧Q (.bl true) H1
end
end G
namespace G
open PySem L2
def aY (i:Nat):Stmt:=PySem.Challenge.pw_gainstream_k16_faults_and_checked_plans.main.body.getD i (.Pass ⟨0,0,0,0⟩)
abbrev dZ:Stmt:=aY 17
abbrev bj:Stmt:=aY 19
abbrev fU:Stmt:=aY 20
abbrev eR:Stmt:=aY 22
abbrev a8:Stmt:=aY 23
abbrev ba:Stmt:=aY 24
abbrev s_sums:Stmt:=aY 25
abbrev fT:Stmt:=aY 26
abbrev bU:Stmt:=aY 27
abbrev cc:Stmt:=aY 28
abbrev eQ:Stmt:=aY 29
abbrev eO:Stmt:=aY 30
abbrev d3:Stmt:=aY 31
abbrev bI:Stmt:=aY 40
abbrev cP:Stmt:=aY 41
abbrev bT:Stmt:=aY 42
abbrev cg:Stmt:=aY 45
abbrev dX:Stmt:=aY 46
abbrev cJ:Stmt:=aY 47
abbrev cf:Stmt:=aY 48
abbrev eP:Stmt:=aY 49
abbrev dh:Stmt:=aY 50
abbrev dc:Stmt:=aY 51
abbrev cL:Stmt:=aY 52
abbrev dj:Stmt:=aY 53
abbrev dW:Stmt:=aY 54
abbrev c9:Stmt:=aY 55
abbrev cK:Stmt:=aY 56
abbrev dU:Stmt:=aY 57
abbrev ce:Stmt:=aY 58
abbrev df:Stmt:=aY 59
abbrev cM:Stmt:=aY 60
abbrev di:Stmt:=aY 61
abbrev cO:Stmt:=aY 62
abbrev dg:Stmt:=aY 63
abbrev dY:Stmt:=aY 64
abbrev cz:Stmt:=aY 65
abbrev c8:Stmt:=aY 66
abbrev cN:Stmt:=aY 67
abbrev cy:Stmt:=aY 68
abbrev ge:Stmt:=aY 69
abbrev bL:Stmt:=aX (aY 18) 0
abbrev bK:Stmt:=aX (aY 18) 1
abbrev bB:Stmt:=aX (aY 18) 2
abbrev bA:Stmt:=aX (aY 18) 3
abbrev bz:Stmt:=aX (aY 18) 5
abbrev bJ:Stmt:=aX (aY 18) 7
abbrev cq:Stmt:=aX (aY 33) 0
abbrev s_Way_may_stay:Stmt:=aX (aY 33) 1
abbrev dk:Stmt:=aX (aY 33) 2
abbrev ci:Stmt:=aX (aY 33) 3
abbrev bE:Stmt:=aX (aY 34) 0
abbrev bW:Stmt:=aX (aY 34) 1
abbrev bC:Stmt:=aX (aY 35) 0
abbrev bg:Stmt:=aX (aY 35) 1
abbrev s_Store_init:Stmt:=aX (aY 36) 0
abbrev s_Store_may_stay:Stmt:=aX (aY 36) 1
abbrev dm:Stmt:=aX (aY 43) 0
abbrev cQ:Stmt:=aX (aY 43) 1
abbrev dl:Stmt:=aX (aY 43) 2
abbrev d4:Stmt:=aX (aY 43) 3
abbrev bV:Stmt:=aX (aY 43) 4
abbrev cj:Stmt:=aX (aY 43) 5
abbrev b6:Stmt:=aX (aY 10) 0
abbrev s_Broken_init:Stmt:=aX (aY 11) 0
abbrev s_Twice_init:Stmt:=aX (aY 12) 0
abbrev s_NoPlace_init:Stmt:=aX (aY 13) 0
abbrev bb:Stmt:=aX (aY 14) 0
abbrev bZ:Stmt:=aX (aY 15) 0
structure Ad where
 Fraction:Addr
 Way:Addr
 Growing:Addr
 Leaking:Addr
 Store:Addr
 Net:Addr
 GainError:Addr
 NoNumber:Addr
 TooMany:Addr
 NoRing:Addr
 NoStrand:Addr
 NoExchange:Addr
 NoText:Addr
 NoRow:Addr
 NoWay:Addr
 Broken:Addr
 Twice:Addr
 NoPlace:Addr
 OverBound:Addr
 Short:Addr
structure TX (K:PySem.W.Frag) (mg:Str→Option Value) (a:Ad):Prop where
 d_divisor:FDe K mg "divisor" dZ ["one","other"]
 d_in_lowest_terms:FDe K mg "in_lowest_terms" bj ["top","bottom"]
 d_total:FDe K mg "total" fU ["some"]
 d_amount:FDe K mg "amount" eR ["plan","name"]
 d_refuse_other_names:FDe K mg "refuse_other_names" a8 ["net","plan"]
 d_sums_of_own_ways:FDe K mg "sums_of_own_ways" ba ["net","plan"]
 d_sums:FDe K mg "sums" s_sums ["net","plan"]
 d_worth:FDe K mg "worth" fT ["net","plan"]
 d_bound_passed:FDe K mg "bound_passed" bU ["way","part"]
 d_other_names:FDe K mg "other_names" cc ["net","plan"]
 d_faults:FDe K mg "faults" eQ ["net","plan"]
 d_refuse:FDe K mg "refuse" eO ["net","plan","fault"]
 d_checked:FDe K mg "checked" d3 ["net","plan"]
 d_wants_by_name:FDe K mg "wants_by_name" bI ["places"]
 d_check_way:FDe K mg "check_way" cP ["way","ahead","wants"]
 d_ways_by_name:FDe K mg "ways_by_name" bT ["ways","wants"]
 d_law_cell_at:FDe K mg "_law_cell_at" cg ["_law_script","_law_k"]
 d_law_mix:FDe K mg "_law_mix" dX ["_law_script","_law_k"]
 d_law_whole:FDe K mg "_law_whole" cJ ["_law_found"]
 d_law_divisor:FDe K mg "_law_divisor" cf ["_law_one","_law_other"]
 d_law_is:FDe K mg "_law_is" eP ["_law_found","_law_top","_law_bottom"]
 d_law_name:FDe K mg "_law_name" dh ["_law_k","_law_cell"]
 d_law_plus:FDe K mg "_law_plus" dc ["_law_one","_law_other"]
 d_law_times:FDe K mg "_law_times" cL ["_law_one","_law_other"]
 d_law_high:FDe K mg "_law_high" dj ["_law_put","_law_mode","_law_cell"]
 d_law_row:FDe K mg "_law_row" dW ["_law_cell","_law_n","_law_mode","_law_far"]
 d_law_sums:FDe K mg "_law_sums" c9 ["_law_rows","_law_n"]
 d_law_wants:FDe K mg "_law_wants" cK ["_law_script","_law_n","_law_mode","_law_rows"]
 d_law_way:FDe K mg "_law_way" dU ["_law_row_here","_law_name_here","_law_names"]
 d_law_entries:FDe K mg "_law_entries" ce ["_law_rows","_law_ways","_law_strange","_law_cell"]
 d_law_plan:FDe K mg "_law_plan" df ["_law_entries_here"]
 d_law_stays:FDe K mg "_law_stays" cM ["_law_plan_here","_law_entries_here"]
 d_law_many:FDe K mg "_law_many" di ["_law_cell","_law_n"]
 d_law_kinds:FDe K mg "_law_kinds" cO ["_law_e"]
 d_law_over:FDe K mg "_law_over" dg ["_law_row_here"]
 d_law_due:FDe K mg "_law_due" dY ["_law_entries_here","_law_rows","_law_ways","_law_names","_law_wants_here"]
 d_law_faults:FDe K mg "_law_faults" cz ["_law_entries_here","_law_rows","_law_ways","_law_names","_law_wants_here"]
 d_law_told:FDe K mg "_law_told" c8 ["_law_found","_law_due_here"]
 d_law_meets:FDe K mg "_law_meets" cN ["_law_net","_law_plan_here","_law_due_here"]
 d_law_looked:FDe K mg "_law_looked" cy ["_law_net","_law_entries_here","_law_rows","_law_ways","_law_names","_law_wants_here"]
 d_law:FDe K mg "law" ge ["_law_script"]
 cl_Fraction:Cls K a.Fraction
 mg_Fraction:mg "Fraction"=some (.ref a.Fraction)
 na_Fraction_top:NoAttr K a.Fraction "top"
 na_Fraction_bottom:NoAttr K a.Fraction "bottom"
 i_Fraction:IDe K a.Fraction "Fraction.__init__" bL ["self","top","bottom"] [[],[V.int 1]]
 m_Fraction_plus:MDe K a.Fraction "plus" "Fraction.plus" bK ["self","other"]
 m_Fraction_minus:MDe K a.Fraction "minus" "Fraction.minus" bB ["self","other"]
 m_Fraction_times:MDe K a.Fraction "times" "Fraction.times" bA ["self","other"]
 m_Fraction_under:MDe K a.Fraction "under" "Fraction.under" bz ["self","other"]
 m_Fraction_sign:MDe K a.Fraction "sign" "Fraction.sign" bJ ["self"]
 c1_Fraction:PySem.W.findIn K (.ref a.Fraction) "__class__"=some (some (.builtin "object.__class__"))
 c4_Fraction:PySem.W.mroIn K a.Fraction (.type "object")=some true
 cl_Way:Cls K a.Way
 mg_Way:mg "Way"=some (.ref a.Way)
 na_Way_name:NoAttr K a.Way "name"
 na_Way_start:NoAttr K a.Way "start"
 na_Way_goal:NoAttr K a.Way "goal"
 na_Way_high:NoAttr K a.Way "high"
 na_Way_cost:NoAttr K a.Way "cost"
 i_Way:IDe K a.Way "Way.__init__" cq ["self","name","start","goal","high","cost"] [[],[V.non,V.non]]
 c_Way:CDe K a.Way "Way.__init__" cq ["self","name","start","goal","high","cost"]
 m_Way_gain:MDe K a.Way "gain" "Way.gain" dk ["self"]
 m_Way_out:MDe K a.Way "out" "Way.out" ci ["self","amount"]
 c1_Way:PySem.W.findIn K (.ref a.Way) "__class__"=some (some (.builtin "object.__class__"))
 c4_Way:PySem.W.mroIn K a.Way (.type "object")=some true
 cl_Growing:Cls K a.Growing
 mg_Growing:mg "Growing"=some (.ref a.Growing)
 na_Growing_rate:NoAttr K a.Growing "rate"
 na_Growing_name:NoAttr K a.Growing "name"
 na_Growing_start:NoAttr K a.Growing "start"
 na_Growing_goal:NoAttr K a.Growing "goal"
 na_Growing_high:NoAttr K a.Growing "high"
 na_Growing_cost:NoAttr K a.Growing "cost"
 i_Growing:IDe K a.Growing "Growing.__init__" bE ["self","name","start","goal","rate","high","cost"] [[],[V.non,V.non]]
 m_Growing_gain:MDe K a.Growing "gain" "Growing.gain" bW ["self"]
 m_Growing_out:MDe K a.Growing "out" "Way.out" ci ["self","amount"]
 c1_Growing:PySem.W.findIn K (.ref a.Growing) "__class__"=some (some (.builtin "object.__class__"))
 c4_Growing:PySem.W.mroIn K a.Growing (.type "object")=some true
 cl_Leaking:Cls K a.Leaking
 mg_Leaking:mg "Leaking"=some (.ref a.Leaking)
 na_Leaking_loss:NoAttr K a.Leaking "loss"
 na_Leaking_name:NoAttr K a.Leaking "name"
 na_Leaking_start:NoAttr K a.Leaking "start"
 na_Leaking_goal:NoAttr K a.Leaking "goal"
 na_Leaking_high:NoAttr K a.Leaking "high"
 na_Leaking_cost:NoAttr K a.Leaking "cost"
 i_Leaking:IDe K a.Leaking "Leaking.__init__" bC ["self","name","start","goal","loss","high","cost"] [[],[V.non,V.non]]
 m_Leaking_gain:MDe K a.Leaking "gain" "Leaking.gain" bg ["self"]
 m_Leaking_out:MDe K a.Leaking "out" "Way.out" ci ["self","amount"]
 c1_Leaking:PySem.W.findIn K (.ref a.Leaking) "__class__"=some (some (.builtin "object.__class__"))
 c4_Leaking:PySem.W.mroIn K a.Leaking (.type "object")=some true
 cl_Store:Cls K a.Store
 mg_Store:mg "Store"=some (.ref a.Store)
 na_Store_loss:NoAttr K a.Store "loss"
 na_Store_name:NoAttr K a.Store "name"
 na_Store_start:NoAttr K a.Store "start"
 na_Store_goal:NoAttr K a.Store "goal"
 na_Store_high:NoAttr K a.Store "high"
 na_Store_cost:NoAttr K a.Store "cost"
 m_Store_gain:MDe K a.Store "gain" "Leaking.gain" bg ["self"]
 m_Store_out:MDe K a.Store "out" "Way.out" ci ["self","amount"]
 c1_Store:PySem.W.findIn K (.ref a.Store) "__class__"=some (some (.builtin "object.__class__"))
 c4_Store:PySem.W.mroIn K a.Store (.type "object")=some true
 cl_Net:Cls K a.Net
 mg_Net:mg "Net"=some (.ref a.Net)
 na_Net_wants:NoAttr K a.Net "wants"
 na_Net_ways:NoAttr K a.Net "ways"
 i_Net:IDe K a.Net "Net.__init__" dm ["self","places","ways"] [[]]
 m_Net_names:MDe K a.Net "names" "Net.names" cQ ["self"]
 m_Net_want:MDe K a.Net "want" "Net.want" dl ["self","place"]
 m_Net_way:MDe K a.Net "way" "Net.way" d4 ["self","name"]
 m_Net_all_ways:MDe K a.Net "all_ways" "Net.all_ways" bV ["self"]
 m_Net_wanting:MDe K a.Net "wanting" "Net.wanting" cj ["self","wants"]
 no_Net_times:PySem.W.findIn K (.ref a.Net) "times"=some none
 no_Net_out:PySem.W.findIn K (.ref a.Net) "out"=some none
 c2:PySem.W.specialIn K (.builtin "object.__class__") "__get__"=some (some (.builtin "getset_descriptor.__get__"))
 c3:PySem.W.takesIn K (.builtin "object.__class__")=some true
 mg_GainError:mg "GainError"=some (.ref a.GainError)
 mg_NoNumber:mg "NoNumber"=some (.ref a.NoNumber)
 mg_TooMany:mg "TooMany"=some (.ref a.TooMany)
 mg_NoRing:mg "NoRing"=some (.ref a.NoRing)
 mg_NoStrand:mg "NoStrand"=some (.ref a.NoStrand)
 mg_NoExchange:mg "NoExchange"=some (.ref a.NoExchange)
 mg_NoText:mg "NoText"=some (.ref a.NoText)
 mg_NoRow:mg "NoRow"=some (.ref a.NoRow)
 mg_NoWay:mg "NoWay"=some (.ref a.NoWay)
 xi_NoWay:XiDe K a.NoWay "NoWay.__init__" b6 ["self","name"]
 xs_NoWay:ExI K a.NoWay
 na_NoWay_name:NoAttr K a.NoWay "name"
 hd_NoWay:PySem.W.hasDictIn K a.NoWay=true
 br_NoWay:ClsRd K a.GainError
 bf_NoWay:PySem.W.findCls K (.ref a.GainError) (.type "type") "__init__"=some (.val (.builtin "ValueError.__init__"))
 mg_Broken:mg "Broken"=some (.ref a.Broken)
 mg_Twice:mg "Twice"=some (.ref a.Twice)
 mg_NoPlace:mg "NoPlace"=some (.ref a.NoPlace)
 mg_OverBound:mg "OverBound"=some (.ref a.OverBound)
 xi_OverBound:XiDe K a.OverBound "OverBound.__init__" bb ["self","name","bound"]
 xs_OverBound:ExI K a.OverBound
 na_OverBound_bound:NoAttr K a.OverBound "bound"
 na_OverBound_name:NoAttr K a.OverBound "name"
 hd_OverBound:PySem.W.hasDictIn K a.OverBound=true
 br_OverBound:ClsRd K a.GainError
 bf_OverBound:PySem.W.findCls K (.ref a.GainError) (.type "type") "__init__"=some (.val (.builtin "ValueError.__init__"))
 mg_Short:mg "Short"=some (.ref a.Short)
 xi_Short:XiDe K a.Short "Short.__init__" bZ ["self","place","lacking"]
 xs_Short:ExI K a.Short
 na_Short_lacking:NoAttr K a.Short "lacking"
 na_Short_place:NoAttr K a.Short "place"
 hd_Short:PySem.W.hasDictIn K a.Short=true
 br_Short:ClsRd K a.GainError
 bf_Short:PySem.W.findCls K (.ref a.GainError) (.type "type") "__init__"=some (.val (.builtin "ValueError.__init__"))
 ca1_GainError:PySem.W.instIn K (.ref a.GainError) (.type "tuple")=some false
 ca2_GainError:∃ cd,PySem.W.clsIn K a.GainError=some cd
 ca3_GainError:PySem.W.subIn K (.ref a.GainError) (.type "BaseException")=some true
 su_NoWay_GainError:PySem.W.subIn K (.ref a.NoWay) (.ref a.GainError)=some true
 su_OverBound_GainError:PySem.W.subIn K (.ref a.OverBound) (.ref a.GainError)=some true
 su_Short_GainError:PySem.W.subIn K (.ref a.Short) (.ref a.GainError)=some true
 k_Fraction_Fraction:PySem.W.kitOne K (.ref a.Fraction) (.ref a.Fraction)=some true
 k_Way_Store:PySem.W.kitOne K (.ref a.Way) (.ref a.Store)=some false
 k_Growing_Store:PySem.W.kitOne K (.ref a.Growing) (.ref a.Store)=some false
 k_Leaking_Store:PySem.W.kitOne K (.ref a.Leaking) (.ref a.Store)=some false
 k_int_bool:PySem.W.kitOne K (.type "int") (.type "bool")=some false
 k_int_int:PySem.W.kitOne K (.type "int") (.type "int")=some true
 k_list_list:PySem.W.kitOne K (.type "list") (.type "list")=some true
 k_tuple_tuple:PySem.W.kitOne K (.type "tuple") (.type "tuple")=some true
 xga_NoWay:PySem.W.findIn K (.ref a.NoWay) "__getattribute__"=some (some (.builtin "BaseException.__getattribute__"))
 xgh_NoWay:PySem.W.findIn K (.ref a.NoWay) "__getattr__"=some none
 xbe_NoWay:PySem.W.mroIn K a.NoWay (.type "BaseException")=some true
 xca_NoWay:PySem.W.findIn K (.ref a.NoWay) "__class__"=some (some (.builtin "object.__class__"))
 xob_NoWay:PySem.W.mroIn K a.NoWay (.type "object")=some true
 xcl_NoWay:∃ cd,PySem.W.clsIn K a.NoWay=some cd
 k_NoWay_Broken:PySem.W.kitOne K (.ref a.NoWay) (.ref a.Broken)=some false
 k_NoWay_NoExchange:PySem.W.kitOne K (.ref a.NoWay) (.ref a.NoExchange)=some false
 k_NoWay_NoNumber:PySem.W.kitOne K (.ref a.NoWay) (.ref a.NoNumber)=some false
 k_NoWay_NoPlace:PySem.W.kitOne K (.ref a.NoWay) (.ref a.NoPlace)=some false
 k_NoWay_NoRing:PySem.W.kitOne K (.ref a.NoWay) (.ref a.NoRing)=some false
 k_NoWay_NoRow:PySem.W.kitOne K (.ref a.NoWay) (.ref a.NoRow)=some false
 k_NoWay_NoStrand:PySem.W.kitOne K (.ref a.NoWay) (.ref a.NoStrand)=some false
 k_NoWay_NoText:PySem.W.kitOne K (.ref a.NoWay) (.ref a.NoText)=some false
 k_NoWay_NoWay:PySem.W.kitOne K (.ref a.NoWay) (.ref a.NoWay)=some true
 k_NoWay_OverBound:PySem.W.kitOne K (.ref a.NoWay) (.ref a.OverBound)=some false
 k_NoWay_Short:PySem.W.kitOne K (.ref a.NoWay) (.ref a.Short)=some false
 k_NoWay_TooMany:PySem.W.kitOne K (.ref a.NoWay) (.ref a.TooMany)=some false
 k_NoWay_Twice:PySem.W.kitOne K (.ref a.NoWay) (.ref a.Twice)=some false
 k_NoWay_ValueError:PySem.W.kitOne K (.ref a.NoWay) (.type "ValueError")=some true
 xga_OverBound:PySem.W.findIn K (.ref a.OverBound) "__getattribute__"=some (some (.builtin "BaseException.__getattribute__"))
 xgh_OverBound:PySem.W.findIn K (.ref a.OverBound) "__getattr__"=some none
 xbe_OverBound:PySem.W.mroIn K a.OverBound (.type "BaseException")=some true
 xca_OverBound:PySem.W.findIn K (.ref a.OverBound) "__class__"=some (some (.builtin "object.__class__"))
 xob_OverBound:PySem.W.mroIn K a.OverBound (.type "object")=some true
 xcl_OverBound:∃ cd,PySem.W.clsIn K a.OverBound=some cd
 k_OverBound_Broken:PySem.W.kitOne K (.ref a.OverBound) (.ref a.Broken)=some false
 k_OverBound_NoExchange:PySem.W.kitOne K (.ref a.OverBound) (.ref a.NoExchange)=some false
 k_OverBound_NoNumber:PySem.W.kitOne K (.ref a.OverBound) (.ref a.NoNumber)=some false
 k_OverBound_NoPlace:PySem.W.kitOne K (.ref a.OverBound) (.ref a.NoPlace)=some false
 k_OverBound_NoRing:PySem.W.kitOne K (.ref a.OverBound) (.ref a.NoRing)=some false
 k_OverBound_NoRow:PySem.W.kitOne K (.ref a.OverBound) (.ref a.NoRow)=some false
 k_OverBound_NoStrand:PySem.W.kitOne K (.ref a.OverBound) (.ref a.NoStrand)=some false
 k_OverBound_NoText:PySem.W.kitOne K (.ref a.OverBound) (.ref a.NoText)=some false
 k_OverBound_NoWay:PySem.W.kitOne K (.ref a.OverBound) (.ref a.NoWay)=some false
 k_OverBound_OverBound:PySem.W.kitOne K (.ref a.OverBound) (.ref a.OverBound)=some true
 k_OverBound_Short:PySem.W.kitOne K (.ref a.OverBound) (.ref a.Short)=some false
 k_OverBound_TooMany:PySem.W.kitOne K (.ref a.OverBound) (.ref a.TooMany)=some false
 k_OverBound_Twice:PySem.W.kitOne K (.ref a.OverBound) (.ref a.Twice)=some false
 k_OverBound_ValueError:PySem.W.kitOne K (.ref a.OverBound) (.type "ValueError")=some true
 xga_Short:PySem.W.findIn K (.ref a.Short) "__getattribute__"=some (some (.builtin "BaseException.__getattribute__"))
 xgh_Short:PySem.W.findIn K (.ref a.Short) "__getattr__"=some none
 xbe_Short:PySem.W.mroIn K a.Short (.type "BaseException")=some true
 xca_Short:PySem.W.findIn K (.ref a.Short) "__class__"=some (some (.builtin "object.__class__"))
 xob_Short:PySem.W.mroIn K a.Short (.type "object")=some true
 xcl_Short:∃ cd,PySem.W.clsIn K a.Short=some cd
 k_Short_Broken:PySem.W.kitOne K (.ref a.Short) (.ref a.Broken)=some false
 k_Short_NoExchange:PySem.W.kitOne K (.ref a.Short) (.ref a.NoExchange)=some false
 k_Short_NoNumber:PySem.W.kitOne K (.ref a.Short) (.ref a.NoNumber)=some false
 k_Short_NoPlace:PySem.W.kitOne K (.ref a.Short) (.ref a.NoPlace)=some false
 k_Short_NoRing:PySem.W.kitOne K (.ref a.Short) (.ref a.NoRing)=some false
 k_Short_NoRow:PySem.W.kitOne K (.ref a.Short) (.ref a.NoRow)=some false
 k_Short_NoStrand:PySem.W.kitOne K (.ref a.Short) (.ref a.NoStrand)=some false
 k_Short_NoText:PySem.W.kitOne K (.ref a.Short) (.ref a.NoText)=some false
 k_Short_NoWay:PySem.W.kitOne K (.ref a.Short) (.ref a.NoWay)=some false
 k_Short_OverBound:PySem.W.kitOne K (.ref a.Short) (.ref a.OverBound)=some false
 k_Short_Short:PySem.W.kitOne K (.ref a.Short) (.ref a.Short)=some true
 k_Short_TooMany:PySem.W.kitOne K (.ref a.Short) (.ref a.TooMany)=some false
 k_Short_Twice:PySem.W.kitOne K (.ref a.Short) (.ref a.Twice)=some false
 k_Short_ValueError:PySem.W.kitOne K (.ref a.Short) (.type "ValueError")=some true
 gi_MOST_PLACES:∃ tk,mg "MOST_PLACES"=some (.int 12 tk)
 gi_MOST_WAYS:∃ tk,mg "MOST_WAYS"=some (.int 24 tk)
 z_ValueError:mg "ValueError"=none
 z_abs:mg "abs"=none
 z_bool:mg "bool"=none
 z_int:mg "int"=none
 z_isinstance:mg "isinstance"=none
 z_len:mg "len"=none
 z_list:mg "list"=none
 z_max:mg "max"=none
 z_range:mg "range"=none
 z_tuple:mg "tuple"=none
open PySem L2 in
local macro_rules | `(tactic| walk_at "sc") => `(tactic| exact ⟨rfl, rfl, rfl, by decide +kernel, rfl, by decide +kernel, by decide +kernel⟩)
section
variable {P:Program} {w:World} {K:PySem.W.Frag} {mg:Str→Option Value} {base:Heap} {a:Ad}
theorem TX.exa_NoWay (T:TX K mg a):ExA K a.NoWay:=⟨T.xga_NoWay,T.xgh_NoWay,T.xbe_NoWay,T.xca_NoWay,T.c2,T.c3,T.xob_NoWay,T.xcl_NoWay⟩
theorem TX.exa_OverBound (T:TX K mg a):ExA K a.OverBound:=⟨T.xga_OverBound,T.xgh_OverBound,T.xbe_OverBound,T.xca_OverBound,T.c2,T.c3,T.xob_OverBound,T.xcl_OverBound⟩
theorem TX.exa_Short (T:TX K mg a):ExA K a.Short:=⟨T.xga_Short,T.xgh_Short,T.xbe_Short,T.xca_Short,T.c2,T.c3,T.xob_Short,T.xcl_Short⟩
theorem sc_divisor:FnScope ["one","other","rest"] ["one","other"] (ag dZ):=by walk_at "sc"
theorem sc_in_lowest_terms:FnScope ["top","bottom","made"] ["top","bottom"] (ag bj):=by walk_at "sc"
theorem sc_total:FnScope ["some","top","bottom","shared","number","common","own","left"] ["some"] (ag fU):=by walk_at "sc"
theorem sc_amount:FnScope ["plan","name"] ["plan","name"] (ag eR):=by walk_at "sc"
theorem sc_refuse_other_names:FnScope ["net","plan","name"] ["net","plan"] (ag a8):=by walk_at "sc"
theorem sc_sums_of_own_ways:FnScope ["net","plan","result","place","way","part"] ["net","plan"] (ag ba):=by walk_at "sc"
theorem sc_sums:FnScope ["net","plan"] ["net","plan"] (ag s_sums):=by walk_at "sc"
theorem sc_worth:FnScope ["net","plan"] ["net","plan"] (ag fT):=by walk_at "sc"
theorem sc_bound_passed:FnScope ["way","part"] ["way","part"] (ag bU):=by walk_at "sc"
theorem sc_other_names:FnScope ["net","plan","own","way"] ["net","plan"] (ag cc):=by walk_at "sc"
theorem sc_faults:FnScope ["net","plan","found","way","come","place"] ["net","plan"] (ag eQ):=by walk_at "sc"
theorem sc_refuse:FnScope ["net","plan","fault","word","name"] ["net","plan","fault"] (ag eO):=by walk_at "sc"
theorem sc_checked:FnScope ["net","plan","found"] ["net","plan"] (ag d3):=by walk_at "sc"
theorem sc_wants_by_name:FnScope ["places","wants","name","want"] ["places"] (ag bI):=by walk_at "sc"
theorem sc_check_way:FnScope ["way","ahead","wants","place"] ["way","ahead","wants"] (ag cP):=by walk_at "sc"
theorem sc_ways_by_name:FnScope ["ways","wants","ahead","way"] ["ways","wants"] (ag bT):=by walk_at "sc"
theorem sc_law_cell_at:FnScope ["_law_script","_law_k"] ["_law_script","_law_k"] (ag cg):=by walk_at "sc"
theorem sc_law_mix:FnScope ["_law_script","_law_k"] ["_law_script","_law_k"] (ag dX):=by walk_at "sc"
theorem sc_law_whole:FnScope ["_law_found"] ["_law_found"] (ag cJ):=by walk_at "sc"
theorem sc_law_divisor:FnScope ["_law_one","_law_other","_law_rest"] ["_law_one","_law_other"] (ag cf):=by walk_at "sc"
theorem sc_law_is:FnScope ["_law_found","_law_top","_law_bottom"] ["_law_found","_law_top","_law_bottom"] (ag eP):=by walk_at "sc"
theorem sc_law_name:FnScope ["_law_k","_law_cell","_law_signs"] ["_law_k","_law_cell"] (ag dh):=by walk_at "sc"
theorem sc_law_plus:FnScope ["_law_one","_law_other"] ["_law_one","_law_other"] (ag dc):=by walk_at "sc"
theorem sc_law_times:FnScope ["_law_one","_law_other"] ["_law_one","_law_other"] (ag cL):=by walk_at "sc"
theorem sc_law_high:FnScope ["_law_put","_law_mode","_law_cell","_law_by","_law_high_here"] ["_law_put","_law_mode","_law_cell"] (ag dj):=by walk_at "sc"
theorem sc_law_row:FnScope ["_law_cell","_law_n","_law_mode","_law_far","_law_start","_law_goal","_law_kind","_law_gain","_law_more","_law_put","_law_cost"] ["_law_cell","_law_n","_law_mode","_law_far"] (ag dW):=by walk_at "sc"
theorem sc_law_sums:FnScope ["_law_rows","_law_n","_law_told_here","_law_kind","_law_start","_law_goal","_law_gain","_law_put","_law_high_here","_law_cost"] ["_law_rows","_law_n"] (ag c9):=by walk_at "sc"
theorem sc_law_wants:FnScope ["_law_script","_law_n","_law_mode","_law_rows","_law_told_here","_law_k","_law_by"] ["_law_script","_law_n","_law_mode","_law_rows"] (ag cK):=by walk_at "sc"
theorem sc_law_way:FnScope ["_law_row_here","_law_name_here","_law_names","_law_kind","_law_start","_law_goal","_law_gain","_law_put","_law_high_here","_law_cost","_law_bound","_law_price"] ["_law_row_here","_law_name_here","_law_names"] (ag dU):=by walk_at "sc"
theorem sc_law_entries:FnScope ["_law_rows","_law_ways","_law_strange","_law_cell","_law_entries_here","_law_cut","_law_name_here","_law_spot"] ["_law_rows","_law_ways","_law_strange","_law_cell"] (ag ce):=by walk_at "sc"
theorem sc_law_plan:FnScope ["_law_entries_here","_law_plan_here","_law_name_here","_law_put"] ["_law_entries_here"] (ag df):=by walk_at "sc"
theorem sc_law_stays:FnScope ["_law_plan_here","_law_entries_here","_law_name_here","_law_put"] ["_law_plan_here","_law_entries_here"] (ag cM):=by walk_at "sc"
theorem sc_law_many:FnScope ["_law_cell","_law_n"] ["_law_cell","_law_n"] (ag di):=by walk_at "sc"
theorem sc_law_kinds:FnScope ["_law_e","_law_told_here"] ["_law_e"] (ag cO):=by walk_at "sc"
theorem sc_law_over:FnScope ["_law_row_here","_law_put","_law_high_here"] ["_law_row_here"] (ag dg):=by walk_at "sc"
theorem sc_law_due:FnScope ["_law_entries_here","_law_rows","_law_ways","_law_names","_law_wants_here","_law_name_here","_law_put","_law_k","_law_found","_law_lacking","_law_told_here","_law_row_here"] ["_law_entries_here","_law_rows","_law_ways","_law_names","_law_wants_here"] (ag dY):=by walk_at "sc"
theorem sc_law_faults:FnScope ["_law_entries_here","_law_rows","_law_ways","_law_names","_law_wants_here","_law_told_here","_law_k","_law_put","_law_high_here","_law_found"] ["_law_entries_here","_law_rows","_law_ways","_law_names","_law_wants_here"] (ag cz):=by walk_at "sc"
theorem sc_law_told:FnScope ["_law_found","_law_due_here","_law_k"] ["_law_found","_law_due_here"] (ag c8):=by walk_at "sc"
theorem sc_law_meets:FnScope ["_law_net","_law_plan_here","_law_due_here","_law_caught","_law_found","_law_e"] ["_law_net","_law_plan_here","_law_due_here"] (ag cN):=by walk_at "sc"
theorem sc_law_looked:FnScope ["_law_net","_law_entries_here","_law_rows","_law_ways","_law_names","_law_wants_here","_law_plan_here","_law_due_here","_law_first","_law_found"] ["_law_net","_law_entries_here","_law_rows","_law_ways","_law_names","_law_wants_here"] (ag cy):=by walk_at "sc"
theorem sc_law:FnScope ["_law_script","_law_n","_law_mode","_law_far","_law_names","_law_shape","_law_rows","_law_ways","_law_wants_here","_law_places","_law_net","_law_strange","_law_entries_here","_law_own","_law_wished","_law_k"] ["_law_script"] (ag ge):=by walk_at "sc"
theorem sc_Fraction_init:FnScope ["self","top","bottom","common"] ["self","top","bottom"] (ag bL):=by walk_at "sc"
theorem sc_Fraction_plus:FnScope ["self","other","common","own","top","left"] ["self","other"] (ag bK):=by walk_at "sc"
theorem gS:FnScope ["self","other"] ["self","other"] (ag bB):=by walk_at "sc"
theorem sc_Fraction_times:FnScope ["self","other","first","second","top"] ["self","other"] (ag bA):=by walk_at "sc"
theorem gR:FnScope ["self","other"] ["self","other"] (ag bz):=by walk_at "sc"
theorem sc_Fraction_sign:FnScope ["self"] ["self"] (ag bJ):=by walk_at "sc"
theorem sc_Way_init:FnScope ["self","name","start","goal","high","cost"] ["self","name","start","goal","high","cost"] (ag cq):=by walk_at "sc"
theorem sc_Way_gain:FnScope ["self"] ["self"] (ag dk):=by walk_at "sc"
theorem eY:FnScope ["self","amount"] ["self","amount"] (ag ci):=by walk_at "sc"
theorem sc_Growing_init:FnScope ["self","name","start","goal","rate","high","cost"] ["self","name","start","goal","rate","high","cost"] (ag bE):=by walk_at "sc"
theorem sc_Growing_gain:FnScope ["self"] ["self"] (ag bW):=by walk_at "sc"
theorem sc_Leaking_init:FnScope ["self","name","start","goal","loss","high","cost"] ["self","name","start","goal","loss","high","cost"] (ag bC):=by walk_at "sc"
theorem ft:FnScope ["self"] ["self"] (ag bg):=by walk_at "sc"
theorem sc_Net_init:FnScope ["self","places","ways"] ["self","places","ways"] (ag dm):=by walk_at "sc"
theorem sc_Net_names:FnScope ["self"] ["self"] (ag cQ):=by walk_at "sc"
theorem sc_Net_want:FnScope ["self","place"] ["self","place"] (ag dl):=by walk_at "sc"
theorem sc_Net_way:FnScope ["self","name"] ["self","name"] (ag d4):=by walk_at "sc"
theorem sc_Net_all_ways:FnScope ["self"] ["self"] (ag bV):=by walk_at "sc"
theorem sc_Net_wanting:FnScope ["self","wants","name","places"] ["self","wants"] (ag cj):=by walk_at "sc"
theorem sc_NoWay_init:FnScope ["self","name"] ["self","name"] (ag b6):=by walk_at "sc"
theorem gQ:FnScope ["self","name","bound"] ["self","name","bound"] (ag bb):=by walk_at "sc"
theorem sc_Short_init:FnScope ["self","place","lacking"] ["self","place","lacking"] (ag bZ):=by walk_at "sc"
end
end G
open PySem L2 in
local macro_rules | `(tactic| walk_at "kit") => `(tactic| first | exact G.TX.k_Fraction_Fraction (by assumption) | exact G.TX.k_Way_Store (by assumption) | exact G.TX.k_Growing_Store (by assumption) | exact G.TX.k_Leaking_Store (by assumption) | exact G.TX.k_int_bool (by assumption) | exact G.TX.k_int_int (by assumption) | exact G.TX.k_list_list (by assumption) | exact G.TX.k_tuple_tuple (by assumption) | exact G.TX.k_NoWay_Broken (by assumption) | exact G.TX.k_NoWay_NoExchange (by assumption) | exact G.TX.k_NoWay_NoNumber (by assumption) | exact G.TX.k_NoWay_NoPlace (by assumption) | exact G.TX.k_NoWay_NoRing (by assumption) | exact G.TX.k_NoWay_NoRow (by assumption) | exact G.TX.k_NoWay_NoStrand (by assumption) | exact G.TX.k_NoWay_NoText (by assumption) | exact G.TX.k_NoWay_NoWay (by assumption) | exact G.TX.k_NoWay_OverBound (by assumption) | exact G.TX.k_NoWay_Short (by assumption) | exact G.TX.k_NoWay_TooMany (by assumption) | exact G.TX.k_NoWay_Twice (by assumption) | exact G.TX.k_NoWay_ValueError (by assumption) | exact G.TX.k_OverBound_Broken (by assumption) | exact G.TX.k_OverBound_NoExchange (by assumption) | exact G.TX.k_OverBound_NoNumber (by assumption) | exact G.TX.k_OverBound_NoPlace (by assumption) | exact G.TX.k_OverBound_NoRing (by assumption) | exact G.TX.k_OverBound_NoRow (by assumption) | exact G.TX.k_OverBound_NoStrand (by assumption) | exact G.TX.k_OverBound_NoText (by assumption) | exact G.TX.k_OverBound_NoWay (by assumption) | exact G.TX.k_OverBound_OverBound (by assumption) | exact G.TX.k_OverBound_Short (by assumption) | exact G.TX.k_OverBound_TooMany (by assumption) | exact G.TX.k_OverBound_Twice (by assumption) | exact G.TX.k_OverBound_ValueError (by assumption) | exact G.TX.k_Short_Broken (by assumption) | exact G.TX.k_Short_NoExchange (by assumption) | exact G.TX.k_Short_NoNumber (by assumption) | exact G.TX.k_Short_NoPlace (by assumption) | exact G.TX.k_Short_NoRing (by assumption) | exact G.TX.k_Short_NoRow (by assumption) | exact G.TX.k_Short_NoStrand (by assumption) | exact G.TX.k_Short_NoText (by assumption) | exact G.TX.k_Short_NoWay (by assumption) | exact G.TX.k_Short_OverBound (by assumption) | exact G.TX.k_Short_Short (by assumption) | exact G.TX.k_Short_TooMany (by assumption) | exact G.TX.k_Short_Twice (by assumption) | exact G.TX.k_Short_ValueError (by assumption))
open PySem L2 in
local macro_rules | `(tactic| walk_at "sm") => `(tactic| first | assumption | (refine And.left (?_ : G.SmR _); assumption) | (refine And.right (?_ : G.SmR _); assumption))
open PySem L2 in
local macro_rules | `(tactic| walk_at "fa") => `(tactic| first | rfl | assumption | exact True.intro | exact (fun _ h => h) | ((with_reducible show L2.TyOf _ _ _ _); first | exact TyOf.int _ | exact TyOf.str _ | exact TyOf.bl _ | exact TyOf.non | exact G.FrAt.ty (G.TX.fr (by assumption)) (by walk_at "fa")) | ((with_reducible show PySem.W.kitOne _ _ _ = _); walk_at "kit") | ((with_reducible show G.FrAt _ _ _ _); apply G.FrAt.up; assumption; walk_at "fa") | ((with_reducible show L2.SqL _ _ _ _); apply Same.seq; assumption; walk_at "fa") | (show (0 : Int) < _; decide) | (refine (And.intro ?_ ?_ : CDiv _ _) <;> decide) | (refine (And.intro ?_ (And.intro ?_ ?_) : CPow _ _) <;> decide) | exact (PySem.IntMulOk.of_right (by decide)) | exact (PySem.IntMulOk.of_left (by decide)) | (refine (And.intro ?_ ?_ : CMulB _ _) <;> walk_at "sm"))
open PySem L2 in
local macro_rules | `(tactic| walk_at "rd") => `(tactic| repeat (first | refine L2.ItVar.mk _ (by walk_at "fa") ?_ | refine L2.ItB.mk _ (by walk_at "fa") ?_ | refine L2.ItTest.mk _ (by walk_at "fa") ?_ | refine L2.IrU.mk _ (by walk_at "fa") ?_ | refine L2.IrI0.mk _ _ (by walk_at "fa") (by walk_at "fa") ?_ | refine L2.ItFld.mk _ _ _ _ _ (by walk_at "fa") (by walk_at "fa") (by walk_at "fa") (by walk_at "fa") (by walk_at "fa") ?_ | apply @Exists.intro V | apply @Exists.intro Int | apply @Exists.intro Addr | apply @Exists.intro Rat | apply @Exists.intro Bool | apply @Exists.intro Value | apply @Exists.intro (List V) | apply @Exists.intro (List (Str × V)) | apply @Exists.intro Str | apply @Exists.intro (List Int) | refine And.intro (by walk_at "fa") ?_ | refine L2.iteT ?_ | refine L2.iteF ?_))
namespace G
open PySem L2
section
variable {P:Program} {w:World} {K:PySem.W.Frag} {mg:Str→Option Value} {base:Heap} {a:Ad}
theorem TX.fr (T:TX K mg a):FrC K a.Fraction:=⟨T.cl_Fraction,T.na_Fraction_top,T.na_Fraction_bottom,T.c1_Fraction,T.c2,T.c3,T.c4_Fraction⟩
theorem gcd_turn {a b n m:Int} (h:gcd n m=gcd a b) (hm:0≤m) (p:m≠0):0≤n % m∧n % m<m∧gcd m (n % m)=gcd a b:=
 ⟨Int.emod_nonneg n p,Int.emod_lt_of_pos n (by omega),by rw [gcd_step n m (by omega),h]⟩
theorem cu (T:TX K mg a):FnB P w K mg base CX0 "divisor" 1 ["one","other"] spDiv:=by
 refine T.d_divisor.ok sc_divisor (fun vs H Q E h=>?_) (fun f cdv A outer s H vs Q E hr h=>?_)
 ·obtain ⟨a,b,rfl,_⟩:=h
  rfl
 ·obtain ⟨a,b,rfl,k⟩:=h
  refine ⟨_,(ae (ar (i:=0) sc_divisor.nd rfl (Or.inl rfl) (am d8 (by rfl) T.z_abs PyProof.Rows.boot_abs (aa (pv 0) ac)))
   (ae (ar (i:=1) sc_divisor.nd rfl (Or.inl rfl) (am d8 (by rfl) T.z_abs PyProof.Rows.boot_abs (aa (pv 1) ac)))
   (ae (ps_while PassesOwn.never (ax op_ne (pv 1) af (aD _)) (ae (ar (i:=2) sc_divisor.nd rfl (Or.inl rfl) (ao aW (pv 0) (pv 1)))
   (ae (ar (i:=0) sc_divisor.nd rfl (Or.inl rfl) (pv 1))
   (ai (ar (i:=1) sc_divisor.nd rfl (Or.inl rfl) (pv 2))))))
   (ai (aw (pv 0)))))),?_⟩
  try dsimp only [aS,Cx.nox,Cx.wish]
  refine ⟨_,rfl,_,rfl,_,rfl,_,rfl,?_⟩
  refine while_by (fun σ H'=>∃ (n m:Int) (r:Option V),σ=[some (.int n),some (.int m),r]∧H'=H∧0≤n∧0≤m∧gcd n m=gcd a b) (fun σ _=>match σ with | [_,some (.int m),_]=>m.toNat | _=>0) ?_ ?_ ?_
  ·refine ⟨_,_,_,rfl,rfl,?_,?_,gcd_abs a b⟩ <;> split <;> omega
  ·rintro σ H' ⟨n,m,r,rfl,rfl,hn,hm,hg⟩
   refine ⟨_,rfl,rfl,_,rfl,?_⟩
   by_cases z:m=0
   ·subst z
    refine iteNS rfl ?_
    refine ⟨_,rfl,?_⟩
    rw [gcd_zero n hn] at hg
    rw [hg]
    exact k
   ·refine fA (by rw [neV z];rfl) ?_
    obtain ⟨g1,g2,g3⟩:=gcd_turn hg hm z
    refine ⟨_,rfl,_,rfl,_,_,rfl,rfl,(by show (0:Int)<m;omega),_,rfl,_,rfl,⟨_,_,_,rfl,rfl,hm,g1,g3⟩,?_⟩
    show (n % m).toNat<m.toNat
    omega
  ·rintro σ H' Q1 Q2 hq ⟨v,e,s1,c,ec,q⟩
   exact ⟨v,e,s1,c,ec,hq _ _ q⟩
theorem ok_init (T:TX K mg a):∀ dvs∈[[],[V.int 1]],MkB P w K mg base CX0 a.Fraction 2 ["self","top","bottom"] dvs (spInit a.Fraction):=by
 refine T.i_Fraction.ok sc_Fraction_init (fun vs H Q E h=>?_) (fun f cdv A outer s H vs Q E hr h=>?_)
 ·obtain ⟨p,dx,n,b,rfl,_⟩:=h
  rfl
 ·obtain ⟨p,dx,n,b,rfl,hp,hb,sb,k⟩:=h
  refine ⟨_,(ae (aC (ax cA (pv 2) af (aD _)) (ai bX) al)
   (ae (ar (i:=3) sc_Fraction_init.nd rfl (Or.inl rfl) (aG (cu T) hr aq (aa (pv 1) (aa (pv 2) ac))))
   (ae (aC (ax dG (pv 2) af (aD _)) (ai (ar (i:=3) sc_Fraction_init.nd rfl (Or.inl rfl) (pe_un un_neg (pv 3)))) al)
   (ae (dv (pv 0) (ao bG (pv 1) (pv 3)) rfl)
   (ai (dv (pv 0) (ao bG (pv 2) (pv 3)) rfl)))))),?_⟩
  try dsimp only [aS,Cx.nox,Cx.wish]
  refine ⟨_,rfl,rfl,_,rfl,?_⟩
  refine c6 (neV hb) ?_
  refine ⟨_,rfl,_,rfl,n,b,rfl,?_⟩
  refine ⟨_,rfl,_,_,rfl,rfl,_,rfl,?_⟩
  obtain ⟨i1,i2⟩:=init_spec n b hb
  have gp:=cU n hb
  have gs:=Sm.gcd_r n hb sb
  have fin:∀ c:Int,c≠0→Sm c→n.fdiv c=(Rat.divInt n b).num→b.fdiv c=((Rat.divInt n b).den:Int)→
    tSeq (sFld K (tVar 0) (tOp (rI CDivB fun i j=>.int (i.fdiv j)) (tVar 1) (tVar 3)) "top") (sFld K (tVar 0) (tOp (rI CDivB fun i j=>.int (i.fdiv j)) (tVar 2) (tVar 3)) "bottom") { nx:=fun _ H'=>Q .non H',rt:=Q } [some (.ref p),some (.int n),some (.int b),some (.int c)] H:=by
   intro c hc hs e1 e2
   refine ⟨_,rfl,_,rfl,_,_,rfl,rfl,⟨hc,hs⟩,_,rfl,p,a.Fraction,dx,_,rfl,hp,T.cl_Fraction,T.na_Fraction_top,(by show 0<1000;decide),?_⟩
   refine ⟨_,rfl,_,rfl,_,_,rfl,rfl,⟨hc,hs⟩,_,rfl,p,a.Fraction,dx,_,rfl,ad,T.cl_Fraction,T.na_Fraction_bottom,(by show 1<1000;decide),?_⟩
   refine k _ ?_
   rw [cW]
   dsimp only
   rw [e1,e2,ff_new]
  refine ifB (fun hn=>?_) (fun hn=>?_)
  ·rw [if_pos hn] at i1 i2
   refine ⟨_,rfl,_,rfl,?_⟩
   exact fin _ (by omega) (gs.le (by omega)) i1 i2
  ·rw [if_neg hn] at i1 i2
   exact fin _ (by omega) gs i1 i2
theorem sm1:Sm 1:=Nat.one_lt_two_pow (by decide)
theorem mk2 (T:TX K mg a):MkB P w K mg base CX0 a.Fraction 2 ["self","top","bottom"] [] (spInit a.Fraction):=ok_init T _ (by simp)
theorem mk1 (T:TX K mg a):MkB P w K mg base CX0 a.Fraction 2 ["self","top","bottom"] [.int 1] (spInit a.Fraction):=ok_init T _ (by simp)
theorem b8 (T:TX K mg a):FnB P w K mg base CX0 "in_lowest_terms" 4 ["top","bottom"] (spLow a.Fraction):=by
 refine T.d_in_lowest_terms.ok sc_in_lowest_terms (fun vs H Q E h=>?_) (fun f cdv A outer s H vs Q E hr h=>?_)
 ·obtain ⟨t,b,rfl,_⟩:=h
  rfl
 ·obtain ⟨t,b,rfl,k⟩:=h
  refine ⟨_,(ae (ar (i:=2) sc_in_lowest_terms.nd rfl (Or.inl rfl) (b7 (mk1 T) hr T.mg_Fraction aq (aa af ac)))
   (ae (dv (pv 2) (pv 0) rfl)
   (ae (dv (pv 2) (pv 1) rfl)
   (ai (aw (pv 2)))))),?_⟩
  try dsimp only [aS,Cx.nox,Cx.wish]
  refine ⟨0,1,rfl,by decide,sm1,fun x H1 nx s1 ⟨dx,hx⟩=>?_⟩
  refine ⟨_,rfl,_,rfl,x,a.Fraction,dx,_,rfl,hx,T.cl_Fraction,T.na_Fraction_top,(by show 2<1000;decide),?_⟩
  refine ⟨_,rfl,_,rfl,x,a.Fraction,dx,_,rfl,ad,T.cl_Fraction,T.na_Fraction_bottom,(by show 2<1000;decide),?_⟩
  refine ⟨_,rfl,?_⟩
  refine k x dx _ nx (fun c o e=>?_) ?_
  ·rw [ak (aE e nx),ak (aE e nx)]
   exact s1 _ _ e
  ·rw [ad,ff_put]
abbrev always:Rat→Rat→Prop:=fun _ _=>True
theorem ok_plus (T:TX K mg a):MtB P w K mg base CX0 a.Fraction "plus" 5 ["self","other"] (spR2 a.Fraction (fun x y=>x+y) always):=by
 refine T.m_Fraction_plus.ok sc_Fraction_plus (fun vs H Q E h=>?_) (fun f cdv A outer s H vs Q E hr h=>?_)
 ·obtain ⟨p,q,x,y,rfl,_⟩:=h
  rfl
 ·obtain ⟨p,q,x,y,rfl,hp,hq,sx,sy,_,k⟩:=h
  refine ⟨_,(ae (ar (i:=2) sc_Fraction_plus.nd rfl (Or.inl rfl) (aG (cu T) hr aq (aa (ck T.fr (pv 0)) (aa (ck T.fr (pv 1)) ac))))
   (ae (ar (i:=3) sc_Fraction_plus.nd rfl (Or.inl rfl) (ao bG (ck T.fr (pv 0)) (pv 2)))
   (ae (ar (i:=4) sc_Fraction_plus.nd rfl (Or.inl rfl) (ao bY (ao a6 (cH T.fr (pv 0)) (ao bG (ck T.fr (pv 1)) (pv 2))) (ao a6 (cH T.fr (pv 1)) (pv 3))))
   (ae (ar (i:=5) sc_Fraction_plus.nd rfl (Or.inl rfl) (aG (cu T) hr aq (aa (pv 4) (aa (pv 2) ac))))
   (ai (aw (aG (b8 T) hr aq (aa (ao bG (pv 4) (pv 5)) (aa (ao a6 (pv 3) (ao bG (ck T.fr (pv 1)) (pv 5))) ac))))))))),?_⟩
  try dsimp only [aS,Cx.nox,Cx.wish]
  have hx:=gI x
  have hy:=gI y
  have xp:=fk x
  have yp:=fk y
  have gp:=cU (x.den:Int) hy
  have gs:=Sm.gcd_r (x.den:Int) hy sy.2
  have gn:gcd x.den y.den≠0:=by omega
  have so:Sm ((x.den:Int).fdiv (gcd x.den y.den)):=sx.2.le (eF _ gp (by omega))
  have so2:Sm ((y.den:Int).fdiv (gcd x.den y.den)):=sy.2.le (eF _ gp (by omega))
  refine ⟨_,rfl,p,x,rfl,hp,_,rfl,q,y,rfl,hq,_,_,rfl,?_⟩
  refine ⟨_,rfl,p,x,rfl,hp,_,rfl,_,_,rfl,rfl,⟨by omega,gs⟩,?_⟩
  refine ⟨_,rfl,p,x,rfl,hp,_,rfl,q,y,rfl,hq,_,rfl,_,_,rfl,rfl,⟨by omega,gs⟩,_,_,rfl,rfl,⟨sx.1,so2⟩,_,rfl,q,y,rfl,hq,_,rfl,_,_,rfl,rfl,⟨sy.1,so⟩,_,_,rfl,rfl,?_⟩
  refine ⟨_,rfl,_,rfl,_,_,rfl,?_⟩
  generalize htop:x.num*(y.den:Int).fdiv (gcd x.den y.den)+y.num*(x.den:Int).fdiv (gcd x.den y.den)=top
  have lp:=cU top gn
  have ls:=Sm.gcd_r top gn gs
  refine ⟨_,rfl,_,rfl,_,_,rfl,rfl,⟨by omega,ls⟩,_,rfl,_,rfl,q,y,rfl,hq,_,rfl,_,_,rfl,rfl,⟨by omega,ls⟩,_,_,rfl,rfl,⟨so,sy.2.le (eF _ lp (by omega))⟩,_,_,rfl,?_⟩
  intro r dx H' nr s1 h1
  obtain ⟨e1,e2⟩:=add_spec x y
  try dsimp only at e1 e2
  rw [htop] at e1 e2
  refine k r H' nr s1 ⟨dx,?_⟩
  show H' r=some (.ins a.Fraction dx (ff (x+y).num (x+y).den))
  try rw [htop] at h1
  rw [h1,← e1,← e2]
theorem ok_minus (T:TX K mg a):MtB P w K mg base CX0 a.Fraction "minus" 6 ["self","other"] (spR2 a.Fraction (fun x y=>x-y) always):=by
 refine T.m_Fraction_minus.ok gS (fun vs H Q E h=>?_) (fun f cdv A outer s H vs Q E hr h=>?_)
 ·obtain ⟨p,q,x,y,rfl,_⟩:=h
  rfl
 ·obtain ⟨p,q,x,y,rfl,hp,hq,sx,sy,_,k⟩:=h
  refine ⟨_,(ai (aw (eG T.fr (pv 0) (ok_plus T) hr aq (aa (aG (b8 T) hr aq (aa (pe_un un_neg (cH T.fr (pv 1))) (aa (ck T.fr (pv 1)) ac))) ac)))),?_⟩
  try dsimp only [aS,Cx.nox,Cx.wish]
  refine ⟨_,rfl,p,x,rfl,hp,_,rfl,q,y,rfl,hq,_,rfl,_,rfl,q,y,rfl,hq,_,_,rfl,fun r dx H1 nr s1 h1=>?_⟩
  have f1:FrAt a.Fraction H1 r (-y):=⟨dx,h1⟩
  refine ⟨p,r,x,-y,rfl,hp.mono s1,f1,sx,⟨by show Sm (-y.num);exact sy.1.le (by omega),sy.2⟩,trivial,fun r' H2 nr' s2 f2=>?_⟩
  refine k r' H2 (s1.free nr') (s1.trans s2) ?_
  show FrAt a.Fraction H2 r' (x-y)
  rw [Rat.sub_eq_add_neg]
  exact f2
theorem ok_times (T:TX K mg a):MtB P w K mg base CX0 a.Fraction "times" 5 ["self","other"] (spR2 a.Fraction (fun x y=>x*y) always):=by
 refine T.m_Fraction_times.ok sc_Fraction_times (fun vs H Q E h=>?_) (fun f cdv A outer s H vs Q E hr h=>?_)
 ·obtain ⟨p,q,x,y,rfl,_⟩:=h
  rfl
 ·obtain ⟨p,q,x,y,rfl,hp,hq,sx,sy,_,k⟩:=h
  refine ⟨_,(ae (ar (i:=2) sc_Fraction_times.nd rfl (Or.inl rfl) (aG (cu T) hr aq (aa (cH T.fr (pv 0)) (aa (ck T.fr (pv 1)) ac))))
   (ae (ar (i:=3) sc_Fraction_times.nd rfl (Or.inl rfl) (aG (cu T) hr aq (aa (cH T.fr (pv 1)) (aa (ck T.fr (pv 0)) ac))))
   (ae (ar (i:=4) sc_Fraction_times.nd rfl (Or.inl rfl) (ao a6 (ao bG (cH T.fr (pv 0)) (pv 2)) (ao bG (cH T.fr (pv 1)) (pv 3))))
   (ai (aw (aG (b8 T) hr aq (aa (pv 4) (aa (ao a6 (ao bG (ck T.fr (pv 0)) (pv 3)) (ao bG (ck T.fr (pv 1)) (pv 2))) ac)))))))),?_⟩
  try dsimp only [aS,Cx.nox,Cx.wish]
  have hx:=gI x
  have hy:=gI y
  have xp:=fk x
  have yp:=fk y
  have p1:=cU x.num hy
  have p2:=cU y.num hx
  have s1:=Sm.gcd_r x.num hy sy.2
  have s2:=Sm.gcd_r y.num hx sx.2
  have t1:Sm (x.num.fdiv (gcd x.num y.den)):=sx.1.le (fdiv_le' _ p1 (gcd_dvd_l _ _))
  have t2:Sm (y.num.fdiv (gcd y.num x.den)):=sy.1.le (fdiv_le' _ p2 (gcd_dvd_l _ _))
  have t3:Sm ((x.den:Int).fdiv (gcd y.num x.den)):=sx.2.le (eF _ p2 (by omega))
  have t4:Sm ((y.den:Int).fdiv (gcd x.num y.den)):=sy.2.le (eF _ p1 (by omega))
  refine ⟨_,rfl,p,x,rfl,hp,_,rfl,q,y,rfl,hq,_,_,rfl,?_⟩
  refine ⟨_,rfl,q,y,rfl,hq,_,rfl,p,x,rfl,hp,_,_,rfl,?_⟩
  refine ⟨_,rfl,p,x,rfl,hp,_,rfl,_,_,rfl,rfl,⟨by omega,s1⟩,_,rfl,q,y,rfl,hq,_,rfl,_,_,rfl,rfl,⟨by omega,s2⟩,_,_,rfl,rfl,⟨t1,t2⟩,?_⟩
  refine ⟨_,rfl,_,rfl,p,x,rfl,hp,_,rfl,_,_,rfl,rfl,⟨by omega,s2⟩,_,rfl,q,y,rfl,hq,_,rfl,_,_,rfl,rfl,⟨by omega,s1⟩,_,_,rfl,rfl,⟨t3,t4⟩,_,_,rfl,?_⟩
  intro r dx H' nr s1 h1
  obtain ⟨e1,e2⟩:=mul_spec x y
  refine k r H' nr s1 ⟨dx,?_⟩
  show H' r=some (.ins a.Fraction dx (ff (x*y).num (x*y).den))
  rw [h1,← e1,← e2]
def spB2 (C:Addr) (f:Rat→Rat→Bool):Sp:=fun vs H Q _=>∃ (p q:Addr) (x y:Rat),vs=[.ref p,.ref q]∧FrAt C H p x∧FrAt C H q y∧SmR x∧SmR y∧Q (.bl (f x y)) H
theorem ok_under (T:TX K mg a):MtB P w K mg base CX0 a.Fraction "under" 1 ["self","other"] (spB2 a.Fraction fun x y=>decide (x<y)):=by
 refine T.m_Fraction_under.ok gR (fun vs H Q E h=>?_) (fun f cdv A outer s H vs Q E hr h=>?_)
 ·obtain ⟨p,q,x,y,rfl,_⟩:=h
  rfl
 ·obtain ⟨p,q,x,y,rfl,hp,hq,sx,sy,k⟩:=h
  refine ⟨_,(ai (aw (e9 dG (ao a6 (cH T.fr (pv 0)) (ck T.fr (pv 1))) (ao a6 (cH T.fr (pv 1)) (ck T.fr (pv 0))) (aD _)))),?_⟩
  try dsimp only [aS,Cx.nox,Cx.wish]
  walk_at "rd"
  show Q (.bl (decide (x.num * ↑y.den<y.num * ↑x.den))) H
  rw [decide_eq_decide.mpr (Rat.lt_iff x y).symm]
  exact k
def sgn (x:Rat):Int:=if 0<x.num then 1 else if x.num<0 then -1 else 0
theorem ok_sign (T:TX K mg a):MtB P w K mg base CX0 a.Fraction "sign" 1 ["self"] (fun vs H Q _=>∃ (p:Addr) (x:Rat),vs=[.ref p]∧FrAt a.Fraction H p x∧Q (.int (sgn x)) H):=by
 refine T.m_Fraction_sign.ok sc_Fraction_sign (fun vs H Q E h=>?_) (fun f cdv A outer s H vs Q E hr h=>?_)
 ·obtain ⟨p,x,rfl,_⟩:=h
  rfl
 ·obtain ⟨p,x,rfl,hp,k⟩:=h
  refine ⟨_,(ae (aC (ax op_gt (cH T.fr (pv 0)) af (aD _)) (ai (aw af)) al)
   (ae (aC (ax dG (cH T.fr (pv 0)) af (aD _)) (ai (aw (pe_un un_neg af))) al)
   (ai (aw af)))),?_⟩
  try dsimp only [aS,Cx.nox,Cx.wish]
  walk_at "rd"
  refine ifB (fun h1=>?_) (fun h1=>?_)
  ·rw [show sgn x=1 from if_pos h1] at k
   exact k
  ·walk_at "rd"
   refine ifB (fun h2=>?_) (fun h2=>?_)
   ·rw [show sgn x = -1 from (if_neg h1).trans (if_pos h2)] at k
    walk_at "rd"
    exact k
   ·rw [show sgn x=0 from (if_neg h1).trans (if_neg h2)] at k
    exact k
def cx (ns:List Int) (k:Nat):Int:=ns.getD k 0
def spCell (K:PySem.W.Frag):Sp:=fun vs H Q _=>∃ (l:Addr) (ns:List Int) (k:Nat),vs=[.ref l,.int (k:Int)]∧SqL K H l (ns.map V.int)∧Q (.int (cx ns k)) H
theorem bi (T:TX K mg a):FnB P w K mg base CX0 "_law_cell_at" 1 ["_law_script","_law_k"] (spCell K):=by
 refine T.d_law_cell_at.ok sc_law_cell_at (fun vs H Q E h=>?_) (fun f cdv A outer s H vs Q E hr h=>?_)
 ·obtain ⟨l,ns,i,rfl,_⟩:=h
  rfl
 ·obtain ⟨l,ns,i,rfl,hS,k⟩:=h
  refine ⟨_,(ae (aC (ax dG (pv 1) (am a0 (by rfl) T.z_len PySem.boot_len (aa (pv 0) ac)) (aD _)) (ai (aw (au ay (pv 0) (pv 1) (fun _ _=>rfl)))) al)
   (ai (aw af))),?_⟩
  try dsimp only [aS,Cx.nox,Cx.wish]
  refine ⟨_,rfl,_,rfl,_,_,rfl,.inl hS,_,_,rfl,rfl,_,rfl,?_⟩
  rw [List.length_map]
  refine ite2 (fun hlt=>?_) (fun hge=>?_)
  ·have hlt':(i:Int)<(ns.length:Int):=of_decide_eq_true hlt
   have hl:i<ns.length:=by omega
   refine ⟨_,rfl,_,rfl,_,_,_,_,rfl,rfl,hS,atI_nat (v:=.int (ns[i])) ?_,?_⟩
   ·rw [List.getElem?_map,List.getElem?_eq_getElem hl]
    rfl
   ·have e:cx ns i=ns[i]:=by unfold cx;rw [List.getD_eq_getElem?_getD,List.getElem?_eq_getElem hl];rfl
    rw [e] at k
    exact k
  ·have hge':¬ (i:Int)<(ns.length:Int):=fun z=>hge (decide_eq_true z)
   have e:cx ns i=0:=by unfold cx;rw [List.getD_eq_getElem?_getD,List.getElem?_eq_none (by omega)];rfl
   rw [e] at k
   exact k
def spWhole:Sp:=fun vs H Q _=>∃ i:Int,vs=[.int i]∧Q (.bl true) H
theorem g6 (T:TX K mg a):FnB P w K mg base CX0 "_law_whole" 1 ["_law_found"] spWhole:=by
 refine T.d_law_whole.ok sc_law_whole (fun vs H Q E h=>?_) (fun f cdv A outer s H vs Q E hr h=>?_)
 ·obtain ⟨i,rfl,_⟩:=h
  rfl
 ·obtain ⟨i,rfl,k⟩:=h
  refine ⟨_,(ai (aw (gx (am (eX (c:=.type "int")) (by rfl) T.z_isinstance PyProof.Rows.boot_isinstance (aa (pv 0) (aa (fb (v:=.ty "int") (by rfl) T.z_int PyProof.Rows.boot_int rfl) ac))) (pe_one (pe_not (am (eX (c:=.type "bool")) (by rfl) T.z_isinstance PyProof.Rows.boot_isinstance (aa (pv 0) (aa (fb (v:=.ty "bool") (by rfl) T.z_bool PyProof.Rows.boot_bool rfl) ac)))))))),?_⟩
  try dsimp only [aS,Cx.nox,Cx.wish]
  refine ⟨_,rfl,_,_,_,_,rfl,(fun u h=>h),TyOf.int i,T.k_int_int,_,rfl,?_⟩
  refine iteT ?_
  refine ⟨_,rfl,_,_,_,_,rfl,(fun u h=>h),TyOf.int i,T.k_int_bool,_,rfl,?_⟩
  exact k
theorem ok_law_divisor (T:TX K mg a):FnB P w K mg base CX0 "_law_divisor" 1 ["_law_one","_law_other"] spDiv:=by
 refine T.d_law_divisor.ok sc_law_divisor (fun vs H Q E h=>?_) (fun f cdv A outer s H vs Q E hr h=>?_)
 ·obtain ⟨n,b,rfl,_⟩:=h
  rfl
 ·obtain ⟨n',b,rfl,k⟩:=h
  refine ⟨_,(ae (ar (i:=0) sc_law_divisor.nd rfl (Or.inl rfl) (am d8 (by rfl) T.z_abs PyProof.Rows.boot_abs (aa (pv 0) ac)))
   (ae (ar (i:=1) sc_law_divisor.nd rfl (Or.inl rfl) (am d8 (by rfl) T.z_abs PyProof.Rows.boot_abs (aa (pv 1) ac)))
   (ae (ps_while PassesOwn.never (ax op_gt (pv 1) af (aD _)) (ae (ar (i:=2) sc_law_divisor.nd rfl (Or.inl rfl) (ao aW (pv 0) (pv 1)))
   (ae (ar (i:=0) sc_law_divisor.nd rfl (Or.inl rfl) (pv 1))
   (ai (ar (i:=1) sc_law_divisor.nd rfl (Or.inl rfl) (pv 2))))))
   (ai (aw (pv 0)))))),?_⟩
  try dsimp only [aS,Cx.nox,Cx.wish]
  refine ⟨_,rfl,_,rfl,_,rfl,_,rfl,?_⟩
  refine while_by (fun σ H'=>∃ (n m:Int) (r:Option V),σ=[some (.int n),some (.int m),r]∧H'=H∧0≤n∧0≤m∧gcd n m=gcd n' b) (fun σ _=>match σ with | [_,some (.int m),_]=>m.toNat | _=>0) ?_ ?_ ?_
  ·refine ⟨_,_,_,rfl,rfl,?_,?_,gcd_abs n' b⟩ <;> split <;> omega
  ·rintro σ H' ⟨n,m,r,rfl,rfl,hn,hm,hg⟩
   refine ⟨_,rfl,_,_,rfl,rfl,_,rfl,?_⟩
   by_cases z:m=0
   ·subst z
    refine iteF ?_
    refine ⟨_,rfl,?_⟩
    rw [gcd_zero n hn] at hg
    rw [hg]
    exact k
   ·refine fA (decide_eq_true (show (0:Int)<m by omega)) ?_
    obtain ⟨g1,g2,g3⟩:=gcd_turn hg hm z
    refine ⟨_,rfl,_,rfl,_,_,rfl,rfl,(by show (0:Int)<m;omega),_,rfl,_,rfl,⟨_,_,_,rfl,rfl,hm,g1,g3⟩,?_⟩
    show (n % m).toNat<m.toNat
    omega
  ·rintro σ H' Q1 Q2 hq ⟨v,e,i,j,e1,e2,c,ec,q⟩
   exact ⟨v,e,i,j,e1,e2,c,ec,hq _ _ q⟩
def spIs (C:Addr):Sp:=fun vs H Q _=>∃ (p:Addr) (x:Rat) (n d:Int),vs=[.ref p,.int n,.int d]∧FrAt C H p x∧SmR x∧Sm n∧Sm d∧d≠0∧x=Rat.divInt n d∧Q (.bl true) H
theorem cross {x:Rat} {n d:Int} (h:d≠0) (e:x=Rat.divInt n d):x.num*d=n*x.den:=by
 have h1:=Rat.num_divInt_den x
 rw [e] at h1 ⊢
 exact (Rat.divInt_eq_divInt_iff (gI _) h).mp h1
theorem fW (T:TX K mg a):FnB P w K mg base CX0 "_law_is" 2 ["_law_found","_law_top","_law_bottom"] (spIs a.Fraction):=by
 refine T.d_law_is.ok sc_law_is (fun vs H Q E h=>?_) (fun f cdv A outer s H vs Q E hr h=>?_)
 ·obtain ⟨p,x,n,d,rfl,_⟩:=h
  rfl
 ·obtain ⟨p,x,n,d,rfl,hp,sx,sn,sd,hd,ex,k⟩:=h
  refine ⟨_,(ae (aC (PW.pt (cE (cY (aJ (am (eX (c:=.ref a.Fraction)) (by rfl) T.z_isinstance PyProof.Rows.boot_isinstance (aa (pv 0) (aa (aM (v:=.ref a.Fraction) (by rfl) T.mg_Fraction rfl) ac))))) (cE (cY (aJ (aG (g6 T) hr aq (aa (cH T.fr (pv 0)) ac)))) (du (cY (aJ (aG (g6 T) hr aq (aa (ck T.fr (pv 0)) ac)))))))) (ai (aw fu)) al)
   (ae (aC (PW.pt (cE (ax dG (ck T.fr (pv 0)) af (aD _)) (du (ax op_ne (aG (ok_law_divisor T) hr aq (aa (cH T.fr (pv 0)) (aa (ck T.fr (pv 0)) ac))) af (aD _))))) (ai (aw fu)) al)
   (ai (aw (e9 cA (ao a6 (cH T.fr (pv 0)) (pv 2)) (ao a6 (pv 1) (ck T.fr (pv 0))) (aD _)))))),?_⟩
  try dsimp only [aS,Cx.nox,Cx.wish]
  refine ⟨_,rfl,_,_,_,_,rfl,(fun u h=>h),hp.ty T.fr,T.k_Fraction_Fraction,_,rfl,?_⟩
  walk_at "rd"
  have xp:=fk x
  refine c6 (decide_eq_false (show ¬ (x.den:Int)<1 by omega)) ?_
  walk_at "rd"
  rw [gcd_den x]
  walk_at "rd"
  show Q (.bl (decide (V.int (x.num*d)=V.int (n*x.den)))) H
  rw [cross hd ex,decide_eq_true rfl]
  exact k
inductive IspNoWay (a:Ad) (vs:List V) (H:Hp) (Q:VK):Prop
 | mk (e:Addr) (n:Str) (h1:vs=[.ref e,.str n]) (h2:H e=some (XI e a.NoWay none)) (h3:n.length≤1000) (h4:∀ dx,H dx=none→Q .non (upd (upd H e (XI e a.NoWay (some dx))) dx (.xd [("name",.str n)]))):IspNoWay a vs H Q
def spNoWay (a:Ad):Sp:=fun vs H Q _=>IspNoWay a vs H Q
theorem b_NoWay (T:TX K mg a):fo P w K mg base "NoWay.__init__" b6 ["self","name"] 0 (spNoWay a):=by
 intro f cdv A outer s₀ H vs Q E hr h
 obtain ⟨e,n,rfl,he,hn,k⟩:=h
 refine ⟨_,(ae (aI (pe_binit T.br_NoWay T.bf_NoWay T.mg_GainError (aa (pv 0) (aa (pe_j2 aK (pe_fv (pv 1))) ac))))
   (ai (ps_xfld (pv 0) (pv 1) rfl))),?_⟩
 try dsimp only [aS,Cx.nox,Cx.wish]
 obtain ⟨fi,hfi⟩:=T.xi_NoWay.fi
 refine ⟨_,rfl,_,rfl,by rw [PySem.sizeLine_eq];decide,_,rfl,_,rfl,by rw [PySem.sizeLine_eq];omega,_,rfl,?_,e,a.NoWay,none,_,fi,rfl,he,hfi,?_,?_⟩
 ·rw [show ("no such way can be: ":Str).length=20 from by decide +kernel,PySem.sizeLine_eq]
  omega
 ·rw [PySem.sizeLine_eq]
  show 1≤_
  omega
 ·exact ⟨_,rfl,_,rfl,e,a.NoWay,rfl,he,T.xs_NoWay,T.na_NoWay_name,k⟩
theorem xi_NoWay (T:TX K mg a):XiB P w K mg base a.NoWay 1 ["self","name"] (spNoWay a):=
 T.xi_NoWay.ok sc_NoWay_init (fun vs H Q E h=>by obtain ⟨_,_,rfl,_⟩:=h;rfl) (b_NoWay T)
def NoWayE (a:Ad) (H:Hp) (n:Str) (E:XK):Prop:=∀ H' dx,Same H H'→H' dx=some (.xd [("name",.str n)])→E (.ref a.NoWay) (some dx) H'
theorem raise_nw {H:Hp} {n:Str} {E:XK} (hn:n.length≤1000) (k:NoWayE a H n E):([V.str n]:List V).length≤sizeLine∧
  ∀ e,H e=none→spNoWay a ((.ref e::[.str n])++[]) (upd H e (XI e a.NoWay none)) (fun v H2=>v=.non∧∃ d,H2 e=some (XI e a.NoWay d)∧E (.ref a.NoWay) d (del H2 e)) E0:=by
 refine ⟨by rw [PySem.sizeLine_eq];show 1≤_;omega,fun e he=>⟨e,n,rfl,ad,hn,fun dx hd=>⟨rfl,some dx,?_,?_⟩⟩⟩
 ·have ne:dx≠e:=fun z=>by rw [z,ad] at hd;cases hd
  rw [ak (Ne.symm ne),ad]
 ·have ne:dx≠e:=fun z=>by rw [z,ad] at hd;cases hd
  have hd':H dx=none:=by rw [ak ne] at hd;exact hd
  refine k _ dx (fun b o eb=>?_) ?_
  ·have n1:=aE eb he
   have n2:=aE eb hd'
   unfold del
   rw [if_neg n1,ak n2,ak n1,ak n1]
   exact eb
  ·unfold del
   rw [if_neg ne,ad]
inductive IspOverBound (a:Ad) (vs:List V) (H:Hp) (Q:VK):Prop
 | mk (e:Addr) (n:Str) (v:V) (h1:vs=[.ref e,.str n,v]) (h2:H e=some (XI e a.OverBound none)) (h3:n.length≤1000) (h4:∀ dx,H dx=none→dx≠e→Q .non (upd (upd H e (XI e a.OverBound (some dx))) dx (.xd [("bound",v),("name",.str n)]))):IspOverBound a vs H Q
def fE (a:Ad):Sp:=fun vs H Q _=>IspOverBound a vs H Q
theorem b_OverBound (T:TX K mg a):fo P w K mg base "OverBound.__init__" bb ["self","name","bound"] 0 (fE a):=by
 intro f cdv A outer s₀ H vs Q E hr h
 obtain ⟨e,n,v,rfl,he,hn,k⟩:=h
 refine ⟨_,(ae (aI (pe_binit T.br_OverBound T.bf_OverBound T.mg_GainError (aa (pv 0) (aa (pe_j2 aK (pe_fv (pv 1))) ac))))
   (ae (ps_xfld0 (pv 0) (pv 1) rfl)
   (ai (ps_xfld1 (pv 0) (pv 2) rfl)))),?_⟩
 try dsimp only [aS,Cx.nox,Cx.wish]
 obtain ⟨fi,hfi⟩:=T.xi_OverBound.fi
 refine ⟨_,rfl,_,rfl,by rw [PySem.sizeLine_eq];decide,_,rfl,_,rfl,by rw [PySem.sizeLine_eq];omega,_,rfl,?_,e,a.OverBound,none,_,fi,rfl,he,hfi,?_,?_⟩
 ·rw [show ("the amount passes a bound of the way: ":Str).length=38 from by decide +kernel,PySem.sizeLine_eq]
  omega
 ·rw [PySem.sizeLine_eq]
  show 1≤_
  omega
 ·refine ⟨_,rfl,_,rfl,e,a.OverBound,rfl,he,T.xs_OverBound,T.na_OverBound_name,fun dx hd=>?_⟩
  have ne:e≠dx:=fun z=>by rw [← z,he] at hd;cases hd
  refine ⟨_,rfl,_,rfl,e,a.OverBound,dx,_,rfl,by rw [ak ne,ad],ad,ne,by show 1≤10;decide,T.xs_OverBound,T.na_OverBound_bound,?_⟩
  rw [cW]
  exact k dx hd (Ne.symm ne)
theorem xi_OverBound (T:TX K mg a):XiB P w K mg base a.OverBound 1 ["self","name","bound"] (fE a):=
 T.xi_OverBound.ok gQ (fun vs H Q E h=>by obtain ⟨_,_,_,rfl,_⟩:=h;rfl) (b_OverBound T)
def OverBoundE (a:Ad) (H:Hp) (n:Str) (v:V) (E:XK):Prop:=∀ H' dx,Same H H'→H' dx=some (.xd [("bound",v),("name",.str n)])→E (.ref a.OverBound) (some dx) H'
theorem raise_OverBound {H:Hp} {n:Str} {v:V} {E:XK} (hn:n.length≤1000) (k:OverBoundE a H n v E):([V.str n,v]:List V).length≤sizeLine∧
  ∀ e,H e=none→fE a ((.ref e::[.str n,v])++[]) (upd H e (XI e a.OverBound none)) (fun v H2=>v=.non∧∃ d,H2 e=some (XI e a.OverBound d)∧E (.ref a.OverBound) d (del H2 e)) E0:=by
 refine ⟨by rw [PySem.sizeLine_eq];show 2≤_;omega,fun e he=>⟨e,n,v,rfl,ad,hn,fun dx hd ne=>⟨rfl,some dx,?_,?_⟩⟩⟩
 ·rw [ak (Ne.symm ne),ad]
 ·have hd':H dx=none:=by rw [ak ne] at hd;exact hd
  refine k _ dx (fun b o eb=>?_) ?_
  ·have n1:=aE eb he
   have n2:=aE eb hd'
   unfold del
   rw [if_neg n1,ak n2,ak n1,ak n1]
   exact eb
  ·unfold del
   rw [if_neg ne,ad]
inductive IspShort (a:Ad) (vs:List V) (H:Hp) (Q:VK):Prop
 | mk (e:Addr) (n:Str) (v:V) (h1:vs=[.ref e,.str n,v]) (h2:H e=some (XI e a.Short none)) (h3:n.length≤1000) (h4:∀ dx,H dx=none→dx≠e→Q .non (upd (upd H e (XI e a.Short (some dx))) dx (.xd [("lacking",v),("place",.str n)]))):IspShort a vs H Q
def spShort (a:Ad):Sp:=fun vs H Q _=>IspShort a vs H Q
theorem b_Short (T:TX K mg a):fo P w K mg base "Short.__init__" bZ ["self","place","lacking"] 0 (spShort a):=by
 intro f cdv A outer s₀ H vs Q E hr h
 obtain ⟨e,n,v,rfl,he,hn,k⟩:=h
 refine ⟨_,(ae (aI (pe_binit T.br_Short T.bf_Short T.mg_GainError (aa (pv 0) (aa (pe_j2 aK (pe_fv (pv 1))) ac))))
   (ae (ps_xfld0 (pv 0) (pv 1) rfl)
   (ai (ps_xfld1 (pv 0) (pv 2) rfl)))),?_⟩
 try dsimp only [aS,Cx.nox,Cx.wish]
 obtain ⟨fi,hfi⟩:=T.xi_Short.fi
 refine ⟨_,rfl,_,rfl,by rw [PySem.sizeLine_eq];decide,_,rfl,_,rfl,by rw [PySem.sizeLine_eq];omega,_,rfl,?_,e,a.Short,none,_,fi,rfl,he,hfi,?_,?_⟩
 ·rw [show ("less than its want comes to the place: ":Str).length=39 from by decide +kernel,PySem.sizeLine_eq]
  omega
 ·rw [PySem.sizeLine_eq]
  show 1≤_
  omega
 ·refine ⟨_,rfl,_,rfl,e,a.Short,rfl,he,T.xs_Short,T.na_Short_place,fun dx hd=>?_⟩
  have ne:e≠dx:=fun z=>by rw [← z,he] at hd;cases hd
  refine ⟨_,rfl,_,rfl,e,a.Short,dx,_,rfl,by rw [ak ne,ad],ad,ne,by show 1≤10;decide,T.xs_Short,T.na_Short_lacking,?_⟩
  rw [cW]
  exact k dx hd (Ne.symm ne)
theorem xi_Short (T:TX K mg a):XiB P w K mg base a.Short 1 ["self","place","lacking"] (spShort a):=
 T.xi_Short.ok sc_Short_init (fun vs H Q E h=>by obtain ⟨_,_,_,rfl,_⟩:=h;rfl) (b_Short T)
def ShortE (a:Ad) (H:Hp) (n:Str) (v:V) (E:XK):Prop:=∀ H' dx,Same H H'→H' dx=some (.xd [("lacking",v),("place",.str n)])→E (.ref a.Short) (some dx) H'
theorem raise_Short {H:Hp} {n:Str} {v:V} {E:XK} (hn:n.length≤1000) (k:ShortE a H n v E):([V.str n,v]:List V).length≤sizeLine∧
  ∀ e,H e=none→spShort a ((.ref e::[.str n,v])++[]) (upd H e (XI e a.Short none)) (fun v H2=>v=.non∧∃ d,H2 e=some (XI e a.Short d)∧E (.ref a.Short) d (del H2 e)) E0:=by
 refine ⟨by rw [PySem.sizeLine_eq];show 2≤_;omega,fun e he=>⟨e,n,v,rfl,ad,hn,fun dx hd ne=>⟨rfl,some dx,?_,?_⟩⟩⟩
 ·rw [ak (Ne.symm ne),ad]
 ·have hd':H dx=none:=by rw [ak ne] at hd;exact hd
  refine k _ dx (fun b o eb=>?_) ?_
  ·have n1:=aE eb he
   have n2:=aE eb hd'
   unfold del
   rw [if_neg n1,ak n2,ak n1,ak n1]
   exact eb
  ·unfold del
   rw [if_neg ne,ad]
structure WayC (K:PySem.W.Frag) (C:Addr):Prop where
 cl:Cls K C
 n1:NoAttr K C "name"
 n2:NoAttr K C "start"
 n3:NoAttr K C "goal"
 n4:NoAttr K C "high"
 n5:NoAttr K C "cost"
theorem TX.wW (T:TX K mg a):WayC K a.Way:=⟨T.cl_Way,T.na_Way_name,T.na_Way_start,T.na_Way_goal,T.na_Way_high,T.na_Way_cost⟩
theorem TX.wG (T:TX K mg a):WayC K a.Growing:=⟨T.cl_Growing,T.na_Growing_name,T.na_Growing_start,T.na_Growing_goal,T.na_Growing_high,T.na_Growing_cost⟩
theorem TX.wL (T:TX K mg a):WayC K a.Leaking:=⟨T.cl_Leaking,T.na_Leaking_name,T.na_Leaking_start,T.na_Leaking_goal,T.na_Leaking_high,T.na_Leaking_cost⟩
theorem TX.wS (T:TX K mg a):WayC K a.Store:=⟨T.cl_Store,T.na_Store_name,T.na_Store_start,T.na_Store_goal,T.na_Store_high,T.na_Store_cost⟩
structure W5 (fs:List (Str × V)) (n s g:Str) (vh vc:V):Prop where
 nm:fs.lookup ("name":Str)=some (.str n)
 st:fs.lookup ("start":Str)=some (.str s)
 go:fs.lookup ("goal":Str)=some (.str g)
 hi:fs.lookup ("high":Str)=some vh
 co:fs.lookup ("cost":Str)=some vc
 ga:fs.lookup ("gain":Str)=none
 ou:fs.lookup ("out":Str)=none
 len:fs.length≤10
theorem W5.new {n s g:Str} {vh vc:V}:W5 (bQ "cost" vc (bQ "high" vh (bQ "goal" (.str g) (bQ "start" (.str s) (bQ "name" (.str n) []))))) n s g vh vc:=by
 refine ⟨?_,?_,?_,?_,?_,?_,?_,?_⟩
 iterate 7
  simp only [cT]
  (repeat rw [if_neg (by decide +kernel)])
  try rw [if_pos rfl]
  try rfl
 ·have h1:=bM "cost" vc (bQ "high" vh (bQ "goal" (.str g) (bQ "start" (.str s) (bQ "name" (.str n) []))))
  have h2:=bM "high" vh (bQ "goal" (.str g) (bQ "start" (.str s) (bQ "name" (.str n) [])))
  have h3:=bM "goal" (.str g) (bQ "start" (.str s) (bQ "name" (.str n) []))
  have h4:=bM "start" (.str s) (bQ "name" (.str n) [])
  have h5:=bM "name" (.str n) []
  simp only [List.length_nil] at h5
  omega
theorem W5.put {fs:List (Str × V)} {n s g:Str} {vh vc v:V} {f:Str} (h:W5 fs n s g vh vc) (hf:f∈(["rate","loss"]:List Str)) (hl:fs.length≤5):W5 (bQ f v fs) n s g vh vc:=by
 have e:∀ x∈(["name","start","goal","high","cost","gain","out"]:List Str),x≠f:=by
  intro x hx z
  subst z
  revert hx hf
  simp only [List.mem_cons,List.not_mem_nil,or_false]
  rintro (rfl | rfl | rfl | rfl | rfl | rfl | rfl) (h | h) <;> exact absurd h (by decide +kernel)
 have l:=bM f v fs
 refine ⟨?_,?_,?_,?_,?_,?_,?_,by omega⟩ <;> rw [cT,if_neg (e _ (by simp))]
 ·exact h.nm
 ·exact h.st
 ·exact h.go
 ·exact h.hi
 ·exact h.co
 ·exact h.ga
 ·exact h.ou
theorem bt {f:Str} {v:V} {fs:List (Str × V)} {m:Nat} (h:fs.length≤m):(bQ f v fs).length≤m+1:=Nat.le_trans (bM f v fs) (Nat.succ_le_succ h)
theorem sgn_nn {x:Rat} (h:0≤x.num):¬ sgn x<0:=by
 unfold sgn
 repeat' split
 all_goals omega
theorem sgn_p {x:Rat} (h:0<x.num):¬ sgn x≤0:=by
 unfold sgn
 rw [if_pos h]
 decide
def HiOk (C:Addr) (H:Hp) (v:V):Prop:=v=.non∨∃ (q:Addr) (x:Rat),v=.ref q∧FrAt C H q x∧0≤x.num
theorem HiOk.mono {C:Addr} {H H':Hp} {v:V} (h:HiOk C H v) (s:Same H H'):HiOk C H' v:=h.imp id fun ⟨q,x,e,f,z⟩=>⟨q,x,e,f.mono s,z⟩
def CoIs (C:Addr) (H:Hp) (p:Addr) (vc vc':V):Prop:=(vc≠.non∧vc'=vc)∨(vc=.non∧∃ q,vc'=.ref q∧q≠p∧FrAt C H q (Rat.divInt 0 1))
theorem CoIs.upd {C p:Addr} {H:Hp} {vc vc':V} {o:HO} (h:CoIs C H p vc vc'):CoIs C (upd H p o) p vc vc':=h.imp id fun ⟨e,q,e2,ne,dq,f⟩=>⟨e,q,e2,ne,dq,by rw [ak ne];exact f⟩
inductive IspWayN (K:PySem.W.Frag) (a:Ad) (vs:List V) (H:Hp) (Q:VK):Prop
 | mk (p C dx:Addr) (n s g:Str) (vh vc:V) (h1:vs=[.ref p,.str n,.str s,.str g,vh,vc]) (h2:H p=some (.ins C dx [])) (h3:WayC K C) (h4:s≠g) (h5:HiOk a.Fraction H vh) (h6:∀ H' fs vc',W5 fs n s g vh vc'→fs.length≤5→CoIs a.Fraction H' p vc vc'→(∀ b o,H b=some o→b≠p→H' b=some o)→H' p=some (.ins C dx fs)→Q .non H'):IspWayN K a vs H Q
def spWayN (K:PySem.W.Frag) (a:Ad):Sp:=fun vs H Q _=>IspWayN K a vs H Q
theorem b_Way (T:TX K mg a):fo P w K mg base "Way.__init__" cq ["self","name","start","goal","high","cost"] 3 (spWayN K a):=by
 intro f cdv A outer s₀ H vs Q E hr h
 obtain ⟨p,C,dx,n,s,g,vh,vc,rfl,hp,c,sg,hh,k⟩:=h
 refine ⟨_,(aN (aC (PW.pt (gt (ax cA (pv 2) (pv 3) (aD _)) (fV (cY (aJ (et (CX:=CX0) (pv 0) hr aq)))))) (ai bX) al)
   (aN (aC (PW.pt (gt (ax cF (pv 4) br (aD _)) (fV (ax dG (pe_frm0 T.fr (pv 4) (ok_sign T) hr aq) af (aD _))))) (ai bX) al)
   (ae (dv (pv 0) (pv 1) rfl)
   (ae (dv (pv 0) (pv 2) rfl)
   (ae (dv (pv 0) (pv 3) rfl)
   (ae (dv (pv 0) (pv 4) rfl)
   (ai (dv (pv 0) (pe_ifExp (ax op_isN (pv 5) br (aD _)) (b7 (mk1 T) hr T.mg_Fraction aq (aa af ac)) (pv 5)) rfl)))))))),?_⟩
 try dsimp only [aS,Cx.nox,Cx.wish]
 refine ⟨fun σ' H'=>σ'=[some (.ref p),some (.str n),some (.str s),some (.str g),some vh,some vc]∧H'=H,?_,?_⟩
 ·walk_at "rd"
  refine c6 (decide_eq_false fun z=>sg (V.str.inj z)) ?_
  walk_at "rd"
  first | exact ⟨rfl,rfl⟩ | exact rfl
 rintro σ' H' ⟨rfl,rfl⟩
 refine ⟨fun σ' H''=>σ'=[some (.ref p),some (.str n),some (.str s),some (.str g),some vh,some vc]∧H''=H',?_,?_⟩
 ·rcases hh with rfl | ⟨q,x,rfl,fq,hx⟩
  ·walk_at "rd"
   first | exact ⟨rfl,rfl⟩ | exact rfl
  ·walk_at "rd"
   refine c6 (decide_eq_false (sgn_nn hx)) ?_
   first | exact ⟨rfl,rfl⟩ | exact rfl
 rintro σ' H'' ⟨rfl,rfl⟩
 refine ⟨_,rfl,_,rfl,p,C,dx,[],rfl,hp,c.cl,c.n1,by decide,?_⟩
 refine ⟨_,rfl,_,rfl,p,C,dx,_,rfl,ad,c.cl,c.n2,Nat.lt_of_le_of_lt (bt (Nat.le_refl 0)) (by decide),?_⟩
 refine ⟨_,rfl,_,rfl,p,C,dx,_,rfl,ad,c.cl,c.n3,Nat.lt_of_le_of_lt (bt (bt (Nat.le_refl 0))) (by decide),?_⟩
 refine ⟨_,rfl,_,rfl,p,C,dx,_,rfl,ad,c.cl,c.n4,Nat.lt_of_le_of_lt (bt (bt (bt (Nat.le_refl 0)))) (by decide),?_⟩
 simp only [cW]
 walk_at "rd"
 by_cases hc:vc=.non
 ·refine fA (decide_eq_true hc) ?_
  walk_at "rd"
  refine ⟨by decide,sm1,fun q H1 nq s1 f1=>?_⟩
  refine ⟨_,rfl,p,C,dx,_,rfl,s1 _ _ ad,c.cl,c.n5,Nat.lt_of_le_of_lt (bt (bt (bt (bt (Nat.le_refl 0))))) (by decide),?_⟩
  have nqp:q≠p:=fun z=>by rw [z,ad] at nq;cases nq
  obtain ⟨dq,f1⟩:=f1
  refine k _ _ (.ref q) W5.new (bt (bt (bt (bt (bt (Nat.le_refl 0)))))) (.inr ⟨hc,q,rfl,nqp,dq,by rw [ak nqp];exact f1⟩) (fun b o e nb=>?_) ad
  rw [ak nb]
  refine s1 _ _ ?_
  rw [ak nb]
  exact e
 ·refine c6 (decide_eq_false hc) ?_
  refine ⟨_,rfl,_,rfl,p,C,dx,_,rfl,ad,c.cl,c.n5,Nat.lt_of_le_of_lt (bt (bt (bt (bt (Nat.le_refl 0))))) (by decide),?_⟩
  rw [cW]
  refine k _ _ vc W5.new (bt (bt (bt (bt (bt (Nat.le_refl 0)))))) (.inl ⟨hc,rfl⟩) (fun b o e nb=>?_) ad
  rw [ak nb]
  exact e
theorem len_WayN:∀ vs H Q E,spWayN K a vs H Q E→vs.length=(["self","name","start","goal","high","cost"]:List Str).length:=fun vs H Q E h=>by
 obtain ⟨_,_,_,_,_,_,_,_,rfl,_⟩:=h
 rfl
theorem mk_WayN (T:TX K mg a):∀ dvs∈[[],[V.non,V.non]],MkB P w K mg base CX0 a.Way 4 ["self","name","start","goal","high","cost"] dvs (spWayN K a):=T.i_Way.ok sc_Way_init len_WayN (b_Way T)
theorem mk_Way (T:TX K mg a):MkB P w K mg base CX0 a.Way 4 ["self","name","start","goal","high","cost"] [] (spWayN K a):=mk_WayN T _ (by simp)
theorem cf_Way (T:TX K mg a):CfB P w K mg base CX0 a.Way "__init__" 4 ["self","name","start","goal","high","cost"] (spWayN K a):=T.c_Way.ok sc_Way_init len_WayN (b_Way T)
inductive IspPartN (K:PySem.W.Frag) (a:Ad) (f:Str) (ok:Rat→Prop) (vs:List V) (H:Hp) (Q:VK):Prop
 | mk (p C dx:Addr) (n s g:Str) (vh vc:V) (q:Addr) (x:Rat) (h1:vs=[.ref p,.str n,.str s,.str g,.ref q,vh,vc]) (h2:H p=some (.ins C dx [])) (h3:WayC K C) (h4:NoAttr K C f) (h5:s≠g) (h6:FrAt a.Fraction H q x) (h7:ok x) (h8:HiOk a.Fraction H vh) (h9:∀ H' fs vc',W5 fs n s g vh vc'→fs.lookup f=some (.ref q)→CoIs a.Fraction H' p vc vc'→(∀ b o,H b=some o→b≠p→H' b=some o)→H' p=some (.ins C dx fs)→Q .non H'):IspPartN K a f ok vs H Q
def dL (K:PySem.W.Frag) (a:Ad) (f:Str) (ok:Rat→Prop):Sp:=fun vs H Q _=>IspPartN K a f ok vs H Q
theorem len_PartN {f:Str} {ok:Rat→Prop} {z:Str}:∀ vs H Q E,dL K a f ok vs H Q E→vs.length=(["self","name","start","goal",z,"high","cost"]:List Str).length:=fun vs H Q E h=>by
 obtain ⟨_,_,_,_,_,_,_,_,_,_,rfl,_⟩:=h
 rfl
abbrev growOk:Rat→Prop:=fun x=>0<x.num
abbrev leakOk:Rat→Prop:=fun x=>0≤x.num∧x<1∧SmR x
theorem b_Growing (T:TX K mg a):fo P w K mg base "Growing.__init__" bE ["self","name","start","goal","rate","high","cost"] 4 (dL K a "rate" growOk):=by
 intro f cdv A outer s₀ H vs Q E hr h
 obtain ⟨p,C,dx,n,s,g,vh,vc,q,x,rfl,hp,c,nf,sg,fq,hx,hh,k⟩:=h
 refine ⟨_,(ae (aC (ax op_le (pe_frm0 T.fr (pv 4) (ok_sign T) hr aq) af (aD _)) (ai bX) al)
   (ae (aI (pe_cf (cf_Way T) hr T.mg_Way aq (aa (pv 0) (aa (pv 1) (aa (pv 2) (aa (pv 3) (aa (pv 5) (aa (pv 6) ac))))))))
   (ai (dv (pv 0) (pv 4) rfl)))),?_⟩
 try dsimp only [aS,Cx.nox,Cx.wish]
 walk_at "rd"
 refine c6 (decide_eq_false (sgn_p hx)) ?_
 refine ⟨_,rfl,_,rfl,_,rfl,_,rfl,_,rfl,_,rfl,p,C,dx,n,s,g,vh,vc,rfl,hp,c,sg,hh,fun H2 fs vc' h5 hl co hs ho=>?_⟩
 refine ⟨_,rfl,_,rfl,p,C,dx,fs,rfl,ho,c.cl,nf,Nat.lt_of_le_of_lt hl (by decide),?_⟩
 refine k _ _ vc' (h5.put (by simp) hl) ?_ co.upd (fun b o e ne=>?_) ad
 ·rw [cT,if_pos rfl]
 ·rw [ak ne]
  exact hs b o e ne
theorem mk_GrowingN (T:TX K mg a):∀ dvs∈[[],[V.non,V.non]],MkB P w K mg base CX0 a.Growing 5 ["self","name","start","goal","rate","high","cost"] dvs (dL K a "rate" growOk):=T.i_Growing.ok sc_Growing_init len_PartN (b_Growing T)
theorem gF (T:TX K mg a):MkB P w K mg base CX0 a.Growing 5 ["self","name","start","goal","rate","high","cost"] [] (dL K a "rate" growOk):=mk_GrowingN T _ (by simp)
theorem b_Leaking (T:TX K mg a):fo P w K mg base "Leaking.__init__" bC ["self","name","start","goal","loss","high","cost"] 4 (dL K a "loss" leakOk):=by
 intro f cdv A outer s₀ H vs Q E hr h
 obtain ⟨p,C,dx,n,s,g,vh,vc,q,x,rfl,hp,c,nf,sg,fq,⟨hx,hx1,sx⟩,hh,k⟩:=h
 refine ⟨_,(aN (aC (PW.pt (cE (ax dG (pe_frm0 T.fr (pv 4) (ok_sign T) hr aq) af (aD _)) (du (cY (aJ (eG T.fr (pv 4) (ok_under T) hr aq (aa (b7 (mk1 T) hr T.mg_Fraction aq (aa af ac)) ac))))))) (ai bX) al)
   (ae (aI (pe_cf (cf_Way T) hr T.mg_Way aq (aa (pv 0) (aa (pv 1) (aa (pv 2) (aa (pv 3) (aa (pv 5) (aa (pv 6) ac))))))))
   (ai (dv (pv 0) (pv 4) rfl)))),?_⟩
 try dsimp only [aS,Cx.nox,Cx.wish]
 refine ⟨fun σ' H'=>σ'=[some (.ref p),some (.str n),some (.str s),some (.str g),some (.ref q),some vh,some vc]∧Same H H',?_,?_⟩
 ·walk_at "rd"
  refine c6 (decide_eq_false (sgn_nn hx)) ?_
  walk_at "rd"
  refine ⟨by decide,sm1,fun r H1 nr s1 f1=>?_⟩
  have e1:Rat.divInt 1 1=1:=rfl
  rw [e1] at f1
  have s2:SmR (1:Rat):=⟨sm1,sm1⟩
  walk_at "rd"
  refine c6 (by dsimp only;rw [decide_eq_true hx1];rfl) ?_
  exact ⟨rfl,s1⟩
 rintro σ' H' ⟨rfl,ss⟩
 refine ⟨_,rfl,_,rfl,_,rfl,_,rfl,_,rfl,_,rfl,p,C,dx,n,s,g,vh,vc,rfl,ss _ _ hp,c,sg,hh.mono ss,fun H2 fs vc' h5 hl co hs ho=>?_⟩
 refine ⟨_,rfl,_,rfl,p,C,dx,fs,rfl,ho,c.cl,nf,Nat.lt_of_le_of_lt hl (by decide),?_⟩
 refine k _ _ vc' (h5.put (by simp) hl) ?_ co.upd (fun b o e ne=>?_) ad
 ·rw [cT,if_pos rfl]
 ·rw [ak ne]
  exact hs b o (ss _ _ e) ne
theorem mk_LeakingN (T:TX K mg a):∀ dvs∈[[],[V.non,V.non]],MkB P w K mg base CX0 a.Leaking 5 ["self","name","start","goal","loss","high","cost"] dvs (dL K a "loss" leakOk):=T.i_Leaking.ok sc_Leaking_init len_PartN (b_Leaking T)
theorem gE (T:TX K mg a):MkB P w K mg base CX0 a.Leaking 5 ["self","name","start","goal","loss","high","cost"] [] (dL K a "loss" leakOk):=mk_LeakingN T _ (by simp)
inductive Kd where
 | way
 | gro
 | lea
 | sto
def Kd.n:Kd→Int
 | .way=>0
 | .gro=>1
 | .lea=>2
 | .sto=>3
def Kd.C (a:Ad):Kd→Addr
 | .way=>a.Way
 | .gro=>a.Growing
 | .lea=>a.Leaking
 | .sto=>a.Store
def Kd.f:Kd→Str
 | .gro=>"rate"
 | _=>"loss"
def Kd.ok:Kd→Rat→Prop
 | .way=>fun _=>True
 | .gro=>growOk
 | _=>leakOk
def cZ:Kd→Rat→Rat
 | .way=>fun _=>1
 | .gro=>fun x=>x
 | _=>fun x=>1-x
structure WayAt (a:Ad) (H:Hp) (p:Addr) (kd:Kd) (n s g:Str) (vh vc:V) (q:Addr) (x:Rat):Prop where
 ob:∃ dx fs,H p=some (.ins (kd.C a) dx fs)∧W5 fs n s g vh vc∧(kd≠.way→fs.lookup kd.f=some (.ref q))
 fq:kd≠.way→FrAt a.Fraction H q x
def Stays (a:Ad) (H H':Hp):Prop:=∀ b C dx fs,(C=a.Fraction∨∃ kd:Kd,C=kd.C a)→H b=some (.ins C dx fs)→H' b=some (.ins C dx fs)
theorem Stays.of {a:Ad} {H H':Hp} (s:Same H H'):Stays a H H':=fun b C dx fs _ e=>s _ _ e
theorem Stays.fr {a:Ad} {H H':Hp} {q:Addr} {x:Rat} (k:Stays a H H') (h:FrAt a.Fraction H q x):FrAt a.Fraction H' q x:=let ⟨dq,f⟩:=h;⟨dq,k _ _ _ _ (.inl rfl) f⟩
theorem WayAt.keep {a:Ad} {H H':Hp} {p:Addr} {kd:Kd} {n s g:Str} {vh vc:V} {q:Addr} {x:Rat} (h:WayAt a H p kd n s g vh vc q x) (k:Stays a H H'):WayAt a H' p kd n s g vh vc q x:=
 ⟨let ⟨dx,fs,e,r⟩:=h.ob;⟨dx,fs,k _ _ _ _ (.inr ⟨kd,rfl⟩) e,r⟩,fun z=>k.fr (h.fq z)⟩
theorem WayAt.mono {a:Ad} {H H':Hp} {p:Addr} {kd:Kd} {n s g:Str} {vh vc:V} {q:Addr} {x:Rat} (h:WayAt a H p kd n s g vh vc q x) (ss:Same H H'):WayAt a H' p kd n s g vh vc q x:=h.keep (.of ss)
theorem Stays.put {a:Ad} {H:Hp} {d:Addr} {o o':HO} (hd:H d=some o) (ho:∀ C dx fs,o≠.ins C dx fs):Stays a H (upd H d o'):=fun b C dx fs _ e=>by rw [ak (cS e hd (ho C dx fs).symm)];exact e
theorem dR (T:TX K mg a) (kd:Kd):WayC K (kd.C a):=by
 cases kd
 ·exact T.wW
 ·exact T.wG
 ·exact T.wL
 ·exact T.wS
def NewWay (a:Ad) (H:Hp) (Q:VK) (kd:Kd) (n s g:Str) (vh vc:V) (x:Rat):Prop:=∀ p H' vc' q,H p=none→Same H H'→WayAt a H' p kd n s g vh vc' q x→CoIs a.Fraction H' p vc vc'→Q (.ref p) H'
theorem fH {H H':Hp} {x dx C:Addr} (h1:H x=none) (h2:H dx=none) (h:∀ b o,(upd (upd H dx (.own x)) x (.ins C dx [])) b=some o→b≠x→H' b=some o):Same H H':=by
 intro b o e
 have n1:=aE e h1
 refine h b o ?_ n1
 rw [ak n1,ak (aE e h2)]
 exact e
theorem fG {H:Hp} {x dx C:Addr} (h1:H x=none) (h2:H dx=none):Same H (upd (upd H dx (.own x)) x (.ins C dx [])):=by
 intro b o e
 rw [ak (aE e h1),ak (aE e h2)]
 exact e
theorem mkW {H:Hp} {Q:VK} {n s g:Str} {vh vc:V} {x:Rat} (T:TX K mg a) (sg:s≠g) (hh:HiOk a.Fraction H vh) (k:NewWay a H Q .way n s g vh vc x) (p dx:Addr) (h1:H p=none) (h2:H dx=none) (_:dx≠p) :
  spWayN K a [.ref p,.str n,.str s,.str g,vh,vc] (upd (upd H dx (.own p)) p (.ins a.Way dx [])) (fun v H2=>v=.non∧Q (.ref p) H2) E0:=by
 have ss:=fG (C:=a.Way) h1 h2
 refine ⟨p,_,dx,n,s,g,vh,vc,rfl,ad,T.wW,sg,hh.mono ss,fun H' fs vc' h5 hl co hs ho=>⟨rfl,?_⟩⟩
 have s2:=fH h1 h2 hs
 exact k p _ vc' p h1 s2 ⟨⟨dx,fs,ho,h5,fun z=>absurd rfl z⟩,fun z=>absurd rfl z⟩ co
theorem mkG {H:Hp} {Q:VK} {n s g:Str} {vh vc:V} {q:Addr} {x:Rat} (T:TX K mg a) (sg:s≠g) (fq:FrAt a.Fraction H q x) (hx:growOk x) (hh:HiOk a.Fraction H vh) (k:NewWay a H Q .gro n s g vh vc x) (p dx:Addr) (h1:H p=none) (h2:H dx=none) (_:dx≠p) :
  dL K a "rate" growOk [.ref p,.str n,.str s,.str g,.ref q,vh,vc] (upd (upd H dx (.own p)) p (.ins a.Growing dx [])) (fun v H2=>v=.non∧Q (.ref p) H2) E0:=by
 have ss:=fG (C:=a.Growing) h1 h2
 refine ⟨p,_,dx,n,s,g,vh,vc,q,x,rfl,ad,T.wG,T.na_Growing_rate,sg,fq.mono ss,hx,hh.mono ss,fun H' fs vc' h5 hl co hs ho=>⟨rfl,?_⟩⟩
 have s2:=fH h1 h2 hs
 exact k p _ vc' q h1 s2 ⟨⟨dx,fs,ho,h5,fun _=>hl⟩,fun _=>fq.mono s2⟩ co
theorem mkL {H:Hp} {Q:VK} {n s g:Str} {vh vc:V} {q:Addr} {x:Rat} (T:TX K mg a) (sg:s≠g) (fq:FrAt a.Fraction H q x) (hx:leakOk x) (hh:HiOk a.Fraction H vh) (k:NewWay a H Q .lea n s g vh vc x) (p dx:Addr) (h1:H p=none) (h2:H dx=none) (_:dx≠p) :
  dL K a "loss" leakOk [.ref p,.str n,.str s,.str g,.ref q,vh,vc] (upd (upd H dx (.own p)) p (.ins a.Leaking dx [])) (fun v H2=>v=.non∧Q (.ref p) H2) E0:=by
 have ss:=fG (C:=a.Leaking) h1 h2
 refine ⟨p,_,dx,n,s,g,vh,vc,q,x,rfl,ad,T.wL,T.na_Leaking_loss,sg,fq.mono ss,hx,hh.mono ss,fun H' fs vc' h5 hl co hs ho=>⟨rfl,?_⟩⟩
 have s2:=fH h1 h2 hs
 exact k p _ vc' q h1 s2 ⟨⟨dx,fs,ho,h5,fun _=>hl⟩,fun _=>fq.mono s2⟩ co
inductive IspGain (a:Ad) (kd:Kd) (vs:List V) (H:Hp) (Q:VK):Prop
 | mk (p:Addr) (n s g:Str) (vh vc:V) (q:Addr) (x:Rat) (h1:vs=[.ref p]) (h2:WayAt a H p kd n s g vh vc q x) (h3:SmR x) (h4:∀ r H',Same H H'→FrAt a.Fraction H' r (cZ kd x)→Q (.ref r) H'):IspGain a kd vs H Q
def fF (a:Ad) (kd:Kd):Sp:=fun vs H Q _=>IspGain a kd vs H Q
theorem hJ {kd:Kd}:∀ vs H Q E,fF a kd vs H Q E→vs.length=(["self"]:List Str).length:=fun vs H Q E h=>by
 obtain ⟨_,_,_,_,_,_,_,_,rfl,_⟩:=h
 rfl
theorem gain_Way (T:TX K mg a):MtB P w K mg base CX0 a.Way "gain" 7 ["self"] (fF a .way):=by
 refine T.m_Way_gain.ok sc_Way_gain hJ (fun f cdv A outer s₀ H vs Q E hr h=>?_)
 obtain ⟨p,n,s,g,vh,vc,q,x,rfl,W,sx,k⟩:=h
 refine ⟨_,(ai (aw (b7 (mk1 T) hr T.mg_Fraction aq (aa af ac)))),?_⟩
 try dsimp only [aS,Cx.nox,Cx.wish]
 walk_at "rd"
 exact ⟨by decide,sm1,fun r H1 _ s1 f1=>k r H1 s1 f1⟩
theorem gain_Growing (T:TX K mg a):MtB P w K mg base CX0 a.Growing "gain" 7 ["self"] (fF a .gro):=by
 refine T.m_Growing_gain.ok sc_Growing_gain hJ (fun f cdv A outer s₀ H vs Q E hr h=>?_)
 obtain ⟨p,n,s,g,vh,vc,q,x,rfl,W,sx,k⟩:=h
 refine ⟨_,(ai (aw (bc (pv 0) rfl))),?_⟩
 try dsimp only [aS,Cx.nox,Cx.wish]
 obtain ⟨dx,fs,ho,h5,hl⟩:=W.ob
 exact ⟨_,rfl,p,_,dx,fs,_,rfl,ho,T.wG.cl,T.na_Growing_rate,hl (by nofun),k q H (Same.refl _) (W.fq (by nofun))⟩
theorem b_gainL (T:TX K mg a) (kd:Kd) (C:Addr) (hC:kd.C a=C) (hk:kd≠.way) (hf:kd.f = "loss") (hg:∀ x,cZ kd x=1-x) (cl:Cls K C) (nl:NoAttr K C "loss"):fo P w K mg base "Leaking.gain" bg ["self"] 6 (fF a kd):=by
 intro f cdv A outer s₀ H vs Q E hr h
 obtain ⟨p,n,s,g,vh,vc,q,x,rfl,W,sx,k⟩:=h
 refine ⟨_,(ai (aw (eG T.fr (b7 (mk1 T) hr T.mg_Fraction aq (aa af ac)) (ok_minus T) hr aq (aa (bc (pv 0) rfl) ac)))),?_⟩
 try dsimp only [aS,Cx.nox,Cx.wish]
 obtain ⟨dx,fs,ho,h5,hl⟩:=W.ob
 have hl:=hl hk
 rw [hf] at hl
 rw [hC] at ho
 walk_at "rd"
 refine ⟨by decide,sm1,fun r H1 nr s1 f1=>?_⟩
 have e1:Rat.divInt 1 1=1:=rfl
 rw [e1] at f1
 have s2:SmR (1:Rat):=⟨sm1,sm1⟩
 have ho1:=s1 _ _ ho
 have fq1:=(W.fq hk).mono s1
 walk_at "rd"
 intro r2 H2 nr2 s22 f2
 refine k r2 H2 (s1.trans s22) ?_
 rw [hg]
 exact f2
theorem gain_Leaking (T:TX K mg a):MtB P w K mg base CX0 a.Leaking "gain" 7 ["self"] (fF a .lea):=T.m_Leaking_gain.ok ft hJ (b_gainL T .lea _ rfl (by nofun) rfl (fun _=>rfl) T.wL.cl T.na_Leaking_loss)
theorem gain_Store (T:TX K mg a):MtB P w K mg base CX0 a.Store "gain" 7 ["self"] (fF a .sto):=T.m_Store_gain.ok ft hJ (b_gainL T .sto _ rfl (by nofun) rfl (fun _=>rfl) T.wS.cl T.na_Store_loss)
theorem gain_any (T:TX K mg a) (kd:Kd):MtB P w K mg base CX0 (kd.C a) "gain" 7 ["self"] (fF a kd):=by
 cases kd
 ·exact gain_Way T
 ·exact gain_Growing T
 ·exact gain_Leaking T
 ·exact gain_Store T
inductive IspOut (a:Ad) (kd:Kd) (vs:List V) (H:Hp) (Q:VK):Prop
 | mk (p r:Addr) (n s g:Str) (vh vc:V) (q:Addr) (x y:Rat) (h1:vs=[.ref p,.ref r]) (h2:WayAt a H p kd n s g vh vc q x) (h3:FrAt a.Fraction H r y) (h4:SmR x) (h5:SmR y) (h6:SmR (cZ kd x)) (h7:∀ r' H',Same H H'→FrAt a.Fraction H' r' (y*cZ kd x)→Q (.ref r') H'):IspOut a kd vs H Q
def spOut (a:Ad) (kd:Kd):Sp:=fun vs H Q _=>IspOut a kd vs H Q
theorem len_Out {kd:Kd}:∀ vs H Q E,spOut a kd vs H Q E→vs.length=(["self","amount"]:List Str).length:=fun vs H Q E h=>by
 obtain ⟨_,_,_,_,_,_,_,_,_,_,rfl,_⟩:=h
 rfl
theorem b_out (T:TX K mg a) (kd:Kd):fo P w K mg base "Way.out" ci ["self","amount"] 7 (spOut a kd):=by
 intro f cdv A outer s₀ H vs Q E hr h
 obtain ⟨p,r,n,s,g,vh,vc,q,x,y,rfl,W,fr,sx,sy,sg,k⟩:=h
 refine ⟨_,(ai (aw (eG T.fr (pv 1) (ok_times T) hr aq (aa (et (CX:=CX0) (pv 0) hr aq) ac)))),?_⟩
 try dsimp only [aS,Cx.nox,Cx.wish]
 obtain ⟨dx,fs,ho,h5,hl⟩:=W.ob
 refine ⟨_,rfl,r,y,rfl,fr,_,rfl,p,kd.C a,dx,fs,7,["self"],fF a kd,rfl,ho,h5.ga,(dR T kd).cl,by decide,gain_any T kd,p,n,s,g,vh,vc,q,x,rfl,W,sx,fun r1 H1 s1 f1=>?_⟩
 exact ⟨r,r1,y,_,rfl,fr.mono s1,f1,sy,sg,trivial,fun r2 H2 _ s2 f2=>k r2 H2 (s1.trans s2) f2⟩
theorem out_any (T:TX K mg a) (kd:Kd):MtB P w K mg base CX0 (kd.C a) "out" 8 ["self","amount"] (spOut a kd):=by
 cases kd
 ·exact T.m_Way_out.ok eY len_Out (b_out T _)
 ·exact T.m_Growing_out.ok eY len_Out (b_out T _)
 ·exact T.m_Leaking_out.ok eY len_Out (b_out T _)
 ·exact T.m_Store_out.ok eY len_Out (b_out T _)
structure WD where
 nm:Str
 st:Str
 go:Str
 kd:Kd
 x:Rat
 hi:Option Rat
 co:Rat
def HiT (a:Ad) (H:Hp) (v:V):Option Rat→Prop
 | none=>v=.non
 | some x=>∃ q,v=.ref q∧FrAt a.Fraction H q x
theorem HiT.mono {H H':Hp} {v:V} {o:Option Rat} (h:HiT a H v o) (s:Same H H'):HiT a H' v o:=by
 cases o with
 | none=>exact h
 | some x=>exact let ⟨q,e,f⟩:=h;⟨q,e,f.mono s⟩
theorem HiT.keep {H H':Hp} {v:V} {o:Option Rat} (h:HiT a H v o) (s:Stays a H H'):HiT a H' v o:=by
 cases o with
 | none=>exact h
 | some x=>exact let ⟨q,e,f⟩:=h;⟨q,e,s.fr f⟩
def WayIs (a:Ad) (H:Hp) (v:V) (d:WD):Prop:=∃ p vh vc q,v=.ref p∧WayAt a H p d.kd d.nm d.st d.go vh vc q d.x∧d.kd≠.sto∧(∃ qc,vc=.ref qc∧FrAt a.Fraction H qc d.co)∧HiT a H vh d.hi
theorem WayIs.mono {H H':Hp} {v:V} {d:WD} (h:WayIs a H v d) (s:Same H H'):WayIs a H' v d:=let ⟨p,vh,vc,q,e,W,k,⟨qc,ec,fc⟩,hh⟩:=h;⟨p,vh,vc,q,e,W.mono s,k,⟨qc,ec,fc.mono s⟩,hh.mono s⟩
def RowAt {α:Type} (R:Hp→V→α→Prop) (H:Hp) (ts:List V) (xs:List α):Prop:=ts.length=xs.length∧∀ (i:Nat) (t:V) (x:α),ts[i]?=some t→xs[i]?=some x→R H t x
theorem RowAt.mono {α:Type} {R:Hp→V→α→Prop} {H H':Hp} {ts:List V} {xs:List α} (hR:∀ v x,R H v x→R H' v x) (h:RowAt R H ts xs):RowAt R H' ts xs:=⟨h.1,fun i t x h1 h2=>hR t x (h.2 i t x h1 h2)⟩
theorem RowAt.nil {α:Type} {R:Hp→V→α→Prop} {H:Hp}:RowAt R H [] []:=⟨rfl,fun i t x h=>by simp at h⟩
theorem RowAt.snoc {α:Type} {R:Hp→V→α→Prop} {H:Hp} {ts:List V} {xs:List α} {t:V} {x:α} (d:RowAt R H ts xs) (hf:R H t x):RowAt R H (ts++[t]) (xs++[x]):=by
 refine ⟨by rw [List.length_append,List.length_append,d.1];rfl,fun i u z h1 h2=>?_⟩
 by_cases hi:i<ts.length
 ·rw [List.getElem?_append_left hi] at h1
  rw [List.getElem?_append_left (by rw [← d.1];exact hi)] at h2
  exact d.2 i u z h1 h2
 ·rw [List.getElem?_append_right (by omega)] at h1
  rw [List.getElem?_append_right (by rw [← d.1];omega),← d.1] at h2
  have hz:i-ts.length=0:=by
   have:=(List.getElem?_eq_some_iff.mp h1).1
   simp at this
   omega
  rw [hz] at h1 h2
  simp at h1 h2
  subst h1 h2
  exact hf
theorem RowAt.get {α:Type} {R:Hp→V→α→Prop} {H:Hp} {ts:List V} {xs:List α} {i:Nat} {t:V} (d:RowAt R H ts xs) (h:ts[i]?=some t):∃ x,xs[i]?=some x∧R H t x:=by
 have hi:i<xs.length:=by rw [← d.1];exact (List.getElem?_eq_some_iff.mp h).1
 exact ⟨xs[i],List.getElem?_eq_getElem hi,d.2 i t _ h (List.getElem?_eq_getElem hi)⟩
theorem RowAt.get' {α:Type} {R:Hp→V→α→Prop} {H:Hp} {ts:List V} {xs:List α} {i:Nat} {x:α} (d:RowAt R H ts xs) (h:xs[i]?=some x):∃ t,ts[i]?=some t∧R H t x:=by
 have hi:i<ts.length:=by rw [d.1];exact (List.getElem?_eq_some_iff.mp h).1
 exact ⟨ts[i],List.getElem?_eq_getElem hi,d.2 i _ x (List.getElem?_eq_getElem hi) h⟩
def PlIs (a:Ad) (H:Hp) (v:V) (p:Str × Rat):Prop:=∃ t q,v=.ref t∧H t=some (.tup [.str p.1,.ref q])∧FrAt a.Fraction H q p.2
theorem PlIs.mono {H H':Hp} {v:V} {p:Str × Rat} (h:PlIs a H v p) (s:Same H H'):PlIs a H' v p:=let ⟨t,q,e,h1,h2⟩:=h;⟨t,q,e,s _ _ h1,h2.mono s⟩
theorem aj {H:Hp} {d:Addr} {o:HO} (h:H d=none):Same H (upd H d o):=fun b u e=>by rw [ak (aE e h)];exact e
theorem aP {H H':Hp} {d:Addr} {o:HO} (h:H d=none) (s:Same H H'):Same H (upd H' d o):=fun b u e=>by rw [ak (aE e h)];exact s _ _ e
theorem gK {κ:Type} [DecidableEq κ] {kvs:List (κ × V)} {k:κ} (h:¬ k∈kvs.map (·.1)):bP kvs k=none:=by
 cases e:bP kvs k with
 | none=>rfl
 | some v=>exact absurd (valV_in e) h
theorem val_some {κ:Type} [DecidableEq κ] {kvs:List (κ × V)} {k:κ} (h:k∈kvs.map (·.1)):∃ v,bP kvs k=some v:=by
 cases e:bP kvs k with
 | none=>exact absurd h (valV_not e)
 | some v=>exact ⟨v,rfl⟩
def WantsAt (a:Ad) (H:Hp) (d:Addr) (ps:List (Str × Rat)):Prop:=∃ kvs,H d=some (.dK kvs)∧kvs.map (·.1)=ps.map (fun p=>Sum.inr p.1)∧RowAt (fun H v x=>∃ q,v=.ref q∧FrAt a.Fraction H q x) H (kvs.map (·.2)) (ps.map (·.2))
theorem WantsAt.mono {H H':Hp} {d:Addr} {ps:List (Str × Rat)} (h:WantsAt a H d ps) (s:Same H H'):WantsAt a H' d ps:=
 let ⟨kvs,h1,h2,h3⟩:=h;⟨kvs,s _ _ h1,h2,h3.mono fun v x ⟨q,e,f⟩=>⟨q,e,f.mono s⟩⟩
inductive IspWants (K:PySem.W.Frag) (a:Ad) (vs:List V) (H:Hp) (Q:VK):Prop
 | mk (l:Addr) (ts:List V) (ps:List (Str × Rat)) (h1:vs=[.ref l]) (h2:SqL K H l ts) (h3:RowAt (PlIs a) H ts ps) (h4:(ps.map (·.1)).Nodup) (h5:ps.length≤1000) (h6:∀ d H',H d=none→Same H H'→WantsAt a H' d ps→Q (.ref d) H'):IspWants K a vs H Q
def spWants (K:PySem.W.Frag) (a:Ad):Sp:=fun vs H Q _=>IspWants K a vs H Q
theorem ok_wants_by_name (T:TX K mg a):FnB P w K mg base CX0 "wants_by_name" 1 ["places"] (spWants K a):=by
 refine T.d_wants_by_name.ok sc_wants_by_name (fun vs H Q E h=>?_) (fun f cdv A outer s H vs Q E hr h=>?_)
 ·obtain ⟨_,_,_,rfl,_⟩:=h
  rfl
 ·obtain ⟨l,ts,ps,rfl,hS,hp,nd,hlen,k⟩:=h
  refine ⟨_,(ae (ar (i:=1) sc_wants_by_name.nd rfl (Or.inl rfl) eS)
   (ae (bu PassesOwn.never rfl (bH (pv 0)) (gv rfl (aQ (aA (i:=2) sc_wants_by_name.nd rfl (Or.inl rfl)) (aQ (aA (i:=3) sc_wants_by_name.nd rfl (Or.inl rfl)) dN))) (ae (aC (gu (pc_din (cm hr) (pv 2) (pv 1))) (ai bX) al)
   (ai (d9 (cm hr) (pv 1) (pv 2) (pv 3) rfl))))
   (ai (aw (pv 1))))),?_⟩
  try dsimp only [aS,Cx.nox,Cx.wish]
  intro d nd0
  have s0:Same H (upd H d (.dK [])):=aj nd0
  refine ⟨_,rfl,l,rfl,⟨_,s0.seq hS⟩,bO (K:=K) (a:=l) (xs:=ts) (fun i σ H2=>i≤ps.length∧∃ z2 z3,σ=[some (.ref l),some (.ref d),z2,z3]∧Same H H2∧WantsAt a H2 d (ps.take i)) ⟨Nat.zero_le _,_,_,rfl,s0,[],ad,rfl,RowAt.nil⟩ (fun i σ H2 _ ⟨_,_,_,_,s2,_⟩=>s2.seq hS) ?_ ?_⟩
  ·rintro i t σ H2 ht ⟨hi,z2,z3,rfl,s2,kvs,hd,hk,hv⟩
   obtain ⟨p,ep,t',q,rfl,h1,h2⟩:=hp.get ht
   have hi':i<ps.length:=(List.getElem?_eq_some_iff.mp ep).1
   have nk:¬ (Sum.inr p.1:Key)∈kvs.map (·.1):=by
    rw [hk]
    intro m
    obtain ⟨p',hp',e⟩:=List.mem_map.mp m
    have e:p'.1=p.1:=Sum.inr.inj e
    obtain ⟨j,hj⟩:=List.mem_iff_getElem?.mp hp'
    have hj2:j<i:=by
     have:=(List.getElem?_eq_some_iff.mp hj).1
     rw [List.length_take] at this
     omega
    rw [List.getElem?_take,if_pos hj2] at hj
    have g1:(ps.map (·.1))[j]?=some p.1:=by rw [List.getElem?_map,hj,Option.map_some,e]
    have g2:(ps.map (·.1))[i]?=some p.1:=by rw [List.getElem?_map,ep,Option.map_some]
    have:=(List.getElem?_inj (by rw [List.length_map];omega) nd).mp (g1.trans g2.symm)
    omega
   refine ⟨t',[.str p.1,.ref q],rfl,SqT.of (s2 _ _ h1),rfl,.str p.1,[.ref q],rfl,⟨.ref q,[],rfl,⟨rfl,?_⟩⟩⟩
   refine ⟨_,rfl,_,rfl,d,_,rfl,DGet.k (k:=Sum.inr p.1) hd,_,rfl,?_⟩
   rw [gK nk]
   refine iteF ?_
   have hl:kvs.length=i:=by
    have:=congrArg List.length hk
    rw [List.length_map,List.length_map,List.length_take] at this
    omega
   refine ⟨_,rfl,_,rfl,_,rfl,d,_,rfl,DPut.k (k:=Sum.inr p.1) hd (aL (by omega)),?_⟩
   rw [putK_new _ (gK nk)]
   have s3:=aP (o:=.dK (kvs++[(Sum.inr p.1,.ref q)])) nd0 s2
   refine ⟨hi',_,_,rfl,s3,kvs++[(Sum.inr p.1,.ref q)],ad,?_,?_⟩
   ·rw [List.map_append,hk,List.take_add_one,ep,Option.toList_some,List.map_append]
    rfl
   ·rw [List.map_append,List.take_add_one,ep,Option.toList_some,List.map_append]
    refine RowAt.snoc (hv.mono fun v x ⟨q',e,dq,f⟩=>⟨q',e,dq,?_⟩) ⟨q,rfl,h2.mono s3⟩
    rw [ak (cS f hd (by intro z;cases z))]
    exact f
  ·rintro σ H2 ⟨_,z2,z3,rfl,s2,hw⟩
   rw [hp.1,List.take_length] at hw
   exact ⟨_,rfl,k d H2 nd0 s2 hw⟩
inductive IspCheck (a:Ad) (vs:List V) (H:Hp) (Q:VK):Prop
 | mk (v:V) (d:WD) (da dw:Addr) (ka kw:List (Key × V)) (h1:vs=[v,.ref da,.ref dw]) (h2:WayIs a H v d) (h3:H da=some (.dK ka)) (h4:H dw=some (.dK kw)) (h5:¬ (Sum.inr d.nm:Key)∈ka.map (·.1)) (h6:(Sum.inr d.st:Key)∈kw.map (·.1)) (h7:(Sum.inr d.go:Key)∈kw.map (·.1)) (h8:∀ H',Same H H'→Q .non H'):IspCheck a vs H Q
def spCheck (a:Ad):Sp:=fun vs H Q _=>IspCheck a vs H Q
theorem noStore (T:TX K mg a) {kd:Kd} (h:kd≠.sto):PySem.W.kitOne K (.ref (kd.C a)) (.ref a.Store)=some false:=by
 cases kd
 ·exact T.k_Way_Store
 ·exact T.k_Growing_Store
 ·exact T.k_Leaking_Store
 ·exact absurd rfl h
theorem tyWay (T:TX K mg a) {H:Hp} {p dx:Addr} {fs:List (Str × V)} {kd:Kd} (h:H p=some (.ins (kd.C a) dx fs)):TyOf K H (.ref p) (.ref (kd.C a)):=by
 have c:=(dR T kd).cl
 cases kd
 ·exact TyOf.ins h c T.c1_Way T.c2 T.c3 T.c4_Way
 ·exact TyOf.ins h c T.c1_Growing T.c2 T.c3 T.c4_Growing
 ·exact TyOf.ins h c T.c1_Leaking T.c2 T.c3 T.c4_Leaking
 ·exact TyOf.ins h c T.c1_Store T.c2 T.c3 T.c4_Store
theorem ok_check_way (T:TX K mg a):FnB P w K mg base CX0 "check_way" 1 ["way","ahead","wants"] (spCheck a):=by
 refine T.d_check_way.ok sc_check_way (fun vs H Q E h=>?_) (fun f cdv A outer s H vs Q E hr h=>?_)
 ·obtain ⟨_,_,_,_,_,_,rfl,_⟩:=h
  rfl
 ·obtain ⟨v,d,da,dw,ka,kw,rfl,⟨p,vh,vc,q,rfl,W,hk⟩,ha,hw,n1,n2,n3,k⟩:=h
  refine ⟨_,(ae (aC (aJ (am (eX (c:=.ref a.Store)) (by rfl) T.z_isinstance PyProof.Rows.boot_isinstance (aa (pv 0) (aa (aM (v:=.ref a.Store) (by rfl) T.mg_Store rfl) ac)))) (ai bX) al)
   (ae (aC (gu (pc_din (cm hr) (bc (pv 0) rfl) (pv 1))) (ai bX) al)
   (ai (bu PassesOwn.never rfl (pi_tup (aR (aa (bc (pv 0) rfl) (aa (bc (pv 0) rfl) ac)))) (aA (i:=3) sc_check_way.nd rfl (Or.inl rfl)) (ai (aC (gu (eT (cm hr) (pv 3) (pv 2))) (ai bX) al)))))),?_⟩
  try dsimp only [aS,Cx.nox,Cx.wish]
  obtain ⟨dx,fs,ho,h5,_⟩:=W.ob
  have c:=dR T d.kd
  refine ⟨_,rfl,_,_,_,_,rfl,(fun u h=>h),tyWay T ho,noStore T hk.1,_,rfl,iteF ?_⟩
  refine ⟨_,rfl,p,_,dx,fs,_,rfl,ho,c.cl,c.n1,h5.nm,_,rfl,da,_,rfl,DGet.k (k:=Sum.inr d.nm) ha,_,rfl,?_⟩
  rw [gK n1]
  refine iteF ?_
  refine ⟨_,rfl,p,_,dx,fs,_,rfl,ho,c.cl,c.n2,h5.st,_,rfl,p,_,dx,fs,_,rfl,ho,c.cl,c.n3,h5.go,by show 2≤sizeLine;decide,fun t nt=>?_⟩
  have s1:=aj (o:=.tup [.str d.st,.str d.go]) nt
  refine ⟨t,rfl,⟨_,SqT.of ad⟩,for_tup (K:=K) (a:=t) (xs:=[.str d.st,.str d.go]) (fun i σ H2=>∃ z,σ=[some (.ref p),some (.ref da),some (.ref dw),z]∧H2=upd H t (.tup [.str d.st,.str d.go])) ⟨_,rfl,rfl⟩ (fun i σ H2 _ ⟨_,_,e⟩=>by rw [e];exact SqT.of ad) ?_ ?_⟩
  ·rintro i x σ H2 hx ⟨z,rfl,rfl⟩
   have hx:∃ y,x=.str y∧(Sum.inr y:Key)∈kw.map (·.1):=by
    match i,hx with
    | 0,hx=>exact ⟨d.st,(Option.some.inj hx).symm,n2⟩
    | 1,hx=>exact ⟨d.go,(Option.some.inj hx).symm,n3⟩
    | i+2,hx=>simp at hx
   obtain ⟨y,rfl,hy⟩:=hx
   obtain ⟨u,hu⟩:=val_some hy
   refine ⟨_,rfl,_,rfl,dw,_,rfl,DGet.k (k:=Sum.inr y) (s1 _ _ hw),_,rfl,?_⟩
   rw [hu]
   exact iteF ⟨_,rfl,rfl⟩
  ·rintro σ H2 ⟨z,rfl,rfl⟩
   exact k _ s1
def WaysAt (a:Ad) (H:Hp) (d:Addr) (ds:List WD):Prop:=∃ kvs,H d=some (.dK kvs)∧kvs.map (·.1)=ds.map (fun x=>Sum.inr x.nm)∧RowAt (WayIs a) H (kvs.map (·.2)) ds
theorem WaysAt.mono {H H':Hp} {d:Addr} {ds:List WD} (h:WaysAt a H d ds) (s:Same H H'):WaysAt a H' d ds:=
 let ⟨kvs,h1,h2,h3⟩:=h;⟨kvs,s _ _ h1,h2,h3.mono fun v x z=>z.mono s⟩
inductive IspWaysBy (K:PySem.W.Frag) (a:Ad) (vs:List V) (H:Hp) (Q:VK):Prop
 | mk (l dw:Addr) (ts:List V) (ds:List WD) (ps:List (Str × Rat)) (h1:vs=[.ref l,.ref dw]) (h2:SqL K H l ts) (h3:RowAt (WayIs a) H ts ds) (h4:WantsAt a H dw ps) (h5:(ds.map (·.nm)).Nodup) (h6:ds.length≤1000) (h7:(∀ d∈ds,d.st∈ps.map (·.1)∧d.go∈ps.map (·.1))) (h8:∀ d H',H d=none→Same H H'→WaysAt a H' d ds→Q (.ref d) H'):IspWaysBy K a vs H Q
def spWaysBy (K:PySem.W.Frag) (a:Ad):Sp:=fun vs H Q _=>IspWaysBy K a vs H Q
theorem WayIs.keep {H H':Hp} {v:V} {x:WD} (h:WayIs a H v x) (k:Stays a H H'):WayIs a H' v x:=let ⟨p,vh,vc,q,e,W,hk,⟨qc,ec,fc⟩,hh⟩:=h;⟨p,vh,vc,q,e,W.keep k,hk,⟨qc,ec,k.fr fc⟩,hh.keep k⟩
theorem WayIs.put {H:Hp} {v:V} {x:WD} {d:Addr} {kvs:List (Key × V)} {o:HO} (h:WayIs a H v x) (hd:H d=some (.dK kvs)):WayIs a (upd H d o) v x:=h.keep (.put hd (by intro _ _ _ z;cases z))
theorem nodup_take {α β:Type} {xs:List α} {f:α→β} {i:Nat} {x:α} (nd:(xs.map f).Nodup) (e:xs[i]?=some x):¬ f x∈(xs.take i).map f:=by
 intro m
 obtain ⟨y,hy,ef⟩:=List.mem_map.mp m
 obtain ⟨j,hj⟩:=List.mem_iff_getElem?.mp hy
 have hi:=(List.getElem?_eq_some_iff.mp e).1
 have hj2:j<i:=by
  have:=(List.getElem?_eq_some_iff.mp hj).1
  rw [List.length_take] at this
  omega
 rw [List.getElem?_take,if_pos hj2] at hj
 have g1:(xs.map f)[j]?=some (f x):=by rw [List.getElem?_map,hj,Option.map_some,ef]
 have g2:(xs.map f)[i]?=some (f x):=by rw [List.getElem?_map,e,Option.map_some]
 have:=(List.getElem?_inj (by rw [List.length_map];omega) nd).mp (g1.trans g2.symm)
 omega
theorem inr_mem {n:Str} {ns:List Str}:(Sum.inr n:Key)∈ns.map (fun x=>(Sum.inr x:Key))↔n∈ns:=by
 constructor
 ·intro h
  obtain ⟨y,hy,e⟩:=List.mem_map.mp h
  rw [← Sum.inr.inj e]
  exact hy
 ·exact fun h=>List.mem_map.mpr ⟨n,h,rfl⟩
theorem ok_ways_by_name (T:TX K mg a):FnB P w K mg base CX0 "ways_by_name" 2 ["ways","wants"] (spWaysBy K a):=by
 refine T.d_ways_by_name.ok sc_ways_by_name (fun vs H Q E h=>?_) (fun f cdv A outer s H vs Q E hr h=>?_)
 ·obtain ⟨_,_,_,_,_,rfl,_⟩:=h
  rfl
 ·obtain ⟨l,dw,ts,ds,ps,rfl,hS,hp,hw,nd,hlen,hin,k⟩:=h
  refine ⟨_,(ae (ar (i:=2) sc_ways_by_name.nd rfl (Or.inl rfl) eS)
   (ae (bu PassesOwn.never rfl (bH (pv 0)) (aA (i:=3) sc_ways_by_name.nd rfl (Or.inl rfl)) (ae (aI (aG (ok_check_way T) hr aq (aa (pv 3) (aa (pv 2) (aa (pv 1) ac)))))
   (ai (d9 (cm hr) (pv 2) (bc (pv 3) rfl) (pv 3) rfl))))
   (ai (aw (pv 2))))),?_⟩
  try dsimp only [aS,Cx.nox,Cx.wish]
  intro d nd0
  have s0:Same H (upd H d (.dK [])):=aj nd0
  refine ⟨_,rfl,l,rfl,⟨_,s0.seq hS⟩,bO (K:=K) (a:=l) (xs:=ts) (fun i σ H2=>i≤ds.length∧∃ z3,σ=[some (.ref l),some (.ref dw),some (.ref d),z3]∧Same H H2∧WaysAt a H2 d (ds.take i)) ⟨Nat.zero_le _,_,rfl,s0,[],ad,rfl,RowAt.nil⟩ (fun i σ H2 _ ⟨_,_,_,s2,_⟩=>s2.seq hS) ?_ ?_⟩
  ·rintro i t σ H2 ht ⟨hi,z3,rfl,s2,kvs,hd,hk,hv⟩
   obtain ⟨x,ex,hx⟩:=hp.get ht
   have hi':i<ds.length:=(List.getElem?_eq_some_iff.mp ex).1
   have nk:¬ (Sum.inr x.nm:Key)∈kvs.map (·.1):=by
    rw [hk]
    have:=nodup_take (f:=fun z:WD=>(Sum.inr z.nm:Key)) (by
     rw [show (fun z:WD=>(Sum.inr z.nm:Key))=(fun n=>(Sum.inr n:Key)) ∘ (fun z:WD=>z.nm) from rfl,← List.map_map]
     exact nd.map _ (fun u v h e=>h (Sum.inr.inj e))) ex
    exact this
   obtain ⟨kw,hkw,ekw,_⟩:=hw.mono s2
   obtain ⟨i1,i2⟩:=hin x (List.mem_of_getElem? ex)
   have ekw':kw.map (·.1)=(ps.map (·.1)).map (fun n=>(Sum.inr n:Key)):=by rw [ekw,List.map_map];rfl
   refine ⟨_,rfl,_,rfl,_,rfl,t,x,d,dw,kvs,kw,rfl,hx.mono s2,hd,hkw,nk,by rw [ekw'];exact inr_mem.mpr i1,by rw [ekw'];exact inr_mem.mpr i2,fun H3 s3=>?_⟩
   have hd3:=s3 _ _ hd
   have hx3:=hx.mono (s2.trans s3)
   obtain ⟨p,vh,vc,q,rfl,W,hkd⟩:=id hx3
   obtain ⟨dx,fs,ho,h5,_⟩:=W.ob
   have c:=dR T x.kd
   have hl:kvs.length=i:=by
    have:=congrArg List.length hk
    rw [List.length_map,List.length_map,List.length_take] at this
    omega
   refine ⟨_,rfl,_,rfl,_,rfl,p,_,dx,fs,_,rfl,ho,c.cl,c.n1,h5.nm,d,_,rfl,DPut.k (k:=Sum.inr x.nm) hd3 (aL (by omega)),?_⟩
   rw [putK_new _ (gK nk)]
   have s4:=aP (o:=.dK (kvs++[(Sum.inr x.nm,.ref p)])) nd0 (s2.trans s3)
   refine ⟨hi',_,rfl,s4,kvs++[(Sum.inr x.nm,.ref p)],ad,?_,?_⟩
   ·rw [List.map_append,hk,List.take_add_one,ex,Option.toList_some,List.map_append]
    rfl
   ·rw [List.map_append,List.take_add_one,ex,Option.toList_some]
    exact RowAt.snoc (hv.mono fun v y z=>(z.mono s3).put hd3) (hx3.put hd3)
  ·rintro σ H2 ⟨_,z3,rfl,s2,hw2⟩
   rw [hp.1,List.take_length] at hw2
   exact ⟨_,rfl,k d H2 nd0 s2 hw2⟩
def fsN (dw dy:Addr):List (Str × V):=[("wants",.ref dw),("ways",.ref dy)]
theorem fsN_new (dw dy:Addr):bQ "ways" (.ref dy) (bQ "wants" (.ref dw) [])=fsN dw dy:=by
 show (if ("wants":Str) = "ways" then _ else (("wants":Str),V.ref dw)::[(("ways":Str),V.ref dy)])=fsN dw dy
 rw [if_neg (by decide +kernel)]
 rfl
theorem fsN_w (dw dy:Addr):(fsN dw dy).lookup ("wants":Str)=some (.ref dw):=rfl
theorem fsN_y (dw dy:Addr):(fsN dw dy).lookup ("ways":Str)=some (.ref dy):=by
 show List.lookup ("ways":Str) [(("wants":Str),V.ref dw),("ways",V.ref dy)]=_
 rw [List.lookup_cons,show (("ways":Str) == "wants")=false by decide +kernel]
 rfl
theorem dH (dw dy:Addr) {m:Str} (h1:(m == "wants")=false) (h2:(m == "ways")=false):(fsN dw dy).lookup m=none:=by
 show List.lookup m [(("wants":Str),V.ref dw),("ways",V.ref dy)]=_
 rw [List.lookup_cons,h1,List.lookup_cons,h2]
 rfl
def NetAt (a:Ad) (H:Hp) (p:Addr) (ps:List (Str × Rat)) (ds:List WD):Prop:=∃ dx dw dy,H p=some (.ins a.Net dx (fsN dw dy))∧WantsAt a H dw ps∧WaysAt a H dy ds
theorem NetAt.mono {H H':Hp} {p:Addr} {ps:List (Str × Rat)} {ds:List WD} (h:NetAt a H p ps ds) (s:Same H H'):NetAt a H' p ps ds:=let ⟨dx,dw,dy,e,h1,h2⟩:=h;⟨dx,dw,dy,s _ _ e,h1.mono s,h2.mono s⟩
structure NetOk (ps:List (Str × Rat)) (ds:List WD):Prop where
 np:(ps.map (·.1)).Nodup
 lp:ps.length≤12
 nd:(ds.map (·.nm)).Nodup
 ld:ds.length≤24
 io:∀ d∈ds,d.st∈ps.map (·.1)∧d.go∈ps.map (·.1)
inductive IspNetI (K:PySem.W.Frag) (a:Ad) (vs:List V) (H:Hp) (Q:VK):Prop
 | mk (p dx lp lw:Addr) (tp tw:List V) (ps:List (Str × Rat)) (ds:List WD) (h1:vs=[.ref p,.ref lp,.ref lw]) (h2:H p=some (.ins a.Net dx [])) (h3:SqL K H lp tp) (h4:RowAt (PlIs a) H tp ps) (h5:SqL K H lw tw) (h6:RowAt (WayIs a) H tw ds) (h7:NetOk ps ds) (h8:∀ H',(∀ b o,H b=some o→b≠p→H' b=some o)→NetAt a H' p ps ds→Q .non H'):IspNetI K a vs H Q
def spNetI (K:PySem.W.Frag) (a:Ad):Sp:=fun vs H Q _=>IspNetI K a vs H Q
theorem WantsAt.ins {H:Hp} {d p C dx:Addr} {fs gs:List (Str × V)} {ps:List (Str × Rat)} (h:WantsAt a H d ps) (hp:H p=some (.ins C dx fs)) (hC:C≠a.Fraction):WantsAt a (upd H p (.ins C dx gs)) d ps:=by
 obtain ⟨kvs,h1,h2,h3⟩:=h
 refine ⟨kvs,by rw [ak (cS h1 hp (by intro z;cases z))];exact h1,h2,h3.mono fun v x ⟨q,e,dq,f⟩=>⟨q,e,dq,?_⟩⟩
 rw [ak (cS f hp (by intro z;cases z;exact hC rfl))]
 exact f
theorem Stays.ins {H:Hp} {p C dx:Addr} {fs gs:List (Str × V)} (hp:H p=some (.ins C dx fs)) (hC:C≠a.Fraction∧∀ kd:Kd,C≠kd.C a):Stays a H (upd H p (.ins C dx gs)):=fun b C' dx' fs' h e=>by
 rw [ak (cS e hp fun z=>?_)]
 ·exact e
 ·have ec:=(HO.ins.inj z).1
  rcases h with rfl | ⟨kd,rfl⟩
  ·exact hC.1 ec.symm
  ·exact hC.2 kd ec.symm
theorem WaysAt.ins {H:Hp} {d p C dx:Addr} {fs gs:List (Str × V)} {ds:List WD} (h:WaysAt a H d ds) (hp:H p=some (.ins C dx fs)) (hC:C≠a.Fraction∧∀ kd:Kd,C≠kd.C a):WaysAt a (upd H p (.ins C dx gs)) d ds:=by
 obtain ⟨kvs,h1,h2,h3⟩:=h
 exact ⟨kvs,by rw [ak (cS h1 hp (by intro z;cases z))];exact h1,h2,h3.mono fun v x z=>z.keep (.ins hp hC)⟩
theorem netC (T:TX K mg a):a.Net≠a.Fraction∧∀ kd:Kd,a.Net≠kd.C a:=by
 have w1:a.Net≠a.Fraction:=fun e=>by
  have h:=T.na_Fraction_top
  have h2:=T.m_Fraction_times
  rw [← e] at h2
  obtain ⟨f,fd,_,⟨m,_,_⟩,_⟩:=h2
  cases T.no_Net_times.symm.trans m
 refine ⟨w1,fun kd e=>?_⟩
 have:=T.no_Net_out
 cases kd
 ·obtain ⟨f,fd,_,⟨m,_,_⟩,_⟩:=T.m_Way_out
  rw [show a.Way=a.Net from e.symm] at m
  cases this.symm.trans m
 ·obtain ⟨f,fd,_,⟨m,_,_⟩,_⟩:=T.m_Growing_out
  rw [show a.Growing=a.Net from e.symm] at m
  cases this.symm.trans m
 ·obtain ⟨f,fd,_,⟨m,_,_⟩,_⟩:=T.m_Leaking_out
  rw [show a.Leaking=a.Net from e.symm] at m
  cases this.symm.trans m
 ·obtain ⟨f,fd,_,⟨m,_,_⟩,_⟩:=T.m_Store_out
  rw [show a.Store=a.Net from e.symm] at m
  cases this.symm.trans m
theorem mk_Net (T:TX K mg a):MkB P w K mg base CX0 a.Net 4 ["self","places","ways"] [] (spNetI K a):=by
 refine T.i_Net.ok sc_Net_init (fun vs H Q E h=>?_) (fun f cdv A outer s H vs Q E hr h=>?_) _ (by simp)
 ·obtain ⟨_,_,_,_,_,_,_,_,rfl,_⟩:=h
  rfl
 ·obtain ⟨p,dx,lp,lw,tp,tw,ps,ds,rfl,hp,hS,hP,hL,hW,ok,k⟩:=h
  refine ⟨_,(ae (aC (PW.pt (cE (ax op_gt (am a0 (by rfl) T.z_len PySem.boot_len (aa (pv 1) ac)) (pe_gi T.gi_MOST_PLACES) (aD _)) (du (ax op_gt (am a0 (by rfl) T.z_len PySem.boot_len (aa (pv 2) ac)) (pe_gi T.gi_MOST_WAYS) (aD _))))) (ai bX) al)
   (ae (dv (pv 0) (aG (ok_wants_by_name T) hr aq (aa (pv 1) ac)) rfl)
   (ai (dv (pv 0) (aG (ok_ways_by_name T) hr aq (aa (pv 2) (aa (bc (pv 0) rfl) ac))) rfl)))),?_⟩
  try dsimp only [aS,Cx.nox,Cx.wish]
  have e1:(tp.length:Int)≤12:=by have:=ok.lp;rw [← hP.1] at this;omega
  have e2:(tw.length:Int)≤24:=by have:=ok.ld;rw [← hW.1] at this;omega
  refine ⟨_,rfl,lp,tp,rfl,.inl hS,_,_,rfl,rfl,_,rfl,c6 (decide_eq_false (by omega)) ?_⟩
  refine ⟨_,rfl,lw,tw,rfl,.inl hL,_,_,rfl,rfl,_,rfl,c6 (decide_eq_false (by omega)) ?_⟩
  refine ⟨_,rfl,lp,tp,ps,rfl,hS,hP,ok.np,Nat.le_trans ok.lp (by decide),fun dw H1 n1 s1 hw1=>?_⟩
  have hp1:=s1 _ _ hp
  refine ⟨_,rfl,p,a.Net,dx,[],rfl,hp1,T.cl_Net,T.na_Net_wants,by decide,?_⟩
  have hC:=netC T
  generalize hH2:upd H1 p (.ins a.Net dx (bQ "wants" (.ref dw) []))=H2
  have hp2:H2 p=some (.ins a.Net dx (bQ "wants" (.ref dw) [])):=by rw [← hH2];exact ad
  have hw2:WantsAt a H2 dw ps:=by rw [← hH2];exact hw1.ins hp1 hC.1
  have k2:∀ b o,H b=some o→b≠p→H2 b=some o:=fun b o e ne=>by rw [← hH2,ak ne];exact s1 _ _ e
  have hL2:SqL K H2 lw tw:=by
   rcases hL with (h | ⟨o,h⟩) | h
   ·exact .inl (.inl (k2 _ _ h (cS h hp (by intro z;cases z))))
   ·exact .inl (.inr ⟨o,k2 _ _ h (cS h hp (by intro z;cases z))⟩)
   ·exact .inr h
  have hW2:RowAt (WayIs a) H2 tw ds:=hW.mono fun v x z=>z.keep fun b C' dx' fs' h e=>k2 _ _ e (cS e hp fun y=>by
   have ec:=(HO.ins.inj y).1
   rcases h with rfl | ⟨kd,rfl⟩
   ·exact hC.1 ec.symm
   ·exact hC.2 kd ec.symm)
  refine ⟨_,rfl,_,rfl,p,_,dx,_,_,rfl,hp2,T.cl_Net,T.na_Net_wants,rfl,lw,dw,tw,ds,ps,rfl,hL2,hW2,hw2,ok.nd,Nat.le_trans ok.ld (by decide),ok.io,fun dy H3 n3 s3 hy3=>?_⟩
  have hp3:=s3 _ _ hp2
  refine ⟨_,rfl,p,a.Net,dx,_,rfl,hp3,T.cl_Net,T.na_Net_ways,Nat.lt_of_le_of_lt (bt (Nat.le_refl 0)) (by decide),?_⟩
  rw [fsN_new]
  refine k _ (fun b o e ne=>?_) ⟨dx,dw,dy,ad,(hw2.mono s3).ins hp3 hC.1,hy3.ins hp3 hC⟩
  rw [ak ne]
  exact s3 _ _ (k2 _ _ e ne)
theorem WaysAt.get {H:Hp} {dy:Addr} {ds:List WD} {d:WD} (h:WaysAt a H dy ds) (nd:(ds.map (·.nm)).Nodup) (hd:d∈ds):∃ kvs v,H dy=some (.dK kvs)∧bP kvs (Sum.inr d.nm)=some v∧WayIs a H v d:=by
 obtain ⟨kvs,h1,h2,h3⟩:=h
 obtain ⟨i,hi⟩:=List.mem_iff_getElem?.mp hd
 obtain ⟨t,ht,hw⟩:=h3.get' hi
 have hil:=(List.getElem?_eq_some_iff.mp hi).1
 rw [List.getElem?_map] at ht
 cases e:kvs[i]? with
 | none=>rw [e] at ht;cases ht
 | some kv=>
  rw [e] at ht
  have e2:kv.2=t:=Option.some.inj ht
  have e1:kv.1=Sum.inr d.nm:=by
   have g1:(kvs.map (·.1))[i]?=some kv.1:=by rw [List.getElem?_map,e];rfl
   rw [h2,List.getElem?_map,hi] at g1
   exact (Option.some.inj g1).symm
  refine ⟨kvs,t,h1,?_,hw⟩
  obtain ⟨v,hv⟩:=val_some (kvs:=kvs) (k:=(Sum.inr d.nm:Key)) (List.mem_map.mpr ⟨kv,List.mem_of_getElem? e,e1⟩)
  rw [hv]
  unfold bP at hv
  cases f:kvs.find? (fun kv=>decide (kv.1=(Sum.inr d.nm:Key))) with
  | none=>rw [f] at hv;cases hv
  | some kv'=>
   rw [f] at hv
   have hp:=List.find?_some f
   have m:=List.mem_of_find?_eq_some f
   obtain ⟨j,hj⟩:=List.mem_iff_getElem?.mp m
   have ej:kv'.1=Sum.inr d.nm:=of_decide_eq_true hp
   have nd2:(kvs.map (·.1)).Nodup:=by
    rw [h2,show (fun z:WD=>(Sum.inr z.nm:Key))=(fun n=>(Sum.inr n:Key)) ∘ (fun z:WD=>z.nm) from rfl,← List.map_map]
    exact nd.map _ (fun u v h e=>h (Sum.inr.inj e))
   have g1:(kvs.map (·.1))[j]?=some (Sum.inr d.nm):=by rw [List.getElem?_map,hj,Option.map_some,ej]
   have g2:(kvs.map (·.1))[i]?=some (Sum.inr d.nm):=by rw [List.getElem?_map,e,Option.map_some,e1]
   have ij:=(List.getElem?_inj (by rw [List.length_map];exact (List.getElem?_eq_some_iff.mp hj).1) nd2).mp (g1.trans g2.symm)
   subst ij
   rw [hj] at e
   cases e
   rw [← e2]
   exact hv.symm
inductive IspNetWay (a:Ad) (vs:List V) (H:Hp) (Q:VK):Prop
 | mk (p:Addr) (ps:List (Str × Rat)) (ds:List WD) (d:WD) (h1:vs=[.ref p,.str d.nm]) (h2:NetAt a H p ps ds) (h3:(ds.map (·.nm)).Nodup) (h4:d∈ds) (h5:∀ v,WayIs a H v d→Q v H):IspNetWay a vs H Q
def gO (a:Ad):Sp:=fun vs H Q _=>IspNetWay a vs H Q
theorem gB (T:TX K mg a):MtB P w K mg base CX0 a.Net "way" 1 ["self","name"] (gO a):=by
 refine T.m_Net_way.ok sc_Net_way (fun vs H Q E h=>?_) (fun f cdv A outer s H vs Q E hr h=>?_)
 ·obtain ⟨_,_,_,_,rfl,_⟩:=h
  rfl
 ·obtain ⟨p,ps,ds,d,rfl,⟨dx,dw,dy,hp,hw,hy⟩,nd,hd,k⟩:=h
  refine ⟨_,(ae (aC (gu (eT (cm hr) (pv 1) (bc (pv 0) rfl))) (ai bX) al)
   (ai (aw (eZ (cm hr) (bc (pv 0) rfl) (pv 1) (fun _ _=>rfl))))),?_⟩
  try dsimp only [aS,Cx.nox,Cx.wish]
  obtain ⟨kvs,v,h1,h2,h3⟩:=hy.get nd hd
  refine ⟨_,rfl,_,rfl,p,_,dx,_,_,rfl,hp,T.cl_Net,T.na_Net_ways,fsN_y _ _,dy,_,rfl,DGet.k (k:=Sum.inr d.nm) h1,_,rfl,?_⟩
  rw [h2]
  refine iteF ?_
  refine ⟨_,rfl,p,_,dx,_,_,rfl,hp,T.cl_Net,T.na_Net_ways,fsN_y _ _,_,rfl,dy,v,rfl,?_,k v h3⟩
  rw [← h2]
  exact DGet.k (k:=Sum.inr d.nm) h1
theorem Sm.of_le {a:Int} {n:Nat} (h:a.natAbs≤2 ^ n) (hn:n<9000):Sm a:=Nat.lt_of_le_of_lt h (Nat.pow_lt_pow_right (by decide) hn)
theorem Bd.smr {n:Nat} {x:Rat} (b:Bd n x) (hn:n<9000):SmR x:=⟨Nat.lt_of_le_of_lt b.1 (Nat.pow_lt_pow_right (by decide) hn),by show Sm _;unfold Sm;rw [Int.natAbs_natCast];exact Nat.lt_of_le_of_lt b.2 (Nat.pow_lt_pow_right (by decide) hn)⟩
theorem tot_bd {s m:Nat} {T B o c u:Int} (hT:T.natAbs≤2 ^ s) (hB:B.natAbs≤2 ^ s) (ho:o.natAbs≤2 ^ m) (hc:c.natAbs≤2 ^ m) (hu:u.natAbs≤B.natAbs) :
  (T*o+c*u).natAbs≤2 ^ (s+(m+1))∧(B*o).natAbs≤2 ^ (s+(m+1)):=by
 have h4:2 ^ (s+(m+1))=2 ^ (s+m)*2:=by rw [← Nat.add_assoc,Nat.pow_succ]
 constructor
 ·have h1:(T*o).natAbs≤2 ^ (s+m):=by rw [Int.natAbs_mul];exact gD hT ho
  have h2:(c*u).natAbs≤2 ^ (m+s):=by rw [Int.natAbs_mul];exact gD hc (Nat.le_trans hu hB)
  rw [Nat.add_comm m s] at h2
  have h5:=Int.natAbs_add_le (T*o) (c*u)
  omega
 ·have h1:(B*o).natAbs≤2 ^ (s+m):=by rw [Int.natAbs_mul];exact gD hB ho
  omega
theorem TInv.le {x:Rat} {T B s:Int} (I:TInv x T B s):s.natAbs≤B.natAbs:=by
 obtain ⟨pB,ps,⟨r,hr,_⟩,_⟩:=I
 have:=Int.le_of_dvd pB ⟨r,hr⟩
 omega
def FrIs (a:Ad) (H:Hp) (v:V) (x:Rat):Prop:=∃ q,v=.ref q∧FrAt a.Fraction H q x
theorem FrIs.mono {H H':Hp} {v:V} {x:Rat} (h:FrIs a H v x) (s:Same H H'):FrIs a H' v x:=let ⟨q,e,f⟩:=h;⟨q,e,f.mono s⟩
theorem FrIs.keep {H H':Hp} {v:V} {x:Rat} (h:FrIs a H v x) (s:KeepD H H'):FrIs a H' v x:=let ⟨q,e,d,f⟩:=h;⟨q,e,d,s _ _ f (by intro _ z;cases z) (by intro _ _ z;cases z)⟩
inductive IspTotal (K:PySem.W.Frag) (a:Ad) (vs:List V) (H:Hp) (Q:VK):Prop
 | mk (l:Addr) (ts:List V) (xs:List Rat) (N:Nat) (h1:vs=[.ref l]) (h2:SqL K H l ts) (h3:RowAt (FrIs a) H ts xs) (h4:BdS xs N) (h5:N<9000) (h6:∀ (r:Addr) (H':Hp),H r=none→Same H H'→FrAt a.Fraction H' r xs.sum→Q (.ref r) H'):IspTotal K a vs H Q
def spTotal (K:PySem.W.Frag) (a:Ad):Sp:=fun vs H Q _=>IspTotal K a vs H Q
theorem ok_total (T:TX K mg a):FnB P w K mg base CX0 "total" 5 ["some"] (spTotal K a):=by
 refine T.d_total.ok sc_total (fun vs H Q E h=>?_) (fun f cdv A outer s H vs Q E hr h=>?_)
 ·obtain ⟨_,_,_,_,rfl,_⟩:=h
  rfl
 ·obtain ⟨l,ts,xs,N,rfl,hS,fs,bd,hN,k⟩:=h
  obtain ⟨S,S0,S1,S2⟩:=bd.fn
  refine ⟨_,(ae (ar (i:=1) sc_total.nd rfl (Or.inl rfl) af)
   (ae (ar (i:=2) sc_total.nd rfl (Or.inl rfl) af)
   (ae (ar (i:=3) sc_total.nd rfl (Or.inl rfl) af)
   (ae (bu PassesOwn.never rfl (bH (pv 0)) (aA (i:=4) sc_total.nd rfl (Or.inl rfl)) (ae (ar (i:=5) sc_total.nd rfl (Or.inl rfl) (aG (cu T) hr aq (aa (pv 2) (aa (ck T.fr (pv 4)) ac))))
   (ae (ar (i:=6) sc_total.nd rfl (Or.inl rfl) (ao bG (ck T.fr (pv 4)) (pv 5)))
   (ae (ar (i:=1) sc_total.nd rfl (Or.inl rfl) (ao bY (ao a6 (pv 1) (pv 6)) (ao a6 (cH T.fr (pv 4)) (ao bG (pv 2) (pv 5)))))
   (ae (ar (i:=2) sc_total.nd rfl (Or.inl rfl) (ao a6 (pv 2) (pv 6)))
   (ai (ar (i:=3) sc_total.nd rfl (Or.inl rfl) (ao a6 (pv 3) (ao bG (pv 5) (aG (cu T) hr aq (aa (pv 3) (aa (pv 5) ac))))))))))))
   (ae (ar (i:=7) sc_total.nd rfl (Or.inl rfl) (aG (cu T) hr aq (aa (pv 1) (aa (pv 3) ac))))
   (ai (aw (aG (b8 T) hr aq (aa (ao bG (pv 1) (pv 7)) (aa (ao bG (pv 2) (pv 7)) ac)))))))))),?_⟩
  try dsimp only [aS,Cx.nox,Cx.wish]
  refine ⟨_,rfl,l,rfl,⟨_,hS⟩,bO (K:=K) (a:=l) (xs:=ts) (fun i σ H2=>i≤xs.length∧∃ (t b s:Int) (z4 z5 z6 z7:Option V),σ=[some (.ref l),some (.int t),some (.int b),some (.int s),z4,z5,z6,z7]∧H2=H∧TInv (xs.take i).sum t b s∧t.natAbs≤2 ^ (S i)∧b.natAbs≤2 ^ (S i))
   ⟨Nat.zero_le _,0,1,1,_,_,_,_,rfl,rfl,TInv.zero,Nat.zero_le _,by rw [S0];decide⟩ (fun i σ H2 _ ⟨_,_,_,_,_,_,_,_,_,e,_⟩=>by rw [e];exact hS) ?_ ?_⟩
  ·rintro i u σ H2 hu ⟨_,t,b,s,z4,z5,z6,z7,rfl,rfl,I,ht,hb⟩
   have hi:i<xs.length:=by rw [← fs.1];exact (List.getElem?_eq_some_iff.mp hu).1
   have ex:xs[i]?=some xs[i]:=List.getElem?_eq_getElem hi
   obtain ⟨n,by',bs⟩:=S2 i _ ex
   generalize xs[i]=y at ex by'
   obtain ⟨p,rfl,fp⟩:=fs.2 i u _ hu ex
   have si:=S1 i (by omega)
   have si1:=S1 (i+1) (by omega)
   have hn':n<9000:=by omega
   have yd:((y.den:Int)).natAbs≤2 ^ n:=by rw [Int.natAbs_natCast];exact by'.2
   have sy:Sm (y.den:Int):=Sm.of_le yd hn'
   have cp:=cU b (gI y)
   have cs:=Sm.gcd_r b (gI y) sy
   have st:Sm t:=Sm.of_le ht (by omega)
   have sb:Sm b:=Sm.of_le hb (by omega)
   have yp:=fk y
   have lo:((y.den:Int).fdiv (gcd b y.den)).natAbs≤(y.den:Int).natAbs:=eF _ cp (by omega)
   have lu:(b.fdiv (gcd b y.den)).natAbs≤b.natAbs:=eF _ cp (Int.le_of_lt I.pB)
   have ss:Sm s:=sb.le I.le
   have gp:=cU s (b:=gcd b y.den) (by omega)
   have gs:=Sm.gcd_r s (b:=gcd b y.den) (by omega) cs
   have lc:((gcd b y.den).fdiv (gcd s (gcd b y.den))).natAbs≤(gcd b y.den).natAbs:=eF _ gp (by omega)
   have tb:=tot_bd ht hb (Nat.le_trans lo yd) by'.1 lu
   refine ⟨_,rfl,_,rfl,p,y,rfl,fp,_,_,rfl,?_⟩
   refine ⟨_,rfl,p,y,rfl,fp,_,rfl,_,_,rfl,rfl,⟨by omega,cs⟩,?_⟩
   refine ⟨_,rfl,_,rfl,_,_,rfl,rfl,⟨st,sy.le lo⟩,_,rfl,p,y,rfl,fp,_,rfl,_,rfl,_,_,rfl,rfl,⟨by omega,cs⟩,_,_,rfl,rfl,⟨Sm.of_le by'.1 hn',sb.le lu⟩,_,_,rfl,rfl,?_⟩
   refine ⟨_,rfl,_,rfl,_,_,rfl,rfl,⟨sb,sy.le lo⟩,?_⟩
   refine ⟨_,rfl,_,rfl,_,rfl,_,rfl,_,_,rfl,_,_,rfl,rfl,⟨by omega,gs⟩,_,_,rfl,rfl,⟨ss,cs.le lc⟩,?_⟩
   refine ⟨hi,_,_,_,_,_,_,_,rfl,rfl,?_,Nat.le_trans tb.1 (aV bs),Nat.le_trans tb.2 (aV bs)⟩
   rw [List.take_add_one,ex,Option.toList_some,sum_snoc]
   exact I.step
  ·rintro σ H2 ⟨_,t,b,s,z4,z5,z6,z7,rfl,rfl,I,ht,hb⟩
   rw [fs.1] at I ht hb
   rw [List.take_length] at I
   have sl:=S1 _ (Nat.le_refl _)
   have sb:Sm b:=Sm.of_le hb (by omega)
   have s0:s≠0:=by have:=I.ps;omega
   have gp:=cU t s0
   have gs:=Sm.gcd_r t s0 (sb.le I.le)
   obtain ⟨e1,e2⟩:=I.fin
   refine ⟨_,rfl,_,rfl,_,_,rfl,?_⟩
   refine ⟨_,rfl,_,rfl,_,_,rfl,rfl,⟨by omega,gs⟩,_,rfl,_,rfl,_,_,rfl,rfl,⟨by omega,gs⟩,_,_,rfl,fun r dx H' nr s1 h1=>k r H' nr s1 ⟨dx,?_⟩⟩
   rw [h1,e1,e2]
def NetOff (a:Ad) (H:Hp) (p d:Addr) (ps:List (Str × Rat)) (ds:List WD):Prop:=∃ H0,NetAt a H0 p ps ds∧Same H0 H∧H0 d=none
theorem NetOff.mono {H H':Hp} {p d:Addr} {ps:List (Str × Rat)} {ds:List WD} (h:NetOff a H p d ps ds) (s:Same H H'):NetOff a H' p d ps ds:=let ⟨H0,n,s0,e⟩:=h;⟨H0,n,s0.trans s,e⟩
theorem NetOff.at_ {H:Hp} {p d:Addr} {ps:List (Str × Rat)} {ds:List WD} (h:NetOff a H p d ps ds):NetAt a H p ps ds:=let ⟨_,n,s0,_⟩:=h;n.mono s0
theorem NetOff.but {H H':Hp} {p d:Addr} {ps:List (Str × Rat)} {ds:List WD} (h:NetOff a H p d ps ds) (k:∀ b ob,H b=some ob→b≠d→H' b=some ob):NetOff a H' p d ps ds:=let ⟨H0,n,s0,e⟩:=h;⟨H0,n,fun b ob x=>k b ob (s0 b ob x) (aE x e),e⟩
inductive IspNNames (a:Ad) (vs:List V) (H:Hp) (Q:VK):Prop
 | mk (p:Addr) (ps:List (Str × Rat)) (ds:List WD) (h1:vs=[.ref p]) (h2:NetAt a H p ps ds) (h3:∀ l,H l=none→Q (.ref l) (upd H l (.lst (ps.map fun x=>V.str x.1)))):IspNNames a vs H Q
def spNNames (a:Ad):Sp:=fun vs H Q _=>IspNNames a vs H Q
theorem g8 (T:TX K mg a):MtB P w K mg base CX0 a.Net "names" 1 ["self"] (spNNames a):=by
 refine T.m_Net_names.ok sc_Net_names (fun vs H Q E h=>?_) (fun f cdv A outer s H vs Q E hr h=>?_)
 ·obtain ⟨_,_,_,rfl,_⟩:=h
  rfl
 ·obtain ⟨p,ps,ds,rfl,⟨dx,dw,dy,hp,⟨kvs,h1,h2,h3⟩,hy⟩,k⟩:=h
  refine ⟨_,(ai (aw (pe_callTy (fQ hr.hd) (by rfl) T.z_list PyProof.Rows.boot_list (aa (bc (pv 0) rfl) ac)))),?_⟩
  try dsimp only [aS,Cx.nox,Cx.wish]
  refine ⟨_,rfl,p,_,dx,_,_,rfl,hp,T.cl_Net,T.na_Net_wants,fsN_w _ _,dw,kvs,rfl,.inl h1,fun l nl=>?_⟩
  have e:(kvs.map fun kv=>kV kv.1)=ps.map fun x=>V.str x.1:=by
   have:=congrArg (List.map kV) h2
   rw [List.map_map,List.map_map] at this
   exact this
  rw [e]
  exact k l nl
inductive IspNAll (a:Ad) (vs:List V) (H:Hp) (Q:VK):Prop
 | mk (p:Addr) (ps:List (Str × Rat)) (ds:List WD) (h1:vs=[.ref p]) (h2:NetAt a H p ps ds) (h3:∀ l H' ts,H l=none→Same H H'→H' l=some (.lst ts)→RowAt (WayIs a) H' ts ds→Q (.ref l) H'):IspNAll a vs H Q
def spNAll (a:Ad):Sp:=fun vs H Q _=>IspNAll a vs H Q
theorem cG (T:TX K mg a):MtB P w K mg base CX0 a.Net "all_ways" 1 ["self"] (spNAll a):=by
 refine T.m_Net_all_ways.ok sc_Net_all_ways (fun vs H Q E h=>?_) (fun f cdv A outer s H vs Q E hr h=>?_)
 ·obtain ⟨_,_,_,rfl,_⟩:=h
  rfl
 ·obtain ⟨p,ps,ds,rfl,⟨dx,dw,dy,hp,hw,⟨kvs,h1,h2,h3⟩⟩,k⟩:=h
  refine ⟨_,(ai (aw (pe_callTy (call_list_vals hr.hd) (by rfl) T.z_list PyProof.Rows.boot_list (aa (pe_bm0 PySem.F.plainAttrs_dict PySem.F.slot_dict_values PySem.F.type_dict_values mt_values (bc (pv 0) rfl)) ac)))),?_⟩
  try dsimp only [aS,Cx.nox,Cx.wish]
  refine ⟨_,rfl,p,_,dx,_,_,rfl,hp,T.cl_Net,T.na_Net_ways,fsN_y _ _,(.inr (.inr (.inl ⟨rfl,.inl ⟨kvs,h1⟩⟩))),dy,kvs,rfl,rfl,.inl h1,fun v nv=>?_⟩
  have s1:=aj (o:=ViewO v dy) nv
  refine ⟨v,dy,kvs,rfl,ad,.inl (s1 _ _ h1),fun l nl=>?_⟩
  have s2:=s1.trans (aj (o:=.lst (kvs.map (·.2))) nl)
  exact k l _ _ (s1.free nl) s2 ad (h3.mono fun v x z=>z.mono s2)
def cb (ks:List Str) (f:Str→Rat) (n:Str):Rat:=if n∈ks then f n else 0
inductive IspAmount (a:Ad) (vs:List V) (H:Hp) (Q:VK):Prop
 | mk (d:Addr) (kvs:List (Key × V)) (ks:List Str) (f:Str→Rat) (n:Str) (h1:vs=[.ref d,.str n]) (h2:Rd H d (.dK kvs)) (h3:Tab (FrIs a) H kvs ks f) (h4:∀ q H',Same H H'→FrAt a.Fraction H' q (cb ks f n)→Q (.ref q) H'):IspAmount a vs H Q
def spAmount (a:Ad):Sp:=fun vs H Q _=>IspAmount a vs H Q
theorem ok_amount (T:TX K mg a):FnB P w K mg base CX0 "amount" 5 ["plan","name"] (spAmount a):=by
 refine T.d_amount.ok sc_amount (fun vs H Q E h=>?_) (fun f cdv A outer s H vs Q E hr h=>?_)
 ·obtain ⟨_,_,_,_,_,rfl,_⟩:=h
  rfl
 ·obtain ⟨d,kvs,ks,f,n,rfl,hd,tb,k⟩:=h
  refine ⟨_,(ai (aw (pe_dget2 (cm hr) (pv 0) (pv 1) (b7 (mk1 T) hr T.mg_Fraction aq (aa af ac)) ⟨rfl,rfl,rfl,rfl⟩))),?_⟩
  try dsimp only [aS,Cx.nox,Cx.wish]
  refine ⟨_,rfl,d,rfl,.inl ⟨kvs,hd⟩,_,rfl,0,1,rfl,by decide,sm1,fun z H1 nz s1 f1=>?_⟩
  have hd1:Rd H1 d (.dK kvs):=hd.imp (fun h=>s1 _ _ h) fun ⟨o,h⟩=>⟨o,s1 _ _ h⟩
  refine ⟨bP kvs (Sum.inr n),.inl ⟨kvs,Sum.inr n,hd1,rfl,rfl⟩,?_⟩
  unfold cb at k
  by_cases hn:n∈ks
  ·obtain ⟨v,ev,q,rfl,fq⟩:=tb.vals n hn
   rw [ev]
   rw [if_pos hn] at k
   exact k q H1 s1 (fq.mono s1)
  ·rw [tb.none hn]
   rw [if_neg hn] at k
   rw [Rat.zero_divInt] at f1
   exact k z H1 s1 f1
def sumStep (A:Str→Rat) (F:Str→Rat) (d:WD):Str→Rat:=upf (upf F d.st (F d.st-A d.nm)) d.go (F d.go+A d.nm*cZ d.kd d.x)
def cD (A:Str→Rat) (ds:List WD):Str→Rat:=ds.foldl (sumStep A) (fun _=>0)
theorem sumF_snoc (A:Str→Rat) (ds:List WD) (d:WD):cD A (ds++[d])=sumStep A (cD A ds) d:=by unfold cD;rw [List.foldl_append];rfl
structure SumOk (A:Str→Rat) (ps:List (Str × Rat)) (ds:List WD):Prop where
 np:(ps.map (·.1)).Nodup
 lp:ps.length≤900
 io:∀ d∈ds,d.st∈ps.map (·.1)∧d.go∈ps.map (·.1)
 ne:∀ d∈ds,d.st≠d.go
 sx:∀ d∈ds,SmR d.x∧SmR (cZ d.kd d.x)
 sa:∀ d∈ds,SmR (A d.nm)∧SmR (A d.nm*cZ d.kd d.x)
 sf:∀ i s,SmR (cD A (ds.take i) s)
inductive IspSumsOwn (a:Ad) (vs:List V) (H:Hp) (Q:VK):Prop
 | mk (p d:Addr) (ps:List (Str × Rat)) (ds:List WD) (kvs:List (Key × V)) (ks:List Str) (f:Str→Rat) (h1:vs=[.ref p,.ref d]) (h2:NetAt a H p ps ds) (h3:H d=some (.dK kvs)) (h4:Tab (FrIs a) H kvs ks f) (h5:SumOk (cb ks f) ps ds) (h6:∀ r H' kvr,H r=none→Same H H'→H' r=some (.dK kvr)→Tab (FrIs a) H' kvr (ps.map (·.1)) (cD (cb ks f) ds)→Q (.ref r) H'):IspSumsOwn a vs H Q
def spSumsOwn (a:Ad):Sp:=fun vs H Q _=>IspSumsOwn a vs H Q
theorem dJ (T:TX K mg a):FnB P w K mg base CX0 "sums_of_own_ways" 9 ["net","plan"] (spSumsOwn a):=by
 refine T.d_sums_of_own_ways.ok sc_sums_of_own_ways (fun vs H Q E h=>?_) (fun f cdv A outer s H vs Q E hr h=>?_)
 ·obtain ⟨_,_,_,_,_,_,_,rfl,_⟩:=h
  rfl
 ·obtain ⟨p,d,ps,ds,kvs,ks,f,rfl,hn,hd,tb,ok,k⟩:=h
  refine ⟨_,(ae (ar (i:=2) sc_sums_of_own_ways.nd rfl (Or.inl rfl) eS)
   (aN (bu PassesOwn.never rfl (bH (et (CX:=CX0) (pv 0) hr aq)) (aA (i:=3) sc_sums_of_own_ways.nd rfl (Or.inl rfl)) (ai (d9 (cm hr) (pv 2) (pv 3) (b7 (mk1 T) hr T.mg_Fraction aq (aa af ac)) rfl)))
   (ae (bu PassesOwn.never rfl (bH (et (CX:=CX0) (pv 0) hr aq)) (aA (i:=4) sc_sums_of_own_ways.nd rfl (Or.inl rfl)) (ae (ar (i:=5) sc_sums_of_own_ways.nd rfl (Or.inl rfl) (aG (ok_amount T) hr aq (aa (pv 1) (aa (bc (pv 4) rfl) ac))))
   (ae (d9 (cm hr) (pv 2) (bc (pv 4) rfl) (eG T.fr (eZ (cm hr) (pv 2) (bc (pv 4) rfl) (fun _ _=>rfl)) (ok_minus T) hr aq (aa (pv 5) ac)) rfl)
   (ai (d9 (cm hr) (pv 2) (bc (pv 4) rfl) (eG T.fr (eZ (cm hr) (pv 2) (bc (pv 4) rfl) (fun _ _=>rfl)) (ok_plus T) hr aq (aa (gw (CX:=CX0) (pv 4) hr aq (aa (pv 5) ac)) ac)) rfl)))))
   (ai (aw (pv 2)))))),?_⟩
  try dsimp only [aS,Cx.nox,Cx.wish]
  intro r nr
  have s0:Same H (upd H r (.dK [])):=aj nr
  have hr0:upd H r (.dK []) r=some (.dK []):=ad
  generalize upd H r (.dK [])=H0 at s0 hr0 ⊢
  refine ⟨fun σ' H'=>∃ z3 z4 z5 kvr,σ'=[some (.ref p),some (.ref d),some (.ref r),z3,z4,z5]∧Same H H'∧H' r=some (.dK kvr)∧Tab (FrIs a) H' kvr (ps.map (·.1)) (fun _=>0),?_,?_⟩
  ·obtain ⟨dx,dw,dy,hp,hw,hy⟩:=hn.mono s0
   refine ⟨_,rfl,p,a.Net,dx,_,1,["self"],spNNames a,rfl,hp,dH _ _ (by decide +kernel) (by decide +kernel),T.cl_Net,by decide,g8 T,p,ps,ds,rfl,⟨dx,dw,dy,hp,hw,hy⟩,fun l nl=>?_⟩
   have s1:=aj (o:=.lst (ps.map fun x=>V.str x.1)) nl
   have hl:upd H0 l (.lst (ps.map fun x=>V.str x.1)) l=some (.lst (ps.map fun x=>V.str x.1)):=ad
   generalize upd H0 l (.lst (ps.map fun x=>V.str x.1))=H1 at s1 hl ⊢
   have lr:l≠r:=fun z=>by rw [z,hr0] at nl;cases nl
   refine ⟨l,rfl,⟨_,SqL.of hl⟩,bO (K:=K) (a:=l) (xs:=ps.map fun x=>V.str x.1) (fun i σ H2=>i≤ps.length∧∃ z3 z4 z5 kvr,σ=[some (.ref p),some (.ref d),some (.ref r),z3,z4,z5]∧Same H H2∧H2 l=some (.lst (ps.map fun x=>V.str x.1))∧H2 r=some (.dK kvr)∧Tab (FrIs a) H2 kvr ((ps.map (·.1)).take i) (fun _=>0))
    ⟨Nat.zero_le _,_,_,_,[],rfl,s0.trans s1,hl,s1 _ _ hr0,Tab.nil⟩ (fun i σ H2 _ ⟨_,_,_,_,_,_,_,h,_⟩=>SqL.of h) ?_ ?_⟩
   ·rintro i t σ H2 ht ⟨hi,z3,z4,z5,kvr,rfl,s2,hl2,hr2,tr⟩
    rw [List.getElem?_map] at ht
    cases ex:ps[i]? with
    | none=>rw [ex] at ht;cases ht
    | some x=>
     rw [ex] at ht
     cases ht
     have hi':=(List.getElem?_eq_some_iff.mp ex).1
     have en:(ps.map (·.1))[i]?=some x.1:=by rw [List.getElem?_map,ex];rfl
     obtain ⟨tk,nk⟩:=eL ok.np en
     refine ⟨0,1,rfl,by decide,sm1,fun z H3 nz s3 f3=>?_⟩
     rw [Rat.zero_divInt] at f3
     have lk:kvr.length≤900:=by
      rw [tr.len,List.length_take,List.length_map]
      have:=ok.lp
      omega
     refine ⟨_,rfl,_,rfl,r,_,rfl,DPut.k (k:=Sum.inr x.1) (s3 _ _ hr2) (aL (by omega)),?_⟩
     have kp:KeepD H3 (upd H3 r (.dK (cX kvr (Sum.inr x.1) (.ref z)))):=KeepD.put (s3 _ _ hr2)
     refine ⟨hi',_,_,_,_,rfl,aP nr (s2.trans s3),by rw [ak lr];exact s3 _ _ hl2,ad,?_⟩
     rw [tk,← ic nk]
     refine (Tab.put (n:=x.1) (tr.mono fun v x z=>(z.mono s3).keep kp) (y:=0) (FrIs.keep ⟨z,rfl,f3⟩ kp)).congr fun m _=>?_
     unfold upf
     split <;> rfl
   ·rintro σ H2 ⟨_,z3,z4,z5,kvr,rfl,s2,hl2,hr2,tr⟩
    rw [List.length_map] at tr
    rw [show ps.length=(ps.map (·.1)).length by rw [List.length_map],List.take_length] at tr
    exact ⟨_,_,_,kvr,rfl,s2,hr2,tr⟩
  rintro σ' H1 ⟨z3,z4,z5,kvr,rfl,s1,hr1,tr⟩
  obtain ⟨dx,dw,dy,hp,hw,hy⟩:=hn.mono s1
  refine ⟨_,rfl,p,a.Net,dx,_,1,["self"],spNAll a,rfl,hp,dH _ _ (by decide +kernel) (by decide +kernel),T.cl_Net,by decide,cG T,p,ps,ds,rfl,⟨dx,dw,dy,hp,hw,hy⟩,fun l H2 ts nl s2 hl2 hv=>?_⟩
  refine ⟨l,rfl,⟨_,SqL.of hl2⟩,bO (K:=K) (a:=l) (xs:=ts) (fun i σ H3=>i≤ds.length∧∃ z3 z4 z5 kvr,σ=[some (.ref p),some (.ref d),some (.ref r),z3,z4,z5]∧Same H H3∧KeepD H2 H3∧H3 r=some (.dK kvr)∧Tab (FrIs a) H3 kvr (ps.map (·.1)) (cD (cb ks f) (ds.take i)))
   ⟨Nat.zero_le _,_,_,_,kvr,rfl,s1.trans s2,.of (Same.refl _),s2 _ _ hr1,tr.mono fun v x z=>z.mono s2⟩ (fun i σ H3 _ ⟨_,_,_,_,_,_,_,kp,_⟩=>SqL.of (kp _ _ hl2 (by intro _ z;cases z) (by intro _ _ z;cases z))) ?_ ?_⟩
  ·rintro i t σ H3 ht ⟨hi,z3,z4,z5,kvr,rfl,s3,kp,hr3,tr3⟩
   obtain ⟨y,ey,wy⟩:=hv.get ht
   have hi':=(List.getElem?_eq_some_iff.mp ey).1
   have my:=List.mem_of_getElem? ey
   have wy3:WayIs a H3 t y:=wy.keep fun b C dx fs _ e=>kp _ _ e (by intro _ z;cases z) (by intro _ _ z;cases z)
   obtain ⟨p1,vh,vc,q1,rfl,W,hk⟩:=wy3
   obtain ⟨dx1,fs1,ho,h5,_⟩:=id W.ob
   have c:=dR T y.kd
   obtain ⟨i1,i2⟩:=ok.io y my
   obtain ⟨a1,a2⟩:=ok.sa y my
   obtain ⟨x1,x2⟩:=ok.sx y my
   have hne:=ok.ne y my
   have lk:kvr.length≤900:=by
    rw [tr3.len,List.length_map]
    exact ok.lp
   refine ⟨_,rfl,_,rfl,p1,_,dx1,fs1,_,rfl,ho,c.cl,c.n1,h5.nm,d,kvs,ks,f,y.nm,rfl,.inl (s3 _ _ hd),tb.mono (fun v x z=>z.mono s3),fun q H4 s4 f4=>?_⟩
   have ho4:=s4 _ _ ho
   obtain ⟨v1,ev1,r1,rfl,fr1⟩:=(tr3.mono fun v x z=>z.mono s4).vals _ i1
   refine ⟨_,rfl,_,rfl,p1,_,dx1,fs1,_,rfl,ho4,c.cl,c.n2,h5.st,r,_,rfl,.inl ⟨kvr,Sum.inr y.st,.inl (s4 _ _ hr3),rfl,ev1.symm⟩,r1,_,rfl,fr1,_,rfl,r1,q,_,_,rfl,fr1,f4,ok.sf i _,a1,True.intro,fun r2 H5 nr2 s5 f5=>?_⟩
   have s45:=s4.trans s5
   refine ⟨_,rfl,_,rfl,p1,_,dx1,fs1,_,rfl,s45 _ _ ho,c.cl,c.n2,h5.st,r,_,rfl,DPut.k (k:=Sum.inr y.st) (s45 _ _ hr3) (aL (by omega)),?_⟩
   have kp5:KeepD H5 (upd H5 r (.dK (cX kvr (Sum.inr y.st) (.ref r2)))):=KeepD.put (s45 _ _ hr3)
   have tr6:=Tab.put (n:=y.st) (tr3.mono fun v x z=>(z.mono s45).keep kp5) (FrIs.keep ⟨r2,rfl,f5⟩ kp5)
   have s6:=aP (o:=.dK (cX kvr (Sum.inr y.st) (.ref r2))) nr (s3.trans s45)
   have hr6:upd H5 r (.dK (cX kvr (Sum.inr y.st) (.ref r2))) r=some (.dK (cX kvr (Sum.inr y.st) (.ref r2))):=ad
   have lk6:(cX kvr (Sum.inr y.st:Key) (.ref r2)).length≤901:=Nat.le_trans (fO _ _ _) (by omega)
   generalize cX kvr (Sum.inr y.st) (.ref r2)=kv6 at kp5 tr6 s6 hr6 lk6 ⊢
   generalize upd H5 r (.dK kv6)=H6 at kp5 tr6 s6 hr6 ⊢
   rw [show addK (ps.map (·.1)) y.st=ps.map (·.1) from if_pos i1] at tr6
   have kp36:KeepD H3 H6:=(KeepD.of s45).trans kp5
   have W6:=W.keep fun b C dx fs _ e=>kp36 _ _ e (by intro _ z;cases z) (by intro _ _ z;cases z)
   obtain ⟨dx6,fs6,ho6,h56,_⟩:=id W6.ob
   obtain ⟨q6,e6,f6⟩:=FrIs.keep ⟨q,rfl,f4⟩ ((KeepD.of s5).trans kp5)
   cases e6
   obtain ⟨v7,ev7,r7,rfl,fr7⟩:=tr6.vals _ i2
   rw [upf_ne (Ne.symm hne)] at fr7
   refine ⟨_,rfl,_,rfl,p1,_,dx6,fs6,_,rfl,ho6,c.cl,c.n3,h56.go,r,_,rfl,.inl ⟨_,Sum.inr y.go,.inl hr6,rfl,ev7.symm⟩,r7,_,rfl,fr7,_,rfl,p1,_,dx6,fs6,8,["self","amount"],spOut a y.kd,rfl,ho6,h56.ou,c.cl,by decide,out_any T y.kd,_,rfl,p1,q,y.nm,y.st,y.go,vh,vc,q1,y.x,_,rfl,W6,f6,x1,a1,x2,fun r8 H7 s7 f7=>?_⟩
   refine ⟨r7,r8,_,_,rfl,fr7.mono s7,f7,ok.sf i _,a2,True.intro,fun r9 H8 nr9 s8 f8=>?_⟩
   have s78:=s7.trans s8
   refine ⟨_,rfl,_,rfl,p1,_,dx6,fs6,_,rfl,s78 _ _ ho6,c.cl,c.n3,h56.go,r,_,rfl,DPut.k (k:=Sum.inr y.go) (s78 _ _ hr6) (aL (by omega)),?_⟩
   have kp8:KeepD H8 (upd H8 r (.dK (cX kv6 (Sum.inr y.go) (.ref r9)))):=KeepD.put (s78 _ _ hr6)
   have tr9:=Tab.put (n:=y.go) (tr6.mono fun v x z=>(z.mono s78).keep kp8) (FrIs.keep ⟨r9,rfl,f8⟩ kp8)
   rw [show addK (ps.map (·.1)) y.go=ps.map (·.1) from if_pos i2] at tr9
   refine ⟨hi',_,_,_,_,rfl,aP nr (s6.trans s78),((kp.trans kp36).trans (.of s78)).trans kp8,ad,?_⟩
   rw [List.take_add_one,ey,Option.toList_some,sumF_snoc]
   exact tr9
  ·rintro σ H3 ⟨_,z3,z4,z5,kvr,rfl,s3,kp,hr3,tr3⟩
   rw [hv.1,List.take_length] at tr3
   exact ⟨_,rfl,k r H3 kvr nr s3 hr3 tr3⟩
inductive IspRefO (a:Ad) (vs:List V) (H:Hp) (Q:VK):Prop
 | mk (p d:Addr) (ps:List (Str × Rat)) (ds:List WD) (kvs:List (Key × V)) (ks:List Str) (f:Str→Rat) (h1:vs=[.ref p,.ref d]) (h2:NetOff a H p d ps ds) (h3:(ds.map (·.nm)).Nodup) (h4:H d=some (.dK kvs)) (h5:Tab (FrIs a) H kvs ks f) (h6:ks.Nodup) (h7:(∀ n∈ks,n∈ds.map (·.nm))) (h8:∀ H',Same H H'→Q .non H'):IspRefO a vs H Q
def spRefO (a:Ad):Sp:=fun vs H Q _=>IspRefO a vs H Q
theorem fz (T:TX K mg a):FnB P w K mg base CX0 "refuse_other_names" 2 ["net","plan"] (spRefO a):=by
 refine T.d_refuse_other_names.ok sc_refuse_other_names (fun vs H Q E h=>?_) (fun f cdv A outer s H vs Q E hr h=>?_)
 ·obtain ⟨_,_,_,_,_,_,_,rfl,_⟩:=h
  rfl
 ·obtain ⟨p,d,ps,ds,kvs,ks,f,rfl,hn,nd,hd,tb,ndk,sub,k⟩:=h
  refine ⟨_,(ai (ps_thaw (bu PassesOwn.never rfl (pi_dict (pv 1)) (aA (i:=2) sc_refuse_other_names.nd rfl (Or.inl rfl)) (ai (aI (gw (CX:=CX0) (pv 0) hr aq (aa (pv 2) ac))))))),?_⟩
  try dsimp only [aS,Cx.nox,Cx.wish]
  refine ⟨d,.dK kvs,hd,(by intro o z e;cases e),_,rfl,d,kvs,rfl,hd,fun o=>?_⟩
  refine for_dict (a:=d) (o:=o) (kvs:=kvs) (fun i σ H2=>∃ z,σ=[some (.ref p),some (.ref d),z]∧H2 d=some (.frz o (.dK kvs))∧∀ b ob,H b=some ob→b≠d→H2 b=some ob)
   ⟨_,rfl,ad,fun b ob e ne=>by rw [ak ne];exact e⟩ (fun i σ H2 _ ⟨_,_,h,_⟩=>h) ?_ ?_
  ·rintro i kv σ H2 hkv ⟨z,rfl,hf,k2⟩
   obtain ⟨n,en,e1,ev,_⟩:=tb.at_ ndk hkv
   have ekv:kV kv.1=.str n:=by rw [e1];rfl
   rw [ekv]
   obtain ⟨y,my,rfl⟩:=List.mem_map.mp (sub n (List.mem_of_getElem? en))
   obtain ⟨dx,dw,dy,hp,hw,hy⟩:=(hn.but k2).at_
   refine ⟨_,rfl,p,a.Net,dx,_,1,["self","name"],gO a,rfl,hp,dH _ _ (by decide +kernel) (by decide +kernel),T.cl_Net,by decide,gB T,_,rfl,p,ps,ds,y,rfl,⟨dx,dw,dy,hp,hw,hy⟩,nd,my,fun v _=>?_⟩
   exact ⟨_,rfl,hf,k2⟩
  ·rintro σ H2 ⟨z,rfl,hf,k2⟩
   refine ⟨o,hf,k _ fun b ob e=>?_⟩
   by_cases hb:b=d
   ·subst hb
    rw [ad,← hd,e]
   ·rw [ak hb]
    exact k2 _ _ e hb
inductive IspSums (a:Ad) (vs:List V) (H:Hp) (Q:VK):Prop
 | mk (p d:Addr) (ps:List (Str × Rat)) (ds:List WD) (kvs:List (Key × V)) (ks:List Str) (f:Str→Rat) (h1:vs=[.ref p,.ref d]) (h2:NetOff a H p d ps ds) (h3:(ds.map (·.nm)).Nodup) (h4:H d=some (.dK kvs)) (h5:Tab (FrIs a) H kvs ks f) (h6:ks.Nodup) (h7:(∀ n∈ks,n∈ds.map (·.nm))) (h8:SumOk (cb ks f) ps ds) (h9:∀ r H' kvr,H r=none→Same H H'→H' r=some (.dK kvr)→Tab (FrIs a) H' kvr (ps.map (·.1)) (cD (cb ks f) ds)→Q (.ref r) H'):IspSums a vs H Q
def spSums (a:Ad):Sp:=fun vs H Q _=>IspSums a vs H Q
theorem ok_sums (T:TX K mg a):FnB P w K mg base CX0 "sums" 10 ["net","plan"] (spSums a):=by
 refine T.d_sums.ok sc_sums (fun vs H Q E h=>?_) (fun f cdv A outer s H vs Q E hr h=>?_)
 ·obtain ⟨_,_,_,_,_,_,_,rfl,_⟩:=h
  rfl
 ·obtain ⟨p,d,ps,ds,kvs,ks,f,rfl,hn,nd,hd,tb,ndk,sub,ok,k⟩:=h
  refine ⟨_,(ae (aI (aG (fz T) hr aq (aa (pv 0) (aa (pv 1) ac))))
   (ai (aw (aG (dJ T) hr aq (aa (pv 0) (aa (pv 1) ac)))))),?_⟩
  try dsimp only [aS,Cx.nox,Cx.wish]
  refine ⟨_,rfl,_,rfl,p,d,ps,ds,kvs,ks,f,rfl,hn,nd,hd,tb,ndk,sub,fun H1 s1=>?_⟩
  exact ⟨_,rfl,_,rfl,p,d,ps,ds,kvs,ks,f,rfl,(hn.mono s1).at_,s1 _ _ hd,tb.mono (fun v x z=>z.mono s1),ok,fun r H2 kvr nr s2 hr2 tr=>k r H2 kvr (s1.free nr) (s1.trans s2) hr2 tr⟩
inductive IspWorth (a:Ad) (vs:List V) (H:Hp) (Q:VK):Prop
 | mk (p d:Addr) (ps:List (Str × Rat)) (ds:List WD) (kvs:List (Key × V)) (ks:List Str) (f co:Str→Rat) (N:Nat) (h1:vs=[.ref p,.ref d]) (h2:NetOff a H p d ps ds) (h3:(ds.map (·.nm)).Nodup) (h4:H d=some (.dK kvs)) (h5:Tab (FrIs a) H kvs ks f) (h6:ks.Nodup) (h7:ks.length≤900) (h8:(∀ n∈ks,n∈ds.map (·.nm))) (h9:(∀ x∈ds,x.co=co x.nm)) (h10:(∀ n∈ks,SmR (f n)∧SmR (co n))) (h11:BdS (ks.map fun n=>co n*f n) N) (h12:N<9000) (h13:∀ r H',H r=none→Same H H'→FrAt a.Fraction H' r (ks.map fun n=>co n*f n).sum→Q (.ref r) H'):IspWorth a vs H Q
def spWorth (a:Ad):Sp:=fun vs H Q _=>IspWorth a vs H Q
theorem ok_worth (T:TX K mg a):FnB P w K mg base CX0 "worth" 6 ["net","plan"] (spWorth a):=by
 refine T.d_worth.ok sc_worth (fun vs H Q E h=>?_) (fun f cdv A outer s H vs Q E hr h=>?_)
 ·obtain ⟨_,_,_,_,_,_,_,_,_,rfl,_⟩:=h
  rfl
 ·obtain ⟨p,d,ps,ds,kvs,ks,f,co,N,rfl,hn,nd,hd,tb,ndk,hl,sub,hco,sm,bN,hN,k⟩:=h
  refine ⟨_,(ai (aw (aG (ok_total T) hr aq (aa (pe_thaw (d6 (xs:=["name","part"]) (rest:=["net"]) rfl (pi_items (pv 1))
   (fun pins fp C' s' H'=>by exact (pg_tupK (K:=K) (n:=2) rfl rfl (aQ (aA (i:=0) (show (["name","part","net"]:List Str).Nodup by decide +kernel) rfl (Or.inl rfl)) (aQ (aA (i:=1) (show (["name","part","net"]:List Str).Nodup by decide +kernel) rfl (Or.inl rfl)) dN)))) (fun pins fp C' s' H'=>by exact dC)
   (fun pins fp C' s' H'=>by exact (eG T.fr (pe_fldK (K:=K) rfl (pe_mtDK (CX:=CX0) (P:=P) (w:=w) (K:=K) (mg:=mg) (base:=base) rfl rfl rfl rfl rfl (pv 2) hr aq (aa (pv 0) ac)) rfl) (ok_times T) hr aq (aa (pv 1) ac)))
   (Clos.many (ys:=["net"]) rfl ⟨rfl,True.intro⟩ rfl (by decide +kernel)) (Reads.many (ys:=["net"]) (js:=[0]) ⟨⟨rfl,rfl,rfl⟩,True.intro⟩))) ac)))),?_⟩
  try dsimp only [aS,Cx.nox,Cx.wish]
  refine ⟨d,.dK kvs,hd,(by intro o z e;cases e),_,rfl,d,kvs,rfl,hd,fun o l nl=>?_⟩
  have ndl:d≠l:=fun z=>by rw [z,ad] at nl;cases nl
  have nl':H l=none:=by rw [ak ndl.symm] at nl;exact nl
  refine compG_items (a:=d) (o:=o) (kvs:=kvs) (fun i H2=>i≤ks.length∧H2 d=some (.frz o (.dK kvs))∧(∀ b ob,H b=some ob→b≠d→H2 b=some ob)∧∃ ts,H2 l=some (.lst ts)∧RowAt (FrIs a) H2 ts ((ks.take i).map fun n=>co n*f n))
   ⟨Nat.zero_le _,by rw [ak ndl,ad],(fun b ob e ne=>by rw [ak (aE e nl'),ak ne];exact e),[],ad,RowAt.nil⟩ (fun i H2 ⟨_,h,_⟩=>h) ?_ ?_
  ·rintro i kv t H2 hkv nt ⟨_,hf,k2,ts,hl2,hv⟩ zs hz
   obtain ⟨n,en,e1,ev,q,eq,fq⟩:=tb.at_ ndk hkv
   have hi:i<ks.length:=(List.getElem?_eq_some_iff.mp en).1
   have ekv:kV kv.1=.str n:=by rw [e1];rfl
   rw [ekv,eq]
   have s3:=aj (o:=.tup [.str n,.ref q]) nt
   have ht:upd H2 t (.tup [.str n,.ref q]) t=some (.tup [.str n,.ref q]):=ad
   generalize upd H2 t (.tup [.str n,.ref q])=H3 at s3 ht ⊢
   match zs,hz with
   | [z1,z2],_=>
    have hn3:=(hn.but k2).mono s3
    obtain ⟨y,my,ey⟩:=List.mem_map.mp (sub n (List.mem_of_getElem? en))
    obtain ⟨dx,dw,dy,hp,hw,hy⟩:=hn3.at_
    obtain ⟨sm1,sm2⟩:=sm n (List.mem_of_getElem? en)
    have fq3:FrAt a.Fraction H3 q (f n):=by
     obtain ⟨dq,g⟩:=fq
     exact ⟨dq,s3 _ _ (k2 _ _ g (cS g hd (by intro z;cases z)))⟩
    refine ⟨t,[.str n,.ref q],rfl,SqT.of ht,rfl,.str n,[.ref q],rfl,⟨.ref q,[],rfl,⟨rfl,⟨[_,_],rfl,rfl⟩,yes ?_⟩⟩⟩
    refine ⟨_,rfl,p,a.Net,dx,_,1,["self","name"],gO a,rfl,hp,dH _ _ (by decide +kernel) (by decide +kernel),T.cl_Net,by decide,gB T,_,rfl,p,ps,ds,y,by rw [ey];rfl,⟨dx,dw,dy,hp,hw,hy⟩,nd,my,fun v hx=>?_⟩
    obtain ⟨p',vh,vc,q',rfl,W,hk,⟨qc,rfl,fc⟩,_⟩:=hx
    obtain ⟨dx',fs',ho',h5',_⟩:=W.ob
    have c':=dR T y.kd
    rw [hco y my,ey] at fc
    refine ⟨p',_,dx',fs',_,rfl,ho',c'.cl,c'.n5,h5'.co,qc,_,rfl,fc,_,rfl,qc,q,_,_,rfl,fc,fq3,sm2,sm1,True.intro,fun r H4 nr s4 f4=>?_⟩
    have s34:=s3.trans s4
    have hl4:=s34 _ _ hl2
    have lts:ts.length=i:=by rw [hv.1,List.length_map,List.length_take];omega
    refine ⟨_,hl4,aL (by omega),c7 (by rw [tb.len];exact hi) ⟨hi,by rw [ak ndl];exact s34 _ _ hf,(fun b ob e ne=>by rw [ak (aE e nl')];exact s34 _ _ (k2 _ _ e ne)),_,ad,?_⟩⟩
    rw [List.take_add_one,en,Option.toList_some,List.map_append]
    have ko:∀ v x,FrIs a H4 v x→FrIs a (upd H4 l (.lst (ts++[.ref r]))) v x:=fun v x ⟨q,e,dq,g⟩=>⟨q,e,dq,by rw [ak (cS g hl4 (by intro z;cases z))];exact g⟩
    exact RowAt.snoc (hv.mono fun v x z=>ko v x (z.mono s34)) (ko _ _ ⟨r,rfl,f4⟩)
  ·rintro H2 ⟨_,hf,k2,ts,hl2,hv⟩
   rw [tb.len,List.take_length] at hv
   have s2:Same H (upd H2 d (.dK kvs)):=fun b ob e=>by
    by_cases hb:b=d
    ·subst hb
     rw [ad,← hd,e]
    ·rw [ak hb]
     exact k2 _ _ e hb
   refine ⟨o,hf,l,ts,_,N,rfl,SqL.of (show upd H2 d (.dK kvs) l=some (.lst ts) by rw [ak ndl.symm];exact hl2),hv.mono fun v x z=>z.keep (.frz hf),bN,hN,fun r H3 nr s3 f3=>k r H3 (s2.free nr) (s2.trans s3) f3⟩
theorem kv_at {κ:Type} [DecidableEq κ]:∀ {kvs:List (κ × V)} {i:Nat} {kv:κ × V},(kvs.map (·.1)).Nodup→kvs[i]?=some kv→bP kvs kv.1=some kv.2
 | [],_,_,_,e=>by simp at e
 | p::r,0,kv,_,e=>by
  simp at e
  subst e
  exact bR rfl
 | p::r,i+1,kv,nd,e=>by
  have e:r[i]?=some kv:=by simpa using e
  obtain ⟨h1,h2⟩:=List.nodup_cons.mp (show (p.1::r.map (·.1)).Nodup from nd)
  rw [bS fun z=>h1 (by rw [z];exact List.mem_map.mpr ⟨kv,List.mem_of_getElem? e,rfl⟩)]
  exact kv_at h2 e
theorem WantsAt.at_ {H:Hp} {dw:Addr} {ps:List (Str × Rat)} {i:Nat} {p:Str × Rat} (h:WantsAt a H dw ps) (nd:(ps.map (·.1)).Nodup) (hi:ps[i]?=some p):∃ kvs q,H dw=some (.dK kvs)∧bP kvs (Sum.inr p.1)=some (.ref q)∧FrAt a.Fraction H q p.2:=by
 obtain ⟨kvs,h1,h2,h3⟩:=h
 obtain ⟨t,ht,q,rfl,fq⟩:=h3.get' (i:=i) (x:=p.2) (by rw [List.getElem?_map,hi];rfl)
 rw [List.getElem?_map] at ht
 cases e:kvs[i]? with
 | none=>rw [e] at ht;cases ht
 | some kv=>
  rw [e] at ht
  have e2:kv.2=.ref q:=Option.some.inj ht
  have e1:kv.1=Sum.inr p.1:=by
   have g1:(kvs.map (·.1))[i]?=some kv.1:=by rw [List.getElem?_map,e];rfl
   rw [h2,List.getElem?_map,hi] at g1
   exact (Option.some.inj g1).symm
  have nd2:(kvs.map (·.1)).Nodup:=by
   rw [h2,show (fun z:Str × Rat=>(Sum.inr z.1:Key))=(fun n=>(Sum.inr n:Key)) ∘ (fun z:Str × Rat=>z.1) from rfl,← List.map_map]
   exact nd.map _ (fun u v h e=>h (Sum.inr.inj e))
  refine ⟨kvs,q,h1,?_,fq⟩
  rw [← e1,← e2]
  exact kv_at nd2 e
inductive IspNWant (a:Ad) (vs:List V) (H:Hp) (Q:VK):Prop
 | mk (p:Addr) (ps:List (Str × Rat)) (ds:List WD) (i:Nat) (n:Str) (x:Rat) (h1:vs=[.ref p,.str n]) (h2:NetAt a H p ps ds) (h3:(ps.map (·.1)).Nodup) (h4:ps[i]?=some (n,x)) (h5:∀ q,FrAt a.Fraction H q x→Q (.ref q) H):IspNWant a vs H Q
def spNWant (a:Ad):Sp:=fun vs H Q _=>IspNWant a vs H Q
theorem ok_Net_want (T:TX K mg a):MtB P w K mg base CX0 a.Net "want" 1 ["self","place"] (spNWant a):=by
 refine T.m_Net_want.ok sc_Net_want (fun vs H Q E h=>?_) (fun f cdv A outer s H vs Q E hr h=>?_)
 ·obtain ⟨_,_,_,_,_,_,rfl,_⟩:=h
  rfl
 ·obtain ⟨p,ps,ds,i,n,x,rfl,⟨dx,dw,dy,hp,hw,hy⟩,nd,hi,k⟩:=h
  refine ⟨_,(ae (aC (gu (eT (cm hr) (pv 1) (bc (pv 0) rfl))) (ai bX) al)
   (ai (aw (eZ (cm hr) (bc (pv 0) rfl) (pv 1) (fun _ _=>rfl))))),?_⟩
  try dsimp only [aS,Cx.nox,Cx.wish]
  obtain ⟨kvs,q,h1,h2,h3⟩:=hw.at_ nd hi
  refine ⟨_,rfl,_,rfl,p,_,dx,_,_,rfl,hp,T.cl_Net,T.na_Net_wants,fsN_w _ _,dw,_,rfl,DGet.k (k:=Sum.inr n) h1,_,rfl,?_⟩
  rw [h2]
  refine iteF ?_
  refine ⟨_,rfl,p,_,dx,_,_,rfl,hp,T.cl_Net,T.na_Net_wants,fsN_w _ _,_,rfl,dw,.ref q,rfl,?_,k q h3⟩
  rw [← h2]
  exact DGet.k (k:=Sum.inr n) h1
def dF (hi:Option Rat) (x:Rat):Bool:=decide (x<0) || (match hi with | none=>false | some h=>decide (h<x))
def bndB (hi:Option Rat) (x:Rat):Rat:=if x<0 then 0 else hi.getD 0
theorem sgn_lt (x:Rat):sgn x<0↔x<0:=by
 unfold sgn
 have h:x<0↔x.num<0:=by rw [← Rat.not_le,← Rat.num_nonneg];omega
 rw [h]
 split
 ·constructor <;> intro <;> omega
 ·split
  ·constructor <;> intro <;> omega
  ·constructor <;> intro <;> omega
def FtIs (H:Hp) (v:V) (e:Str × Str):Prop:=∃ t,v=.ref t∧H t=some (.tup [.str e.1,.str e.2])
theorem FtIs.mono {H H':Hp} {v:V} {e:Str × Str} (h:FtIs H v e) (s:Same H H'):FtIs H' v e:=let ⟨t,x,y⟩:=h;⟨t,x,s _ _ y⟩
theorem FtIs.lst {H:Hp} {l:Addr} {xs:List V} {o:HO} (hl:H l=some (.lst xs)) {v:V} {e:Str × Str} (h:FtIs H v e):FtIs (upd H l o) v e:=let ⟨t,x,y⟩:=h;⟨t,x,by rw [ak (cS y hl (by intro z;cases z))];exact y⟩
inductive IspBP (a:Ad) (vs:List V) (H:Hp) (Q:VK):Prop
 | mk (v:V) (q:Addr) (d:WD) (x:Rat) (h1:vs=[v,.ref q]) (h2:WayIs a H v d) (h3:FrAt a.Fraction H q x) (h4:SmR x) (h5:(∀ h,d.hi=some h→SmR h)) (h6:(dF d.hi x=true→∀ r H',Same H H'→FrAt a.Fraction H' r (bndB d.hi x)→Q (.ref r) H')) (h7:(dF d.hi x=false→Q .non H)):IspBP a vs H Q
def spBP (a:Ad):Sp:=fun vs H Q _=>IspBP a vs H Q
theorem fw (T:TX K mg a):FnB P w K mg base CX0 "bound_passed" 4 ["way","part"] (spBP a):=by
 refine T.d_bound_passed.ok sc_bound_passed (fun vs H Q E h=>?_) (fun f cdv A outer s H vs Q E hr h=>?_)
 ·obtain ⟨_,_,_,_,rfl,_⟩:=h
  rfl
 ·obtain ⟨v,q,d,x,rfl,hw,hq,sx,sh,k1,k2⟩:=h
  refine ⟨_,(ae (aC (ax dG (pe_frm0 T.fr (pv 1) (ok_sign T) hr aq) af (aD _)) (ai (aw (b7 (mk1 T) hr T.mg_Fraction aq (aa af ac)))) al)
   (ae (aC (PW.pt (gt (ax cF (bc (pv 0) rfl) br (aD _)) (fV (aJ (eG T.fr (bc (pv 0) rfl) (ok_under T) hr aq (aa (pv 1) ac)))))) (ai (aw (bc (pv 0) rfl))) al)
   (ai (aw br)))),?_⟩
  try dsimp only [aS,Cx.nox,Cx.wish]
  obtain ⟨p,vh,vc,qx,rfl,W,hk,_,hh⟩:=hw
  obtain ⟨dx,fs,ho,h5,_⟩:=id W.ob
  have c:=dR T d.kd
  refine ⟨_,rfl,q,x,rfl,hq,q,x,rfl,hq,_,_,rfl,rfl,_,rfl,ifB (fun h1=>?_) (fun h1=>?_)⟩
  ·have hx:=(sgn_lt x).mp h1
   refine ⟨0,1,rfl,by decide,sm1,fun r H' nr s' fr=>?_⟩
   rw [Rat.zero_divInt] at fr
   refine k1 (by unfold dF;rw [decide_eq_true hx];rfl) r H' s' ?_
   unfold bndB
   rw [if_pos hx]
   exact fr
  ·have hx:¬ x<0:=fun z=>h1 ((sgn_lt x).mpr z)
   have o1:dF d.hi x=(match d.hi with | none=>false | some h=>decide (h<x)):=by unfold dF;rw [decide_eq_false hx];rfl
   have o2:bndB d.hi x=d.hi.getD 0:=by unfold bndB;rw [if_neg hx]
   rw [o1] at k1 k2
   rw [o2] at k1
   cases e:d.hi with
   | none=>
    rw [e] at hh k2
    obtain rfl:vh=.non:=hh
    refine ⟨_,rfl,p,_,dx,fs,_,rfl,ho,c.cl,c.n4,h5.hi,rfl,_,rfl,iteF ?_⟩
    exact k2 rfl
   | some h=>
    rw [e] at hh k1 k2
    obtain ⟨qh,rfl,fh⟩:=hh
    refine ⟨_,rfl,p,_,dx,fs,_,rfl,ho,c.cl,c.n4,h5.hi,rfl,_,rfl,iteT ?_⟩
    refine ⟨_,rfl,p,_,dx,fs,_,rfl,ho,c.cl,c.n4,h5.hi,qh,_,rfl,fh,_,rfl,qh,q,_,_,rfl,fh,hq,sh h e,sx,_,rfl,?_⟩
    by_cases hlt:h<x
    ·refine fA (decide_eq_true hlt) ?_
     exact ⟨_,rfl,p,_,dx,fs,_,rfl,ho,c.cl,c.n4,h5.hi,k1 (decide_eq_true hlt) qh H (Same.refl _) fh⟩
    ·refine c6 (decide_eq_false hlt) ?_
     exact k2 (decide_eq_false hlt)
def aO (ds:List WD) (ks:List Str):List Str:=ks.filter (fun n=>decide (¬ n∈ds.map (·.nm)))
def OwnIs (_:Hp) (v:V) (_:Unit):Prop:=v=.bl true
inductive IspONames (a:Ad) (vs:List V) (H:Hp) (Q:VK):Prop
 | mk (p d:Addr) (ps:List (Str × Rat)) (ds:List WD) (kvs:List (Key × V)) (ks:List Str) (f:Str→Rat) (h1:vs=[.ref p,.ref d]) (h2:NetOff a H p d ps ds) (h3:(ds.map (·.nm)).Nodup) (h4:ds.length≤100) (h5:H d=some (.dK kvs)) (h6:Tab (FrIs a) H kvs ks f) (h7:ks.Nodup) (h8:ks.length≤100) (h9:∀ l H',H l=none→Same H H'→H' l=some (.lst ((aO ds ks).map V.str))→Q (.ref l) H'):IspONames a vs H Q
def spONames (a:Ad):Sp:=fun vs H Q _=>IspONames a vs H Q
theorem ok_other_names (T:TX K mg a):FnB P w K mg base CX0 "other_names" 2 ["net","plan"] (spONames a):=by
 refine T.d_other_names.ok sc_other_names (fun vs H Q E h=>?_) (fun f cdv A outer s H vs Q E hr h=>?_)
 ·obtain ⟨_,_,_,_,_,_,_,rfl,_⟩:=h
  rfl
 ·obtain ⟨p,d,ps,ds,kvs,ks,f,rfl,hn,nd,ld,hd,tb,ndk,lk,k⟩:=h
  refine ⟨_,(ae (ar (i:=2) sc_other_names.nd rfl (Or.inr rfl) eS)
   (aN (bu PassesOwn.never rfl (bH (et (CX:=CX0) (pv 0) hr aq)) (aA (i:=3) sc_other_names.nd rfl (Or.inl rfl)) (ai (d9 (cm hr) (pv 2) (bc (pv 3) rfl) fu rfl)))
   (ai (aw (pe_thaw (d6 (xs:=["name"]) (rest:=["own"]) rfl (pi_dict (pv 1))
   (fun pins fp C' s' H'=>(aA (i:=0) (show (["name","own"]:List Str).Nodup by decide +kernel) rfl (Or.inl rfl))) (fun pins fp C' s' H'=>(pts_one (gu (eT (cm hr) (pv 0) (pv 1)))))
   (fun pins fp C' s' H'=>(pv 0))
   (Clos.many (ys:=["own"]) rfl ⟨rfl,True.intro⟩ rfl (by decide +kernel)) (Reads.many (ys:=["own"]) (js:=[2]) ⟨⟨rfl,rfl,rfl⟩,True.intro⟩))))))),?_⟩
  try dsimp only [aS,Cx.nox,Cx.wish]
  intro r nr
  have s0:Same H (upd H r (.dK [])):=aj nr
  have hr0:upd H r (.dK []) r=some (.dK []):=ad
  generalize upd H r (.dK [])=H0 at s0 hr0 ⊢
  refine ⟨fun σ' H'=>∃ z3 kvr,σ'=[some (.ref p),some (.ref d),some (.ref r),z3]∧Same H H'∧H' r=some (.dK kvr)∧Tab OwnIs H' kvr (ds.map (·.nm)) (fun _=>()),?_,?_⟩
  ·obtain ⟨dx,dw,dy,hp,hw,hy⟩:=(hn.mono s0).at_
   refine ⟨_,rfl,p,a.Net,dx,_,1,["self"],spNAll a,rfl,hp,dH _ _ (by decide +kernel) (by decide +kernel),T.cl_Net,by decide,cG T,p,ps,ds,rfl,⟨dx,dw,dy,hp,hw,hy⟩,fun l H1 ts nl s1 hl hv=>?_⟩
   refine ⟨l,rfl,⟨_,SqL.of hl⟩,bO (K:=K) (a:=l) (xs:=ts) (fun i σ H2=>i≤ds.length∧∃ z3 kvr,σ=[some (.ref p),some (.ref d),some (.ref r),z3]∧Same H H2∧KeepD H1 H2∧H2 r=some (.dK kvr)∧Tab OwnIs H2 kvr ((ds.map (·.nm)).take i) (fun _=>()))
    ⟨Nat.zero_le _,_,[],rfl,s0.trans s1,.of (Same.refl _),s1 _ _ hr0,Tab.nil⟩ (fun i σ H2 _ ⟨_,_,_,_,_,kp,_⟩=>SqL.of (kp _ _ hl (by intro _ z;cases z) (by intro _ _ z;cases z))) ?_ ?_⟩
   ·rintro i t σ H2 ht ⟨_,z3,kvr,rfl,s2,kp,hr2,tr⟩
    obtain ⟨y,ey,wy⟩:=hv.get ht
    have hi:=(List.getElem?_eq_some_iff.mp ey).1
    have en:(ds.map (·.nm))[i]?=some y.nm:=by rw [List.getElem?_map,ey];rfl
    obtain ⟨tk,nk⟩:=eL nd en
    have wy2:WayIs a H2 t y:=wy.keep fun b C dx fs _ e=>kp _ _ e (by intro _ z;cases z) (by intro _ _ z;cases z)
    obtain ⟨p1,vh,vc,q1,rfl,W,hk⟩:=wy2
    obtain ⟨dx1,fs1,ho,h5,_⟩:=id W.ob
    have c:=dR T y.kd
    have lkr:kvr.length≤100:=by rw [tr.len,List.length_take,List.length_map];omega
    refine ⟨_,rfl,_,rfl,p1,_,dx1,fs1,_,rfl,ho,c.cl,c.n1,h5.nm,r,_,rfl,DPut.k (k:=Sum.inr y.nm) hr2 (aL (by omega)),?_⟩
    refine ⟨hi,_,_,rfl,aP nr s2,kp.trans (KeepD.put hr2),ad,?_⟩
    rw [tk,← ic nk]
    exact (Tab.put (n:=y.nm) (y:=()) (v:=.bl true) (tr.mono (H':=upd H2 r (.dK (cX kvr (Sum.inr y.nm) (.bl true)))) fun v x z=>z) rfl).congr fun m _=>rfl
   ·rintro σ H2 ⟨_,z3,kvr,rfl,s2,kp,hr2,tr⟩
    rw [hv.1,show ds.length=(ds.map (·.nm)).length by rw [List.length_map],List.take_length] at tr
    exact ⟨_,kvr,rfl,s2,hr2,tr⟩
  rintro σ' H1 ⟨z3,kvr,rfl,s1,hr1,tr⟩
  have hd1:=s1 _ _ hd
  have tb1:=tb.mono fun v x z=>FrIs.mono z s1
  refine ⟨d,.dK kvs,hd1,(by intro o z e;cases e),_,rfl,d,kvs,rfl,hd1,fun o l nl=>?_⟩
  have ndl:d≠l:=fun z=>by rw [z,ad] at nl;cases nl
  have nl':H1 l=none:=by rw [ak ndl.symm] at nl;exact nl
  have ndr:r≠d:=fun z=>by rw [z,hd] at nr;cases nr
  refine compG_dict (a:=d) (o:=o) (kvs:=kvs) (fun i H2=>i≤ks.length∧H2 d=some (.frz o (.dK kvs))∧(∀ b ob,H1 b=some ob→b≠d→H2 b=some ob)∧H2 l=some (.lst ((aO ds (ks.take i)).map V.str)))
   ⟨Nat.zero_le _,by rw [ak ndl,ad],(fun b ob e ne=>by rw [ak (aE e nl'),ak ne];exact e),ad⟩ (fun i H2 ⟨_,h,_⟩=>h) ?_ ?_
  ·rintro i kv H2 hkv ⟨_,hf,k2,hl2⟩
   obtain ⟨n,en,e1,ev,_⟩:=tb1.at_ ndk hkv
   have hi:i<ks.length:=(List.getElem?_eq_some_iff.mp en).1
   have ekv:kV kv.1=.str n:=by rw [e1];rfl
   rw [ekv]
   have hr2:=k2 _ _ hr1 ndr
   have tk:aO ds (ks.take (i+1))=aO ds (ks.take i)++[n].filter (fun n=>decide (¬ n∈ds.map (·.nm))):=by
    unfold aO
    rw [List.take_add_one,en,Option.toList_some,List.filter_append]
   have ll:(aO ds (ks.take i)).length≤100:=by
    unfold aO
    exact Nat.le_trans (List.length_filter_le _ _) (by rw [List.length_take];omega)
   refine g1 ⟨⟨[_],rfl,rfl⟩,?_⟩
   refine ⟨_,rfl,_,rfl,r,_,rfl,DGet.k (k:=Sum.inr n) hr2,_,rfl,?_⟩
   by_cases hin:n∈ds.map (·.nm)
   ·obtain ⟨v,ev',_⟩:=tr.vals n hin
    rw [ev']
    refine iteF ?_
    refine c7 (by rw [tb1.len];exact hi) ⟨hi,hf,k2,?_⟩
    rw [tk,List.filter_cons_of_neg (by simpa using hin),List.filter_nil,List.append_nil]
    exact hl2
   ·rw [tr.none hin]
    refine iteT ?_
    refine ⟨_,rfl,_,hl2,aL (by rw [List.length_map];omega),c7 (by rw [tb1.len];exact hi) ⟨hi,by rw [ak ndl];exact hf,(fun b ob e ne=>by rw [ak (aE e nl')];exact k2 _ _ e ne),?_⟩⟩
    rw [ad,tk,List.map_append,List.filter_cons_of_pos (by simpa using hin)]
    rfl
  ·rintro H2 ⟨_,hf,k2,hl2⟩
   rw [tb1.len,List.take_length] at hl2
   refine ⟨o,hf,?_⟩
   have s2:Same H1 (upd H2 d (.dK kvs)):=fun b ob e=>by
    by_cases hb:b=d
    ·subst hb
     rw [ad,← hd1,e]
    ·rw [ak hb]
     exact k2 _ _ e hb
   exact k l _ (s1.free nl') (s1.trans s2) (by rw [ak ndl.symm];exact hl2)
def a7 (A:Str→Rat) (ds:List WD):List (Str × Str):=(ds.filter fun y=>dF y.hi (A y.nm)).map fun y=>("bound",y.nm)
def bv (F:Str→Rat) (ps:List (Str × Rat)):List (Str × Str):=(ps.filter fun z=>decide (F z.1<z.2)).map fun z=>("place",z.1)
def aZ (ks:List Str) (A:Str→Rat) (ps:List (Str × Rat)) (ds:List WD):List (Str × Str):=(aO ds ks).map (fun n=>(("way":Str),n))++a7 A ds++bv (cD A ds) ps
theorem dS (A:Str→Rat) (ds:List WD) (y:WD):a7 A (ds++[y])=a7 A ds++(if dF y.hi (A y.nm)=true then [(("bound":Str),y.nm)] else []):=by
 unfold a7
 rw [List.filter_append,List.map_append]
 congr 1
 split
 ·rename_i h
  rw [List.filter_cons_of_pos (by simpa using h)]
  rfl
 ·rename_i h
  rw [List.filter_cons_of_neg (by simpa using h)]
  rfl
theorem dM (F:Str→Rat) (ps:List (Str × Rat)) (z:Str × Rat):bv F (ps++[z])=bv F ps++(if F z.1<z.2 then [(("place":Str),z.1)] else []):=by
 unfold bv
 rw [List.filter_append,List.map_append]
 congr 1
 split
 ·rename_i h
  rw [List.filter_cons_of_pos (by simpa using h)]
  rfl
 ·rename_i h
  rw [List.filter_cons_of_neg (by simpa using h)]
  rfl
theorem cV (A:Str→Rat) (ds:List WD):(a7 A ds).length≤ds.length:=by
 unfold a7
 rw [List.length_map]
 exact List.length_filter_le _ _
theorem placesF_len (F:Str→Rat) (ps:List (Str × Rat)):(bv F ps).length≤ps.length:=by
 unfold bv
 rw [List.length_map]
 exact List.length_filter_le _ _
structure FltOk (a:Ad) (H:Hp) (p d:Addr) (ps:List (Str × Rat)) (ds:List WD) (kvs:List (Key × V)) (ks:List Str) (f:Str→Rat):Prop where
 net:NetOff a H p d ps ds
 nd:(ds.map (·.nm)).Nodup
 ld:ds.length≤100
 hd:H d=some (.dK kvs)
 tb:Tab (FrIs a) H kvs ks f
 nk:ks.Nodup
 lk:ks.length≤100
 lp:ps.length≤100
 so:SumOk (cb ks f) ps ds
 hi:∀ y∈ds,∀ h,y.hi=some h→SmR h
 wa:∀ z∈ps,SmR z.2
theorem FltOk.mono {H H':Hp} {p d:Addr} {ps:List (Str × Rat)} {ds:List WD} {kvs:List (Key × V)} {ks:List Str} {f:Str→Rat} (h:FltOk a H p d ps ds kvs ks f) (s:Same H H'):FltOk a H' p d ps ds kvs ks f:=
 ⟨h.net.mono s,h.nd,h.ld,s _ _ h.hd,h.tb.mono fun v x z=>FrIs.mono z s,h.nk,h.lk,h.lp,h.so,h.hi,h.wa⟩
inductive IspFaults (a:Ad) (vs:List V) (H:Hp) (Q:VK):Prop
 | mk (p d:Addr) (ps:List (Str × Rat)) (ds:List WD) (kvs:List (Key × V)) (ks:List Str) (f:Str→Rat) (h1:vs=[.ref p,.ref d]) (h2:FltOk a H p d ps ds kvs ks f) (h3:∀ l H' ts,H l=none→Same H H'→H' l=some (.lst ts)→RowAt FtIs H' ts (aZ ks (cb ks f) ps ds)→Q (.ref l) H'):IspFaults a vs H Q
def spFaults (a:Ad):Sp:=fun vs H Q _=>IspFaults a vs H Q
theorem fX (T:TX K mg a):FnB P w K mg base CX0 "faults" 10 ["net","plan"] (spFaults a):=by
 refine T.d_faults.ok sc_faults (fun vs H Q E h=>?_) (fun f cdv A outer s H vs Q E hr h=>?_)
 ·obtain ⟨_,_,_,_,_,_,_,rfl,_⟩:=h
  rfl
 ·obtain ⟨p,d,ps,ds,kvs,ks,f,rfl,ok,k⟩:=h
  generalize eA:cb ks f=A at k
  have so:=ok.so
  rw [eA] at so
  have ld:=ok.ld
  have lk:=ok.lk
  have lp:=ok.lp
  refine ⟨_,(aN (d5 (i:=2) (xs:=["name"]) (rest:=[]) sc_faults.nd rfl rfl rfl (bH (aG (ok_other_names T) hr aq (aa (pv 0) (aa (pv 1) ac))))
   (fun pins fp C' s' H'=>(aA (i:=0) (show (["name"]:List Str).Nodup by decide +kernel) rfl (Or.inl rfl))) (fun pins fp C' s' H'=>dC)
   (fun pins fp C' s' H'=>(aR (aa aK (aa (pv 0) ac))))
   (Clos.none (by decide +kernel) (by decide +kernel)) (Reads.many (ys:=[]) (js:=[]) True.intro))
   (aN (bu PassesOwn.never rfl (bH (et (CX:=CX0) (pv 0) hr aq)) (aA (i:=3) sc_faults.nd rfl (Or.inl rfl)) (ai (aC (ax cF (aG (fw T) hr aq (aa (pv 3) (aa (aG (ok_amount T) hr aq (aa (pv 1) (aa (bc (pv 3) rfl) ac))) ac))) br (aD _)) (ai (aI (bf PySem.F.plainAttrs_list PySem.F.slot_list_append PySem.F.type_list_append aF (pv 2) (aa (aR (aa aK (aa (bc (pv 3) rfl) ac))) ac)))) al)))
   (ae (ar (i:=4) sc_faults.nd rfl (Or.inl rfl) (aG (dJ T) hr aq (aa (pv 0) (aa (pv 1) ac))))
   (ae (bu PassesOwn.never rfl (bH (et (CX:=CX0) (pv 0) hr aq)) (aA (i:=5) sc_faults.nd rfl (Or.inl rfl)) (ai (aC (aJ (eG T.fr (eZ (cm hr) (pv 4) (pv 5) (fun _ _=>rfl)) (ok_under T) hr aq (aa (gw (CX:=CX0) (pv 0) hr aq (aa (pv 5) ac)) ac))) (ai (aI (bf PySem.F.plainAttrs_list PySem.F.slot_list_append PySem.F.type_list_append aF (pv 2) (aa (aR (aa aK (aa (pv 5) ac))) ac)))) al)))
   (ai (aw (pv 2))))))),?_⟩
  try dsimp only [aS,Cx.nox,Cx.wish]
  have lo:(aO ds ks).length≤100:=by
   unfold aO
   exact Nat.le_trans (List.length_filter_le _ _) lk
  refine ⟨fun σ' H'=>∃ l ts,σ'=[some (.ref p),some (.ref d),some (.ref l),none,none,none]∧H l=none∧Same H H'∧H' l=some (.lst ts)∧RowAt FtIs H' ts ((aO ds ks).map (fun n=>(("way":Str),n))),?_,?_⟩
  ·refine ⟨_,rfl,_,rfl,p,d,ps,ds,kvs,ks,f,rfl,ok.net,ok.nd,ld,ok.hd,ok.tb,ok.nk,lk,fun lo1 H1 nlo s1 hlo=>?_⟩
   refine ⟨lo1,rfl,⟨_,SqL.of hlo⟩,fun l nl=>?_⟩
   refine fm (K:=K) (a:=lo1) (xs:=(aO ds ks).map V.str) (fun i H2=>i≤(aO ds ks).length∧Same H1 H2∧∃ ts,H2 l=some (.lst ts)∧RowAt FtIs H2 ts (((aO ds ks).take i).map (fun n=>(("way":Str),n)))) ⟨Nat.zero_le _,aj nl,[],ad,RowAt.nil⟩ (fun i H2 ⟨_,s2,_⟩=>SqL.of (s2 _ _ hlo)) ?_ ?_
   ·rintro i x H2 hx ⟨_,s2,ts,h2,hv⟩
    rw [List.getElem?_map] at hx
    cases ex:(aO ds ks)[i]? with
    | none=>rw [ex] at hx;cases hx
    | some n=>
     rw [ex] at hx
     cases hx
     have hi:=(List.getElem?_eq_some_iff.mp ex).1
     refine g1 ⟨⟨[_],rfl,rfl⟩,yes ?_⟩
     refine ⟨_,rfl,by show 2≤sizeLine;decide,fun t nt=>?_⟩
     have s3:=aj (o:=.tup [.str "way",.str n]) nt
     have ht:upd H2 t (.tup [.str "way",.str n]) t=some (.tup [.str "way",.str n]):=ad
     generalize upd H2 t (.tup [.str "way",.str n])=H3 at s3 ht ⊢
     have h3:=s3 _ _ h2
     have lts:ts.length=i:=by rw [hv.1,List.length_map,List.length_take];omega
     refine ⟨_,h3,aL (by omega),c7 (by rw [List.length_map];exact hi) ⟨hi,aP nl (s2.trans s3),_,ad,?_⟩⟩
     rw [List.take_add_one,ex,Option.toList_some,List.map_append]
     exact RowAt.snoc (hv.mono fun v x z=>(z.mono s3).lst h3) (FtIs.lst h3 ⟨t,rfl,ht⟩)
   ·rintro H2 ⟨_,s2,ts,h2,hv⟩
    rw [List.length_map,List.take_length] at hv
    exact ⟨l,ts,rfl,s1.free nl,s1.trans s2,h2,hv⟩
  rintro σ' H1 ⟨l,ts1,rfl,nl,s1,hl1,hv1⟩
  have lt1:ts1.length≤100:=by rw [hv1.1,List.length_map];exact lo
  refine ⟨fun σ' H'=>∃ ts z3,σ'=[some (.ref p),some (.ref d),some (.ref l),z3,none,none]∧Same H H'∧H' l=some (.lst ts)∧RowAt FtIs H' ts ((aO ds ks).map (fun n=>(("way":Str),n))++a7 A ds),?_,?_⟩
  ·obtain ⟨dx,dw,dy,hp,hw,hy⟩:=(ok.net.mono s1).at_
   refine ⟨_,rfl,p,a.Net,dx,_,1,["self"],spNAll a,rfl,hp,dH _ _ (by decide +kernel) (by decide +kernel),T.cl_Net,by decide,cG T,p,ps,ds,rfl,⟨dx,dw,dy,hp,hw,hy⟩,fun lw H2 tw nlw s2 hlw hw2=>?_⟩
   have s12:=s1.trans s2
   refine ⟨lw,rfl,⟨_,SqL.of hlw⟩,bO (K:=K) (a:=lw) (xs:=tw) (fun i σ H3=>i≤ds.length∧∃ ts z3,σ=[some (.ref p),some (.ref d),some (.ref l),z3,none,none]∧Same H H3∧(∀ b u,H2 b=some u→b≠l→H3 b=some u)∧H3 l=some (.lst ts)∧RowAt FtIs H3 ts ((aO ds ks).map (fun n=>(("way":Str),n))++a7 A (ds.take i)))
    ⟨Nat.zero_le _,ts1,_,rfl,s12,(fun _ _ e _=>e),s2 _ _ hl1,by rw [List.take_zero,show a7 A []=[] from rfl,List.append_nil];exact hv1.mono fun v x z=>z.mono s2⟩ (fun i σ H3 _ ⟨_,_,_,_,_,kb,_⟩=>SqL.of (kb _ _ hlw (fun z=>by rw [z,hl1] at nlw;cases nlw))) ?_ ?_⟩
   ·rintro i t σ H3 ht ⟨_,ts,z3,rfl,s3,kb,hl3,hv3⟩
    obtain ⟨y,ey,wy⟩:=hw2.get ht
    have hi:=(List.getElem?_eq_some_iff.mp ey).1
    have my:=List.mem_of_getElem? ey
    have wy3:WayIs a H3 t y:=wy.keep fun b C dx fs _ e=>kb _ _ e (fun z=>by rw [z,s2 _ _ hl1] at e;cases e)
    have wyo:=id wy3
    obtain ⟨p1,vh,vc,q1,rfl,W,hk⟩:=wy3
    obtain ⟨dx1,fs1,ho,h5,_⟩:=id W.ob
    have c:=dR T y.kd
    have tk:ds.take (i+1)=ds.take i++[y]:=by rw [List.take_add_one,ey];rfl
    have lts:ts.length≤200:=by
     have:=cV A (ds.take i)
     rw [List.length_take] at this
     rw [hv3.1,List.length_append,List.length_map]
     omega
    refine ⟨_,rfl,_,rfl,_,rfl,p1,_,dx1,fs1,_,rfl,ho,c.cl,c.n1,h5.nm,d,kvs,ks,f,y.nm,rfl,.inl (s3 _ _ ok.hd),ok.tb.mono (fun v x z=>FrIs.mono z s3),fun q H4 s4 f4=>?_⟩
    rw [eA] at f4
    refine ⟨_,q,y,A y.nm,rfl,wyo.mono s4,f4,(so.sa y my).1,ok.hi y my,fun hov r H5 s5 fr=>?_,fun hov=>?_⟩
    ·refine ⟨rfl,_,rfl,iteT ?_⟩
     have s45:=s4.trans s5
     have hl5:=s45 _ _ hl3
     refine ⟨_,rfl,.inl ⟨rfl,_,SqL.of hl5⟩,_,rfl,p1,_,dx1,fs1,_,rfl,s45 _ _ ho,c.cl,c.n1,h5.nm,by show 2≤sizeLine;decide,fun u nu=>?_⟩
     have s6:=aj (o:=.tup [.str "bound",.str y.nm]) nu
     have hu:upd H5 u (.tup [.str "bound",.str y.nm]) u=some (.tup [.str "bound",.str y.nm]):=ad
     generalize upd H5 u (.tup [.str "bound",.str y.nm])=H6 at s6 hu ⊢
     have s36:=s45.trans s6
     have hl6:=s36 _ _ hl3
     refine ⟨l,_,_,rfl,rfl,hl6,aL (by omega),?_⟩
     refine ⟨hi,_,_,rfl,aP nl (s3.trans s36),(fun b w e ne=>by rw [ak ne];exact s36 _ _ (kb _ _ e ne)),ad,?_⟩
     rw [tk,dS,if_pos hov,← List.append_assoc]
     exact RowAt.snoc (hv3.mono fun v x z=>(z.mono s36).lst hl6) (FtIs.lst hl6 ⟨u,rfl,hu⟩)
    ·refine ⟨rfl,_,rfl,iteF ?_⟩
     refine ⟨hi,ts,_,rfl,s3.trans s4,(fun b w e ne=>s4 _ _ (kb _ _ e ne)),s4 _ _ hl3,?_⟩
     rw [tk,dS,if_neg (by rw [hov];decide),List.append_nil]
     exact hv3.mono fun v x z=>z.mono s4
   ·rintro σ H3 ⟨_,ts,z3,rfl,s3,kb,hl3,hv3⟩
    rw [hw2.1,List.take_length] at hv3
    exact ⟨ts,_,rfl,s3,hl3,hv3⟩
  rintro σ' H2 ⟨ts2,z3,rfl,s2,hl2,hv2⟩
  have lt2:ts2.length≤200:=by
   have:=cV A ds
   rw [hv2.1,List.length_append,List.length_map]
   omega
  refine ⟨_,rfl,_,rfl,p,d,ps,ds,kvs,ks,f,rfl,(ok.net.mono s2).at_,s2 _ _ ok.hd,ok.tb.mono (fun v x z=>FrIs.mono z s2),ok.so,fun r H3 kvr nr s3 hr3 tr=>?_⟩
  rw [eA] at tr
  have s23:=s2.trans s3
  have hl3:=s3 _ _ hl2
  obtain ⟨dx,dw,dy,hp,hw,hy⟩:=(ok.net.mono s23).at_
  refine ⟨_,rfl,p,a.Net,dx,_,1,["self"],spNNames a,rfl,hp,dH _ _ (by decide +kernel) (by decide +kernel),T.cl_Net,by decide,g8 T,p,ps,ds,rfl,⟨dx,dw,dy,hp,hw,hy⟩,fun ln nln=>?_⟩
  have s4:=aj (o:=.lst (ps.map fun x=>V.str x.1)) nln
  have hln:upd H3 ln (.lst (ps.map fun x=>V.str x.1)) ln=some (.lst (ps.map fun x=>V.str x.1)):=ad
  generalize upd H3 ln (.lst (ps.map fun x=>V.str x.1))=H4 at s4 hln ⊢
  have lnl:ln≠l:=fun z=>by rw [z,hl3] at nln;cases nln
  have rl:r≠l:=fun z=>by rw [z,hl2] at nr;cases nr
  have hl4:=s4 _ _ hl3
  have hr4:=s4 _ _ hr3
  have tr4:=tr.mono fun v x z=>FrIs.mono z s4
  refine ⟨ln,rfl,⟨_,SqL.of hln⟩,bO (K:=K) (a:=ln) (xs:=ps.map fun x=>V.str x.1) (fun i σ H5=>i≤ps.length∧∃ ts z5,σ=[some (.ref p),some (.ref d),some (.ref l),z3,some (.ref r),z5]∧Same H H5∧(∀ b u,H4 b=some u→b≠l→H5 b=some u)∧H5 l=some (.lst ts)∧RowAt FtIs H5 ts ((aO ds ks).map (fun n=>(("way":Str),n))++a7 A ds++bv (cD A ds) (ps.take i)))
   ⟨Nat.zero_le _,ts2,_,rfl,s23.trans s4,(fun _ _ e _=>e),hl4,by rw [List.take_zero,show bv (cD A ds) []=[] from rfl,List.append_nil];exact hv2.mono fun v x z=>(z.mono s3).mono s4⟩ (fun i σ H5 _ ⟨_,_,_,_,_,kb,_⟩=>SqL.of (kb _ _ hln lnl)) ?_ ?_⟩
  ·rintro i t σ H5 ht ⟨_,ts,z5,rfl,s5,kb,hl5,hv5⟩
   rw [List.getElem?_map] at ht
   cases ex:ps[i]? with
   | none=>rw [ex] at ht;cases ht
   | some x=>
    rw [ex] at ht
    cases ht
    have hi:=(List.getElem?_eq_some_iff.mp ex).1
    have mx:=List.mem_of_getElem? ex
    have tk:ps.take (i+1)=ps.take i++[x]:=by rw [List.take_add_one,ex];rfl
    have lts:ts.length≤300:=by
     have:=cV A ds
     have:=placesF_len (cD A ds) (ps.take i)
     rw [List.length_take] at this
     rw [hv5.1,List.length_append,List.length_append,List.length_map]
     omega
    obtain ⟨v,ev,x',rfl,fx⟩:=tr4.vals x.1 (List.mem_map.mpr ⟨x,mx,rfl⟩)
    have hr5:=kb _ _ hr4 rl
    have fx5:FrAt a.Fraction H5 x' (cD A ds x.1):=by
     obtain ⟨dq,g⟩:=fx
     exact ⟨dq,kb _ _ g (fun z=>by rw [z,hl4] at g;cases g)⟩
    obtain ⟨dx5,dw5,dy5,hp5,hw5,hy5⟩:=(ok.net.mono s5).at_
    have sf:SmR (cD A ds x.1):=by
     have:=so.sf ds.length x.1
     rwa [List.take_length] at this
    refine ⟨_,rfl,_,rfl,r,.ref x',rfl,.inl ⟨kvr,Sum.inr x.1,.inl hr5,rfl,ev.symm⟩,x',_,rfl,fx5,_,rfl,p,a.Net,dx5,_,1,["self","place"],spNWant a,rfl,hp5,dH _ _ (by decide +kernel) (by decide +kernel),T.cl_Net,by decide,ok_Net_want T,_,rfl,p,ps,ds,i,x.1,x.2,rfl,⟨dx5,dw5,dy5,hp5,hw5,hy5⟩,so.np,ex,fun q fq=>?_⟩
    refine ⟨x',q,_,_,rfl,fx5,fq,sf,ok.wa x mx,_,rfl,?_⟩
    by_cases hlt:cD A ds x.1<x.2
    ·refine fA (decide_eq_true hlt) ?_
     refine ⟨_,rfl,.inl ⟨rfl,_,SqL.of hl5⟩,_,rfl,by show 2≤sizeLine;decide,fun u nu=>?_⟩
     have s6:=aj (o:=.tup [.str "place",.str x.1]) nu
     have hu:upd H5 u (.tup [.str "place",.str x.1]) u=some (.tup [.str "place",.str x.1]):=ad
     generalize upd H5 u (.tup [.str "place",.str x.1])=H6 at s6 hu ⊢
     have hl6:=s6 _ _ hl5
     refine ⟨l,_,_,rfl,rfl,hl6,aL (by omega),?_⟩
     refine ⟨hi,_,_,rfl,aP nl (s5.trans s6),(fun b w e ne=>by rw [ak ne];exact s6 _ _ (kb _ _ e ne)),ad,?_⟩
     rw [tk,dM,if_pos hlt,← List.append_assoc]
     exact RowAt.snoc (hv5.mono fun v x z=>(z.mono s6).lst hl6) (FtIs.lst hl6 ⟨u,rfl,hu⟩)
    ·refine c6 (decide_eq_false hlt) ?_
     refine ⟨hi,ts,_,rfl,s5,kb,hl5,?_⟩
     rw [tk,dM,if_neg hlt,List.append_nil]
     exact hv5
  ·rintro σ H5 ⟨_,ts,z5,rfl,s5,kb,hl5,hv5⟩
   rw [List.length_map,List.take_length] at hv5
   exact ⟨_,rfl,k l H5 ts nl s5 hl5 hv5⟩
def RefE (a:Ad) (H:Hp) (ps:List (Str × Rat)) (ds:List WD) (ks:List Str) (A:Str→Rat) (E:XK) (w n:Str):Prop:=
 (w = "way"∧NoWayE a H n E)∨
 (w = "bound"∧∃ y∈ds,y.nm=n∧dF y.hi (A n)=true∧∀ H' dx q,Same H H'→FrAt a.Fraction H' q (bndB y.hi (A n))→H' dx=some (.xd [("bound",.ref q),("name",.str n)])→E (.ref a.OverBound) (some dx) H')∨
 (w = "place"∧(∀ m∈ks,m∈ds.map (·.nm))∧∃ (i:Nat) (x:Rat),ps[i]?=some (n,x)∧∀ H' dx q,Same H H'→FrAt a.Fraction H' q (x-cD A ds n)→H' dx=some (.xd [("lacking",.ref q),("place",.str n)])→E (.ref a.Short) (some dx) H')
theorem RefE.mono {H H':Hp} {ps:List (Str × Rat)} {ds:List WD} {ks:List Str} {A:Str→Rat} {E:XK} {w n:Str} (h:RefE a H ps ds ks A E w n) (s:Same H H'):RefE a H' ps ds ks A E w n:=by
 rcases h with ⟨e,h⟩ | ⟨e,y,my,ey,ov,h⟩ | ⟨e,sub,i,x,hi,h⟩
 ·exact .inl ⟨e,fun H2 dx s2=>h H2 dx (s.trans s2)⟩
 ·exact .inr (.inl ⟨e,y,my,ey,ov,fun H2 dx q s2=>h H2 dx q (s.trans s2)⟩)
 ·exact .inr (.inr ⟨e,sub,i,x,hi,fun H2 dx q s2=>h H2 dx q (s.trans s2)⟩)
inductive IspRefuse (a:Ad) (vs:List V) (H:Hp) (E:XK):Prop
 | mk (p d t:Addr) (ps:List (Str × Rat)) (ds:List WD) (kvs:List (Key × V)) (ks:List Str) (f:Str→Rat) (w n:Str) (h1:vs=[.ref p,.ref d,.ref t]) (h2:FltOk a H p d ps ds kvs ks f) (h3:H t=some (.tup [.str w,.str n])) (h4:n.length≤1000) (h5:RefE a H ps ds ks (cb ks f) E w n):IspRefuse a vs H E
def spRefuse (a:Ad):Sp:=fun vs H _ E=>IspRefuse a vs H E
theorem ok_refuseX (T:TX K mg a):FnB P w K mg base (CX1 P w) "refuse" 12 ["net","plan","fault"] (spRefuse a):=by
 refine T.d_refuse.okX sc_refuse (fun vs H Q E h=>?_) (fun f cdv A outer s H vs Q E hr h=>?_)
 ·obtain ⟨_,_,_,_,_,_,_,_,_,_,rfl,_⟩:=h
  rfl
 ·obtain ⟨p,d,t,ps,ds,kvs,ks,f,wd,n,rfl,ok,ht,ln,hE⟩:=h
  refine ⟨_,(ae (ar (i:=3) sc_refuse.nd rfl (Or.inl rfl) (au aB (pv 2) af (fun _ _=>rfl)))
   (ae (ar (i:=4) sc_refuse.nd rfl (Or.inl rfl) (au aB (pv 2) af (fun _ _=>rfl)))
   (ae (aC (ax cA (pv 3) aK (aD _)) (ai (ps_raiseI xout1 rfl hr (by rfl) T.mg_NoWay (xi_NoWay T) (aa (pv 4) ac))) al)
   (ae (aC (ax cA (pv 3) aK (aD _)) (ai (ps_raiseI xout1 rfl hr (by rfl) T.mg_OverBound (xi_OverBound T) (aa (pv 4) (aa (aG (fw T) hr aq (aa (gw (CX:=CX0) (pv 0) hr aq (aa (pv 4) ac)) (aa (aG (ok_amount T) hr aq (aa (pv 1) (aa (pv 4) ac))) ac))) ac)))) al)
   (ai (ps_raiseI xout1 rfl hr (by rfl) T.mg_Short (xi_Short T) (aa (pv 4) (aa (eG T.fr (gw (CX:=CX0) (pv 0) hr aq (aa (pv 4) ac)) (ok_minus T) hr aq (aa (eZ (cm hr) (aG (ok_sums T) hr aq (aa (pv 0) (aa (pv 1) ac))) (pv 4) (fun _ _=>rfl)) ac)) ac)))))))),?_⟩
  try dsimp only [aS,Cx.nox,Cx.wish]
  refine ⟨_,rfl,t,_,_,_,rfl,rfl,SqT.of ht,rfl,_,rfl,t,_,_,_,rfl,rfl,SqT.of ht,rfl,?_⟩
  have so:=ok.so
  rcases hE with ⟨rfl,hE⟩ | ⟨rfl,y,my,rfl,ov,hE⟩ | ⟨rfl,sub,i,x,hi,hE⟩
  ·refine ⟨_,rfl,rfl,_,rfl,fA (by decide +kernel) ?_⟩
   exact ⟨_,rfl,raise_nw ln hE⟩
  ·skip
   refine ⟨_,rfl,rfl,_,rfl,c6 (by decide +kernel) ?_⟩
   refine ⟨_,rfl,rfl,_,rfl,fA (by decide +kernel) ?_⟩
   obtain ⟨dx,dw,dy,hp,hw,hy⟩:=ok.net.at_
   refine ⟨_,rfl,_,rfl,p,a.Net,dx,_,1,["self","name"],gO a,rfl,hp,dH _ _ (by decide +kernel) (by decide +kernel),T.cl_Net,by decide,gB T,_,rfl,p,ps,ds,y,rfl,⟨dx,dw,dy,hp,hw,hy⟩,ok.nd,my,fun v hv=>?_⟩
   refine ⟨_,rfl,_,rfl,d,kvs,ks,f,y.nm,rfl,.inl ok.hd,ok.tb,fun q H1 s1 f1=>?_⟩
   refine ⟨v,q,y,_,rfl,hv.mono s1,f1,(so.sa y my).1,ok.hi y my,fun _ r H2 s2 fr=>?_,fun z=>absurd (z.symm.trans ov) (by decide)⟩
   exact raise_OverBound ln fun H3 dx' s3 hx=>hE H3 dx' r ((s1.trans s2).trans s3) (fr.mono s3) hx
  ·skip
   refine ⟨_,rfl,rfl,_,rfl,c6 (by decide +kernel) ?_⟩
   refine ⟨_,rfl,rfl,_,rfl,c6 (by decide +kernel) ?_⟩
   obtain ⟨dx,dw,dy,hp,hw,hy⟩:=ok.net.at_
   refine ⟨_,rfl,_,rfl,p,a.Net,dx,_,1,["self","place"],spNWant a,rfl,hp,dH _ _ (by decide +kernel) (by decide +kernel),T.cl_Net,by decide,ok_Net_want T,_,rfl,p,ps,ds,i,n,x,rfl,⟨dx,dw,dy,hp,hw,hy⟩,so.np,hi,fun q fq=>?_⟩
   refine ⟨q,_,rfl,fq,_,rfl,_,rfl,p,d,ps,ds,kvs,ks,f,rfl,ok.net,ok.nd,ok.hd,ok.tb,ok.nk,sub,so,fun r H1 kvr nr s1 hr1 tr=>?_⟩
   have mn:n∈ps.map (·.1):=List.mem_map.mpr ⟨(n,x),List.mem_of_getElem? hi,rfl⟩
   obtain ⟨v,ev,x',rfl,fx⟩:=tr.vals n mn
   have sf:SmR (cD (cb ks f) ds n):=by
    have:=so.sf ds.length n
    rwa [List.take_length] at this
   refine ⟨_,rfl,r,.ref x',rfl,.inl ⟨kvr,Sum.inr n,.inl hr1,rfl,ev.symm⟩,q,x',_,_,rfl,fq.mono s1,fx,ok.wa (n,x) (List.mem_of_getElem? hi),sf,True.intro,fun r2 H2 nr2 s2 f2=>?_⟩
   exact raise_Short ln fun H3 dx' s3 hx=>hE H3 dx' r2 ((s1.trans s2).trans s3) (f2.mono s3) hx
inductive IspCheckedX (a:Ad) (vs:List V) (H:Hp) (E:XK):Prop
 | mk (p d:Addr) (ps:List (Str × Rat)) (ds:List WD) (kvs:List (Key × V)) (ks:List Str) (f:Str→Rat) (w n:Str) (rest:List (Str × Str)) (h1:vs=[.ref p,.ref d]) (h2:FltOk a H p d ps ds kvs ks f) (h3:aZ ks (cb ks f) ps ds=(w,n)::rest) (h4:n.length≤1000) (h5:RefE a H ps ds ks (cb ks f) E w n):IspCheckedX a vs H E
def spCheckedX (a:Ad):Sp:=fun vs H _ E=>IspCheckedX a vs H E
theorem ok_checkedX (T:TX K mg a):FnB P w K mg base (CX1 P w) "checked" 13 ["net","plan"] (spCheckedX a):=by
 refine T.d_checked.okX sc_checked (fun vs H Q E h=>?_) (fun f cdv A outer s H vs Q E hr h=>?_)
 ·obtain ⟨_,_,_,_,_,_,_,_,_,_,rfl,_⟩:=h
  rfl
 ·obtain ⟨p,d,ps,ds,kvs,ks,f,wd,n,rest,rfl,ok,ef,ln,hE⟩:=h
  refine ⟨_,(ae (ar (i:=2) sc_checked.nd rfl (Or.inl rfl) (aG (fX T) hr aq (aa (pv 0) (aa (pv 1) ac))))
   (ae (aC (ax (op_neN hr.units0) (pv 2) (cB ac) (aD _)) (ai (aI (aG (ok_refuseX T) hr pass1 (aa (pv 0) (aa (pv 1) (aa (au ay (pv 2) af (fun _ _=>rfl)) ac)))))) al)
   (ai (aw (aG (ok_worth T) hr aq (aa (pv 0) (aa (pv 1) ac))))))),?_⟩
  try dsimp only [aS,Cx.nox,Cx.wish]
  refine ⟨_,rfl,_,rfl,p,d,ps,ds,kvs,ks,f,rfl,ok,fun l H1 ts nl s1 hl hv=>?_⟩
  rw [ef] at hv
  obtain ⟨t0,et0,t,rfl,ht⟩:=hv.get' (i:=0) (x:=(wd,n)) rfl
  have lts:ts.length=rest.length+1:=by rw [hv.1];rfl
  refine ⟨_,rfl,by decide,fun l0 nl0=>?_⟩
  have s2:=aj (o:=.lst []) nl0
  have h0:upd H1 l0 (.lst []) l0=some (.lst []):=ad
  generalize upd H1 l0 (.lst [])=H2 at s2 h0 ⊢
  refine ⟨l,l0,_,rfl,rfl,SqL.of (s2 _ _ hl),SqL.of h0,_,rfl,?_⟩
  refine fA (by cases ts with | nil=>cases lts | cons _ _=>rfl) ?_
  have s12:=s1.trans s2
  exact ⟨_,rfl,_,rfl,_,rfl,l,_,_,_,rfl,rfl,SqL.of (s2 _ _ hl),atI_nat (j:=0) et0,p,d,t,ps,ds,kvs,ks,f,wd,n,rfl,ok.mono s12,s2 _ _ ht,ln,hE.mono s12⟩
inductive IspChecked (a:Ad) (vs:List V) (H:Hp) (Q:VK):Prop
 | mk (p d:Addr) (ps:List (Str × Rat)) (ds:List WD) (kvs:List (Key × V)) (ks:List Str) (f co:Str→Rat) (N:Nat) (h1:vs=[.ref p,.ref d]) (h2:FltOk a H p d ps ds kvs ks f) (h3:aZ ks (cb ks f) ps ds=[]) (h4:(∀ n∈ks,n∈ds.map (·.nm))) (h5:(∀ x∈ds,x.co=co x.nm)) (h6:(∀ n∈ks,SmR (f n)∧SmR (co n))) (h7:BdS (ks.map fun n=>co n*f n) N) (h8:N<9000) (h9:∀ r H',H r=none→Same H H'→FrAt a.Fraction H' r (ks.map fun n=>co n*f n).sum→Q (.ref r) H'):IspChecked a vs H Q
def spChecked (a:Ad):Sp:=fun vs H Q _=>IspChecked a vs H Q
theorem ok_checked (T:TX K mg a):FnB P w K mg base (CX1 P w) "checked" 13 ["net","plan"] (spChecked a):=by
 refine T.d_checked.okX sc_checked (fun vs H Q E h=>?_) (fun f cdv A outer s H vs Q E hr h=>?_)
 ·obtain ⟨_,_,_,_,_,_,_,_,_,rfl,_⟩:=h
  rfl
 ·obtain ⟨p,d,ps,ds,kvs,ks,f,co,N,rfl,ok,ef,sub,hco,sm,bN,hN,k⟩:=h
  refine ⟨_,(ae (ar (i:=2) sc_checked.nd rfl (Or.inl rfl) (aG (fX T) hr aq (aa (pv 0) (aa (pv 1) ac))))
   (ae (aC (ax (op_neN hr.units0) (pv 2) (cB ac) (aD _)) (ai (aI (aG (ok_refuseX T) hr pass1 (aa (pv 0) (aa (pv 1) (aa (au ay (pv 2) af (fun _ _=>rfl)) ac)))))) al)
   (ai (aw (aG (ok_worth T) hr aq (aa (pv 0) (aa (pv 1) ac))))))),?_⟩
  try dsimp only [aS,Cx.nox,Cx.wish]
  refine ⟨_,rfl,_,rfl,p,d,ps,ds,kvs,ks,f,rfl,ok,fun l H1 ts nl s1 hl hv=>?_⟩
  rw [ef] at hv
  have ets:ts=[]:=List.length_eq_zero_iff.mp hv.1
  refine ⟨_,rfl,by decide,fun l0 nl0=>?_⟩
  have s2:=aj (o:=.lst []) nl0
  have h0:upd H1 l0 (.lst []) l0=some (.lst []):=ad
  generalize upd H1 l0 (.lst [])=H2 at s2 h0 ⊢
  refine ⟨l,l0,_,rfl,rfl,SqL.of (s2 _ _ hl),SqL.of h0,_,rfl,?_⟩
  refine c6 (by rw [ets];rfl) ?_
  have s12:=s1.trans s2
  have ok2:=ok.mono s12
  exact ⟨_,rfl,_,rfl,p,d,ps,ds,kvs,ks,f,co,N,rfl,ok2.net,ok2.nd,ok2.hd,ok2.tb,ok2.nk,Nat.le_trans ok2.lk (by decide),sub,hco,sm,bN,hN,fun r H' nr s' fr=>k r H' (s12.free nr) (s12.trans s') fr⟩
inductive IspName (vs:List V) (H:Hp) (Q:VK):Prop
 | mk (k c:Int) (h1:vs=[.int k,.int c]) (h2:0≤k) (h3:k<37) (h4:Q (.str (aT k c)) H):IspName vs H Q
def spName:Sp:=fun vs H Q _=>IspName vs H Q
theorem one_len {c:Nat}:(⟨#[c]⟩:Str).length=1:=rfl
theorem sm_lt {z:Int} {n:Nat} (h:z.natAbs<1000):Sm z:=Sm.of_le (n:=10) (by omega) (by decide)
theorem eD (T:TX K mg a):FnB P w K mg base CX0 "_law_name" 1 ["_law_k","_law_cell"] spName:=by
 refine T.d_law_name.ok sc_law_name (fun vs H Q E h=>?_) (fun f cdv A outer s H vs Q E hr h=>?_)
 ·obtain ⟨k,c,rfl,_⟩:=h
  rfl
 ·obtain ⟨i,c,rfl,h0,h1,k⟩:=h
  refine ⟨_,(ae (ar (i:=2) sc_law_name.nd rfl (Or.inl rfl) aK)
   (ae (ar (i:=0) sc_law_name.nd rfl (Or.inl rfl) (ao aW (ao bY (ao a6 (pv 0) (ao bY af (ao aW (ao bp (pv 1) af) af))) (ao bp (pv 1) af)) af))
   (ae (aC (ax cA (ao aW (pv 1) af) af (aD _)) (ai (aw (ao gy (au ix_str (pv 2) (ao aW (ao bp (pv 1) af) af) (fun _ _=>rfl)) (ao bY (pv 0) af)))) al)
   (ai (aw (ao op_add_str (ao op_add_str (ao gy aK (ao aW (ao bp (pv 1) af) af)) (au ix_str (pv 2) (pv 0) (fun _ _=>rfl))) (ao gy aK (ao aW (ao bp (pv 1) af) af)))))))),?_⟩
  try dsimp only [aS,Cx.nox,Cx.wish]
  have m1:=Int.emod_nonneg (c / 5) (show (36:Int)≠0 by decide)
  have m2:=Int.emod_lt_of_pos (c / 5) (show (0:Int)<36 by decide)
  have q1:=Int.emod_nonneg (c / 3) (show (25:Int)≠0 by decide)
  have q2:=Int.emod_lt_of_pos (c / 3) (show (0:Int)<25 by decide)
  have r1:=Int.emod_nonneg (c / 75) (show (25:Int)≠0 by decide)
  have r2:=Int.emod_lt_of_pos (c / 75) (show (0:Int)<25 by decide)
  have p1:=Int.emod_nonneg (c / 3) (show (37:Int)≠0 by decide)
  have p2:=Int.emod_lt_of_pos (c / 3) (show (0:Int)<37 by decide)
  obtain ⟨t1,t2⟩:=gM i c
  walk_at "rd"
  refine ⟨⟨sm_lt (n:=0) (by omega),sm_lt (n:=0) (by omega)⟩,?_⟩
  walk_at "rd"
  refine ifV (fun h2=>?_) (fun h2=>?_)
  ·unfold aT at k
   rw [if_pos h2] at k
   walk_at "rd"
   refine ⟨by rw [PySem.sizeLine_eq];decide,sgAt_some p1 p2,?_⟩
   walk_at "rd"
   have t2':eK i c+1<1000:=by omega
   refine ⟨show (eK i c+1).natAbs<1000 by omega,?_⟩
   exact k
  ·unfold aT at k
   rw [if_neg h2] at k
   have l:=d7 i c
   have x1:("x":Str)=⟨#[120]⟩:=by decide +kernel
   have l1:(Txt.mul ("x":Str) (c / 3 % 25)).length≤25:=by rw [x1,len_cps,dO,List.length_replicate];omega
   have l2:(Txt.mul ("x":Str) (c / 75 % 25)).length≤25:=by rw [x1,len_cps,dO,List.length_replicate];omega
   walk_at "rd"
   refine ⟨by omega,?_⟩
   walk_at "rd"
   refine ⟨by rw [PySem.sizeLine_eq];decide,sgAt_some t1 t2,?_⟩
   walk_at "rd"
   refine ⟨by rw [PySem.sizeLine_eq,one_len];omega,?_⟩
   walk_at "rd"
   refine ⟨by omega,?_⟩
   walk_at "rd"
   refine ⟨by rw [PySem.sizeLine_eq,PySem.strLen_append,one_len];omega,?_⟩
   exact k
theorem bq (x:Int) {m:Int} (h:0<m):0≤x % m∧x % m<m:=⟨Int.emod_nonneg x (by omega),Int.emod_lt_of_pos x h⟩
theorem turnK_inj {i j c:Int} (i0:0≤i) (i1:i<37) (j0:0≤j) (j1:j<37) (h:eK i c=eK j c):i=j:=by
 unfold eK at h
 obtain ⟨m1,m2⟩:=bq (c / 5) (show (0:Int)<36 by decide)
 generalize c / 5 % 36=m at *
 generalize c / 180=d at *
 have h1:(37:Int)∣(i-j)*(1+m):=by
  have:(i-j)*(1+m)=(i*(1+m)+d)-(j*(1+m)+d):=by rw [Int.sub_mul];omega
  rw [this]
  generalize i*(1+m)+d=u at *
  generalize j*(1+m)+d=v at *
  omega
 have cop:∀ m<37,0<m→Nat.gcd 37 m=1:=by decide
 have h2:37∣(i-j).natAbs*(1+m).natAbs:=by rw [← Int.natAbs_mul];exact Int.natAbs_dvd_natAbs.mpr h1
 have h3:37∣(i-j).natAbs:=Nat.Coprime.dvd_of_dvd_mul_right (cop _ (by omega) (by omega)) h2
 have h4:=Nat.eq_zero_of_dvd_of_lt h3 (by omega)
 omega
theorem gC {i j c:Int} (i0:0≤i) (i1:i<37) (j0:0≤j) (j1:j<37) (h:aT i c=aT j c):i=j:=by
 obtain ⟨a1,a2⟩:=gM i c
 obtain ⟨b1,b2⟩:=gM j c
 refine turnK_inj (c:=c) i0 i1 j0 j1 ?_
 unfold aT at h
 split at h
 ·have:=congrArg (fun u:Str=>u.cps.toList.length) h
  simp only [dO,List.length_replicate] at this
  omega
 ·have:=app_left (app_right h)
  injection this with e
  have e2:sgAt (eK i c)=sgAt (eK j c):=by simpa using e
  have:=sgAt_inj _ (by omega) _ (by omega) e2
  omega
def aU (c:Int) (n:Nat):List Str:=(List.range n).map fun i:Nat=>aT (i:Int) c
theorem namesOf_nd {c:Int} {n:Nat} (h:n≤37):(aU c n).Nodup:=by
 unfold aU
 rw [List.nodup_iff_pairwise_ne,List.pairwise_map]
 refine (List.nodup_range (n:=n)).imp_of_mem ?_
 intro i j hi hj ne e
 have hi:=List.mem_range.mp hi
 have hj:=List.mem_range.mp hj
 have:=gC (by omega) (by omega) (by omega) (by omega) e
 omega
theorem eE (c:Int) (n:Nat):(aU c n).length=n:=by unfold aU;simp
theorem g9 (c:Int) (n:Nat):aU c (n+1)=aU c n++[aT (n:Int) c]:=by unfold aU;rw [List.range_succ,List.map_append];rfl
theorem eJ {sp:List Str} {j:Nat} {x:Str} (h:sp[j]?=some x):atI (sp.map V.str) (j:Int)=some (.str x):=atI_nat (by rw [List.getElem?_map,h];rfl)
def DueIs (H:Hp) (v:V) (c:Int × Int):Prop:=∃ t,v=.ref t∧H t=some (.tup [.int c.1,.int c.2])
theorem DueIs.mono {H H':Hp} {v:V} {c:Int × Int} (h:DueIs H v c) (s:Same H H'):DueIs H' v c:=let ⟨t,e,f⟩:=h;⟨t,e,s _ _ f⟩
def OptIs (H:Hp) (v:V):Option (Int × Int)→Prop
 | none=>v=.non
 | some c=>DueIs H v c
theorem OptIs.mono {H H':Hp} {v:V} {o:Option (Int × Int)} (h:OptIs H v o) (s:Same H H'):OptIs H' v o:=by
 cases o with
 | none=>exact h
 | some c=>exact DueIs.mono h s
structure KeepO (H H':Hp):Prop where
 tup:∀ b xs,H b=some (.tup xs)→H' b=some (.tup xs)
 ins:∀ b C dx fs,H b=some (.ins C dx fs)→H' b=some (.ins C dx fs)
theorem KeepO.lst {H:Hp} {l:Addr} {xs:List V} {o:HO} (h:H l=some (.lst xs)):KeepO H (upd H l o):=⟨fun b ys e=>by rw [ak (cS e h (by intro z;cases z))];exact e,fun b C dx fs e=>by rw [ak (cS e h (by intro z;cases z))];exact e⟩
theorem DueIs.ko {H H':Hp} {v:V} {c:Int × Int} (h:DueIs H v c) (s:KeepO H H'):DueIs H' v c:=let ⟨t,e,f⟩:=h;⟨t,e,s.tup _ _ f⟩
theorem OptIs.ko {H H':Hp} {v:V} {o:Option (Int × Int)} (h:OptIs H v o) (s:KeepO H H'):OptIs H' v o:=by
 cases o with
 | none=>exact h
 | some c=>exact DueIs.ko h s
theorem PlIs.ko {H H':Hp} {v:V} {p:Str × Rat} (h:PlIs a H v p) (s:KeepO H H'):PlIs a H' v p:=let ⟨t,q,e,h1,d,f⟩:=h;⟨t,q,e,s.tup _ _ h1,d,s.ins _ _ _ _ f⟩
theorem WayIs.ko {H H':Hp} {v:V} {x:WD} (h:WayIs a H v x) (s:KeepO H H'):WayIs a H' v x:=h.keep fun b C dx fs _ e=>s.ins b C dx fs e
def vC (c:Int × Int):Rat:=Rat.divInt c.1 c.2
structure R7 where
 kd:Int
 st:Nat
 go:Nat
 gain:Int × Int
 put:Option (Int × Int)
 hi:Option (Int × Int)
 co:Int × Int
def R7Is (H:Hp) (v:V) (r:R7):Prop:=∃ p vg vp vh vc,v=.ref p∧H p=some (.tup [.int r.kd,.int r.st,.int r.go,vg,vp,vh,vc])∧DueIs H vg r.gain∧OptIs H vp r.put∧OptIs H vh r.hi∧DueIs H vc r.co
theorem R7Is.mono {H H':Hp} {v:V} {r:R7} (h:R7Is H v r) (s:Same H H'):R7Is H' v r:=let ⟨p,vg,vp,vh,vc,e,f,h1,h2,h3,h4⟩:=h;⟨p,vg,vp,vh,vc,e,s _ _ f,h1.mono s,h2.mono s,h3.mono s,h4.mono s⟩
theorem R7Is.ko {H H':Hp} {v:V} {r:R7} (h:R7Is H v r) (s:KeepO H H'):R7Is H' v r:=let ⟨p,vg,vp,vh,vc,e,f,h1,h2,h3,h4⟩:=h;⟨p,vg,vp,vh,vc,e,s.tup _ _ f,h1.ko s,h2.ko s,h3.ko s,h4.ko s⟩
structure R7Ok (n:Nat) (r:R7):Prop where
 st:r.st<n
 go:r.go<n
 ne:r.st≠r.go
 k0:r.kd=0→r.gain=(1,1)
 k3:r.kd=0∨r.kd=1∨r.kd=2
 g1:1≤r.gain.1∧r.gain.1≤9
 g2:1≤r.gain.2∧r.gain.2≤10
 gl:r.kd=2→r.gain.1<r.gain.2
 gd:(2520:Int) % r.gain.2=0
 pt:∀ c,r.put=some c→c.1.natAbs≤2 ^ 150∧1≤c.2∧c.2≤6
 hi:∀ c,r.hi=some c→0≤c.1∧c.1.natAbs≤2 ^ 200∧1≤c.2∧c.2≤100
 co:1≤r.co.2∧r.co.2≤4∧r.co.1.natAbs≤100
inductive IspMixA (K:PySem.W.Frag) (vs:List V) (H:Hp) (Q:VK):Prop
 | mk (l:Addr) (ns:List Int) (k:Nat) (h1:vs=[.ref l,.int (k:Int)]) (h2:SqL K H l (ns.map V.int)) (h3:k≤100) (h4:∀ m:Int,Q (.int m) H):IspMixA K vs H Q
def spMixA (K:PySem.W.Frag):Sp:=fun vs H Q _=>IspMixA K vs H Q
theorem gA (T:TX K mg a):FnB P w K mg base CX0 "_law_mix" 2 ["_law_script","_law_k"] (spMixA K):=by
 refine T.d_law_mix.ok sc_law_mix (fun vs H Q E h=>?_) (fun f cdv A outer s H vs Q E hr h=>?_)
 ·obtain ⟨_,_,_,rfl,_⟩:=h
  rfl
 ·obtain ⟨l,ns,j,rfl,hS,hj,k⟩:=h
  refine ⟨_,(ai (aw (ao aW (ao op_mul (ao aW (ao op_mul (ao bY (ao bY (aG (bi T) hr aq (aa (pv 0) (aa (pv 1) ac))) (ao op_mul (ao op_mul af (pv 1)) (pv 1))) af) af) af) af) af))),?_⟩
  try dsimp only [aS,Cx.nox,Cx.wish]
  have h1:(j:Int)*j≤100*100:=Int.mul_le_mul (by omega) (by omega) (by omega) (by decide)
  refine ⟨_,rfl,_,rfl,l,ns,j,rfl,hS,_,rfl,_,_,rfl,rfl,.inl ⟨by decide,by decide⟩,_,rfl,_,_,rfl,rfl,.inr ⟨by omega,by omega⟩,_,_,rfl,rfl,_,_,rfl,rfl,_,_,rfl,rfl,.inr ⟨by decide,by decide⟩,_,_,rfl,rfl,by show (0:Int)<2147483647;decide,_,_,rfl,rfl,.inr ⟨by decide,by decide⟩,_,_,rfl,rfl,by show (0:Int)<1000000007;decide,?_⟩
  exact k _
inductive IspPlus (vs:List V) (H:Hp) (Q:VK):Prop
 | mk (p q:Addr) (n d m e:Int) (h1:vs=[.ref p,.ref q]) (h2:H p=some (.tup [.int n,.int d])) (h3:H q=some (.tup [.int m,.int e])) (h4:Sm n) (h5:Sm d) (h6:Sm m) (h7:Sm e) (h8:∀ r,H r=none→Q (.ref r) (upd H r (.tup [.int (n*e+m*d),.int (d*e)]))):IspPlus vs H Q
def spPlus (K:PySem.W.Frag):Sp:=fun vs H Q _=>IspPlus vs H Q
theorem cR (T:TX K mg a):FnB P w K mg base CX0 "_law_plus" 1 ["_law_one","_law_other"] (spPlus K):=by
 refine T.d_law_plus.ok sc_law_plus (fun vs H Q E h=>?_) (fun f cdv A outer s H vs Q E hr h=>?_)
 ·obtain ⟨_,_,_,_,_,_,rfl,_⟩:=h
  rfl
 ·obtain ⟨p,q,n,d,m,e,rfl,hp,hq,sn,sd,sm,se,k⟩:=h
  refine ⟨_,(ai (aw (aR (aa (ao bY (ao a6 (au aB (pv 0) af (fun _ _=>rfl)) (au aB (pv 1) af (fun _ _=>rfl))) (ao a6 (au aB (pv 1) af (fun _ _=>rfl)) (au aB (pv 0) af (fun _ _=>rfl)))) (aa (ao a6 (au aB (pv 0) af (fun _ _=>rfl)) (au aB (pv 1) af (fun _ _=>rfl))) ac))))),?_⟩
  try dsimp only [aS,Cx.nox,Cx.wish]
  refine ⟨_,rfl,p,_,_,_,rfl,rfl,SqT.of hp,rfl,_,rfl,q,_,_,_,rfl,rfl,SqT.of hq,rfl,_,_,rfl,rfl,⟨sn,se⟩,?_⟩
  refine ⟨_,rfl,q,_,_,_,rfl,rfl,SqT.of hq,rfl,_,rfl,p,_,_,_,rfl,rfl,SqT.of hp,rfl,_,_,rfl,rfl,⟨sm,sd⟩,_,_,rfl,rfl,?_⟩
  refine ⟨_,rfl,p,_,_,_,rfl,rfl,SqT.of hp,rfl,_,rfl,q,_,_,_,rfl,rfl,SqT.of hq,rfl,_,_,rfl,rfl,⟨sd,se⟩,by show 2≤sizeLine;decide,fun r nr=>k r nr⟩
inductive IspTimes (vs:List V) (H:Hp) (Q:VK):Prop
 | mk (p q:Addr) (n d m e:Int) (h1:vs=[.ref p,.ref q]) (h2:H p=some (.tup [.int n,.int d])) (h3:H q=some (.tup [.int m,.int e])) (h4:Sm n) (h5:Sm d) (h6:Sm m) (h7:Sm e) (h8:∀ r,H r=none→Q (.ref r) (upd H r (.tup [.int (n*m),.int (d*e)]))):IspTimes vs H Q
def spTimes (K:PySem.W.Frag):Sp:=fun vs H Q _=>IspTimes vs H Q
theorem g7 (T:TX K mg a):FnB P w K mg base CX0 "_law_times" 1 ["_law_one","_law_other"] (spTimes K):=by
 refine T.d_law_times.ok sc_law_times (fun vs H Q E h=>?_) (fun f cdv A outer s H vs Q E hr h=>?_)
 ·obtain ⟨_,_,_,_,_,_,rfl,_⟩:=h
  rfl
 ·obtain ⟨p,q,n,d,m,e,rfl,hp,hq,sn,sd,sm,se,k⟩:=h
  refine ⟨_,(ai (aw (aR (aa (ao a6 (au aB (pv 0) af (fun _ _=>rfl)) (au aB (pv 1) af (fun _ _=>rfl))) (aa (ao a6 (au aB (pv 0) af (fun _ _=>rfl)) (au aB (pv 1) af (fun _ _=>rfl))) ac))))),?_⟩
  try dsimp only [aS,Cx.nox,Cx.wish]
  refine ⟨_,rfl,p,_,_,_,rfl,rfl,SqT.of hp,rfl,_,rfl,q,_,_,_,rfl,rfl,SqT.of hq,rfl,_,_,rfl,rfl,⟨sn,sm⟩,?_⟩
  refine ⟨_,rfl,p,_,_,_,rfl,rfl,SqT.of hp,rfl,_,rfl,q,_,_,_,rfl,rfl,SqT.of hq,rfl,_,_,rfl,rfl,⟨sd,se⟩,by show 2≤sizeLine;decide,fun r nr=>k r nr⟩
inductive IspHigh (vs:List V) (H:Hp) (Q:VK):Prop
 | mk (v:V) (o:Option (Int × Int)) (mode c:Int) (h1:vs=[v,.int mode,.int c]) (h2:OptIs H v o) (h3:(∀ z,o=some z→z.1.natAbs≤2 ^ 150∧1≤z.2∧z.2≤6)) (h4:∀ v' o' H',Same H H'→OptIs H' v' o'→(∀ z,o'=some z→0≤z.1∧z.1.natAbs≤2 ^ 200∧1≤z.2∧z.2≤100)→Q v' H'):IspHigh vs H Q
def spHigh (K:PySem.W.Frag):Sp:=fun vs H Q _=>IspHigh vs H Q
theorem ok_law_high (T:TX K mg a):FnB P w K mg base CX0 "_law_high" 2 ["_law_put","_law_mode","_law_cell"] (spHigh K):=by
 refine T.d_law_high.ok sc_law_high (fun vs H Q E h=>?_) (fun f cdv A outer s H vs Q E hr h=>?_)
 ·obtain ⟨_,_,_,_,rfl,_⟩:=h
  rfl
 ·obtain ⟨v,o,mode,c,rfl,hv,ho,k⟩:=h
  refine ⟨_,(aN (aC (ax op_isN (pv 0) br (aD _)) (ai (ar (i:=0) sc_law_high.nd rfl (Or.inl rfl) (aR (aa af (aa af ac))))) al)
   (ae (aC (ax cA (ao aW (pv 2) af) af (aD _)) (ai (aw br)) al)
   (aN (ar (i:=3) sc_law_high.nd rfl (Or.inl rfl) (au ay (cB (aa (aR (aa af (aa af ac))) (aa (aR (aa af (aa af ac))) (aa (aR (aa (pe_un un_neg af) (aa af ac))) (aa (aR (aa af (aa af ac))) ac))))) (ao aW (pv 2) af) (fun _ _=>rfl)))
   (aN (aC (ax dG (pv 1) af (aD _)) (ai (ar (i:=3) sc_law_high.nd rfl (Or.inl rfl) (aR (aa (am d8 (by rfl) T.z_abs PyProof.Rows.boot_abs (aa (au aB (pv 3) af (fun _ _=>rfl)) ac)) (aa (au aB (pv 3) af (fun _ _=>rfl)) ac))))) al)
   (ae (ar (i:=4) sc_law_high.nd rfl (Or.inl rfl) (aG (cR T) hr aq (aa (pv 0) (aa (pv 3) ac))))
   (ae (aC (ax dG (au aB (pv 4) af (fun _ _=>rfl)) af (aD _)) (ai (aw (aR (aa af (aa af ac))))) al)
   (ai (aw (pv 4))))))))),?_⟩
  try dsimp only [aS,Cx.nox,Cx.wish]
  refine ⟨fun σ' H'=>∃ (p:Addr) (z:Int × Int) (z3 z4:Option V),σ'=[some (.ref p),some (.int mode),some (.int c),z3,z4]∧Same H H'∧H' p=some (.tup [.int z.1,.int z.2])∧z.1.natAbs≤2 ^ 150∧1≤z.2∧z.2≤6,?_,?_⟩
  ·walk_at "rd"
   cases o with
   | none=>
    refine fA (decide_eq_true hv) ⟨by show 2≤sizeLine;decide,fun p np=>?_⟩
    exact ⟨p,(0,1),_,_,rfl,aj np,ad,by decide,by decide,by decide⟩
   | some z=>
    obtain ⟨p,rfl,hp⟩:=hv
    refine c6 (decide_eq_false (by nofun)) ?_
    obtain ⟨z1,z2,z3⟩:=ho z rfl
    exact ⟨p,z,_,_,rfl,Same.refl _,hp,z1,z2,z3⟩
  rintro σ' H1 ⟨p,z,z3,z4,rfl,s1,hp,b1,b2,b3⟩
  refine ⟨_,rfl,_,_,rfl,rfl,by show (0:Int)<5;decide,rfl,_,rfl,ifV (fun h5=>?_) (fun h5=>?_)⟩
  ·exact k .non none H1 s1 rfl (by nofun)
  refine ⟨fun σ' H'=>∃ (q:Addr) (y:Int × Int) (z4:Option V),σ'=[some (.ref p),some (.int mode),some (.int c),some (.ref q),z4]∧Same H1 H'∧H' q=some (.tup [.int y.1,.int y.2])∧y.1.natAbs≤1∧1≤y.2∧y.2≤9,?_,?_⟩
  ·obtain ⟨e0,e1⟩:=bq c (show (0:Int)<4 by decide)
   obtain ⟨j,hj⟩:=Int.eq_ofNat_of_zero_le e0
   refine ⟨by show 2≤sizeLine;decide,fun t0 n0=>?_⟩
   have S0:=aj (o:=.tup [.int 0,.int 1]) n0
   have m0:upd H1 t0 (.tup [.int 0,.int 1]) t0=some (.tup [.int 0,.int 1]):=ad
   generalize upd H1 t0 (.tup [.int 0,.int 1])=G0 at S0 m0 ⊢
   refine ⟨by show 2≤sizeLine;decide,fun t1 n1=>?_⟩
   have S1:=aj (o:=.tup [.int 1,.int 9]) n1
   have m1:upd G0 t1 (.tup [.int 1,.int 9]) t1=some (.tup [.int 1,.int 9]):=ad
   generalize upd G0 t1 (.tup [.int 1,.int 9])=G1 at S1 m1 ⊢
   refine ⟨_,rfl,by show 2≤sizeLine;decide,fun t2 n2=>?_⟩
   have S2:=aj (o:=.tup [.int (-1),.int 9]) n2
   have m2:upd G1 t2 (.tup [.int (-1),.int 9]) t2=some (.tup [.int (-1),.int 9]):=ad
   generalize upd G1 t2 (.tup [.int (-1),.int 9])=G2 at S2 m2 ⊢
   refine ⟨by show 2≤sizeLine;decide,fun t3 n3=>?_⟩
   have S3:=aj (o:=.tup [.int 0,.int 1]) n3
   have m3:upd G2 t3 (.tup [.int 0,.int 1]) t3=some (.tup [.int 0,.int 1]):=ad
   generalize upd G2 t3 (.tup [.int 0,.int 1])=G3 at S3 m3 ⊢
   refine ⟨by show 4≤sizeLine;decide,fun q nq=>?_⟩
   have S4:=aj (o:=.lst [.ref t0,.ref t1,.ref t2,.ref t3]) nq
   have ml:upd G3 q (.lst [.ref t0,.ref t1,.ref t2,.ref t3]) q=some (.lst [.ref t0,.ref t1,.ref t2,.ref t3]):=ad
   generalize upd G3 q (.lst [.ref t0,.ref t1,.ref t2,.ref t3])=G4 at S4 ml ⊢
   have ss:=S0.trans (S1.trans (S2.trans (S3.trans S4)))
   have ex:∃ (u:Addr) (y:Int × Int),atI [V.ref t0,.ref t1,.ref t2,.ref t3] (c % 4)=some (.ref u)∧G4 u=some (.tup [.int y.1,.int y.2])∧y.1.natAbs≤1∧1≤y.2∧y.2≤9:=by
    rw [hj]
    match j,hj with
    | 0,_=>exact ⟨t0,(0,1),atI_nat rfl,S4 _ _ (S3 _ _ (S2 _ _ (S1 _ _ m0))),by decide,by decide,by decide⟩
    | 1,_=>exact ⟨t1,(1,9),atI_nat rfl,S4 _ _ (S3 _ _ (S2 _ _ m1)),by decide,by decide,by decide⟩
    | 2,_=>exact ⟨t2,(-1,9),atI_nat rfl,S4 _ _ (S3 _ _ m2),by decide,by decide,by decide⟩
    | 3,_=>exact ⟨t3,(0,1),atI_nat rfl,S4 _ _ m3,by decide,by decide,by decide⟩
    | j+4,hj=>omega
   obtain ⟨u,y,a4,hu,y1,y2,y3⟩:=ex
   refine ⟨_,rfl,_,_,rfl,rfl,by show (0:Int)<4;decide,q,_,_,_,rfl,rfl,SqL.of ml,a4,?_⟩
   exact ⟨u,y,_,rfl,ss,hu,y1,y2,y3⟩
  rintro σ' H2 ⟨q,y,z4,rfl,s2,hq,y1,y2,y3⟩
  refine ⟨fun σ' H'=>∃ (q:Addr) (y:Int × Int) (z4:Option V),σ'=[some (.ref p),some (.int mode),some (.int c),some (.ref q),z4]∧Same H1 H'∧H' q=some (.tup [.int y.1,.int y.2])∧y.1.natAbs≤1∧1≤y.2∧y.2≤9,?_,?_⟩
  ·refine ⟨_,rfl,_,_,rfl,rfl,_,rfl,ifB (fun hm=>?_) (fun hm=>⟨q,y,_,rfl,s2,hq,y1,y2,y3⟩)⟩
   refine ⟨_,rfl,q,_,_,_,rfl,rfl,SqT.of hq,rfl,_,rfl,_,rfl,q,_,_,_,rfl,rfl,SqT.of hq,rfl,by show 2≤sizeLine;decide,fun r nr=>?_⟩
   exact ⟨r,(if y.1<0 then -y.1 else y.1,y.2),_,rfl,s2.trans (aj nr),ad,by show (if y.1<0 then -y.1 else y.1).natAbs≤1;split <;> omega,y2,y3⟩
  rintro σ' H3 ⟨q,y,z4,rfl,s3,hq,y1,y2,y3⟩
  have s13:=s1.trans s3
  have p60:(2:Nat) ^ 150≤2 ^ 160:=by decide
  refine ⟨_,rfl,_,rfl,p,q,_,_,_,_,rfl,s3 _ _ hp,hq,Sm.of_le b1 (by decide),Sm.of_le (n:=10) (by omega) (by decide),Sm.of_le (n:=10) (by omega) (by decide),Sm.of_le (n:=10) (by omega) (by decide),fun r nr=>?_⟩
  have s4:=aj (o:=.tup [.int (z.1*y.2+y.1*z.2),.int (z.2*y.2)]) nr
  have hr4:upd H3 r (.tup [.int (z.1*y.2+y.1*z.2),.int (z.2*y.2)]) r=some (.tup [.int (z.1*y.2+y.1*z.2),.int (z.2*y.2)]):=ad
  generalize upd H3 r (.tup [.int (z.1*y.2+y.1*z.2),.int (z.2*y.2)])=H4 at s4 hr4 ⊢
  refine ⟨_,rfl,r,_,_,_,rfl,rfl,SqT.of hr4,rfl,_,_,rfl,rfl,_,rfl,ifB (fun hn=>?_) (fun hn=>?_)⟩
  ·refine ⟨by show 2≤sizeLine;decide,fun u nu=>k (.ref u) (some (0,1)) _ (s13.trans (s4.trans (aj nu))) ⟨u,rfl,ad⟩ fun z hz=>?_⟩
   cases hz
   exact ⟨by decide,by decide,by decide,by decide⟩
  ·refine ⟨_,rfl,k (.ref r) (some (z.1*y.2+y.1*z.2,z.2*y.2)) H4 (s13.trans s4) ⟨r,rfl,hr4⟩ fun x hx=>?_⟩
   cases hx
   have hn:¬ (z.1*y.2+y.1*z.2)<0:=hn
   have q1:1*1≤z.2*y.2:=Int.mul_le_mul b2 y2 (by decide) (by omega)
   have q2:z.2*y.2≤6*9:=Int.mul_le_mul b3 y3 (by omega) (by decide)
   refine ⟨by show 0≤z.1*y.2+y.1*z.2;omega,?_,by show 1≤z.2*y.2;omega,by show z.2*y.2≤100;omega⟩
   have t:=(tot_bd (T:=z.1) (B:=z.2) (o:=y.2) (c:=y.1) (u:=z.2) (s:=150) (m:=4) b1 (Nat.le_trans (show z.2.natAbs≤2 ^ 3 by omega) (aV (by decide))) (by omega) (by omega) (Nat.le_refl _)).1
   exact Nat.le_trans t (aV (by decide))
inductive IspRow (vs:List V) (H:Hp) (Q:VK):Prop
 | mk (c mode far:Int) (n:Nat) (h1:vs=[.int c,.int n,.int mode,.int far]) (h2:2≤n) (h3:n≤1000) (h4:far.natAbs≤2 ^ 140) (h5:∀ v r H',Same H H'→R7Is H' v r→R7Ok n r→Q v H'):IspRow vs H Q
def spRow (K:PySem.W.Frag):Sp:=fun vs H Q _=>IspRow vs H Q
theorem goal_ne {n s u:Int} (s0:0≤s) (s1:s<n) (u0:0≤u) (u1:u<n-1):0≤(s+1+u) % n∧(s+1+u) % n<n∧s≠(s+1+u) % n:=by
 obtain ⟨e0,e1⟩:=bq (s+1+u) (show 0<n by omega)
 refine ⟨e0,e1,?_⟩
 by_cases h:s+1+u<n
 ·rw [Int.emod_eq_of_lt (by omega) h]
  omega
 ·rw [show s+1+u=(s+1+u-n)+n by omega,Int.add_emod_right,Int.emod_eq_of_lt (by omega) (by omega)]
  omega
theorem ok_law_row (T:TX K mg a):FnB P w K mg base CX0 "_law_row" 3 ["_law_cell","_law_n","_law_mode","_law_far"] (spRow K):=by
 refine T.d_law_row.ok sc_law_row (fun vs H Q E h=>?_) (fun f cdv A outer s H vs Q E hr h=>?_)
 ·obtain ⟨_,_,_,_,rfl,_⟩:=h
  rfl
 ·obtain ⟨c,mode,far,n,rfl,n2,n9,hfar,k⟩:=h
  refine ⟨_,(ae (ar (i:=4) sc_law_row.nd rfl (Or.inl rfl) (ao aW (pv 0) (pv 1)))
   (ae (ar (i:=5) sc_law_row.nd rfl (Or.inl rfl) (ao aW (ao bY (ao bY (pv 4) af) (ao aW (ao bp (pv 0) af) (ao fL (pv 1) af))) (pv 1)))
   (ae (ar (i:=6) sc_law_row.nd rfl (Or.inl rfl) (ao aW (ao bp (pv 0) af) af))
   (ae (ar (i:=7) sc_law_row.nd rfl (Or.inl rfl) (aR (aa af (aa af ac))))
   (aN (aC (ax cA (pv 6) af (aD _)) (ai (ar (i:=7) sc_law_row.nd rfl (Or.inl rfl) (aR (aa (ao bY af (ao aW (ao bp (pv 0) af) af)) (aa (ao bY af (ao aW (ao bp (pv 0) af) af)) ac))))) al)
   (aN (aC (ax cA (pv 6) af (aD _)) (ai (ar (i:=7) sc_law_row.nd rfl (Or.inl rfl) (aR (aa (ao bY af (ao aW (ao bp (pv 0) af) af)) (aa af ac))))) al)
   (aN (ar (i:=8) sc_law_row.nd rfl (Or.inl rfl) (ao aW (ao op_mul (pv 0) af) af))
   (ae (ar (i:=9) sc_law_row.nd rfl (Or.inl rfl) (aR (aa (ao op_mul (ao fL (ao aW (pv 8) af) af) (pv 3)) (aa (ao bY af (ao aW (ao bp (pv 8) af) af)) ac))))
   (aN (aC (ax dG (pv 2) af (aD _)) (ai (ar (i:=9) sc_law_row.nd rfl (Or.inl rfl) (aR (aa (am d8 (by rfl) T.z_abs PyProof.Rows.boot_abs (aa (au aB (pv 9) af (fun _ _=>rfl)) ac)) (aa (au aB (pv 9) af (fun _ _=>rfl)) ac))))) al)
   (aN (aC (ax cA (ao aW (ao bp (pv 8) af) af) af (aD _)) (ai (ar (i:=9) sc_law_row.nd rfl (Or.inl rfl) br)) al)
   (ae (ar (i:=10) sc_law_row.nd rfl (Or.inl rfl) (aR (aa (ao fL (ao aW (ao bp (pv 8) af) af) af) (aa (ao bY af (ao aW (ao bp (pv 8) af) af)) ac))))
   (ai (aw (aR (aa (pv 6) (aa (pv 4) (aa (pv 5) (aa (pv 7) (aa (pv 9) (aa (aG (ok_law_high T) hr aq (aa (pv 9) (aa (pv 2) (aa (ao bp (pv 8) af) ac)))) (aa (pv 10) ac))))))))))))))))))))),?_⟩
  try dsimp only [aS,Cx.nox,Cx.wish]
  have np:(0:Int)<n:=by omega
  have np1:(0:Int)<(n:Int)-1:=by omega
  obtain ⟨s0,s1⟩:=bq c np
  obtain ⟨u0,u1⟩:=bq (c / 14) np1
  obtain ⟨g0,g1,gne⟩:=goal_ne s0 s1 u0 u1
  obtain ⟨k0,k1⟩:=bq (c / 10710) (show (0:Int)<3 by decide)
  obtain ⟨st,hst⟩:=Int.eq_ofNat_of_zero_le s0
  obtain ⟨go,hgo⟩:=Int.eq_ofNat_of_zero_le g0
  obtain ⟨x0,x1⟩:=bq (c / 170) (show (0:Int)<9 by decide)
  obtain ⟨y0,y1⟩:=bq (c / 1530) (show (0:Int)<7 by decide)
  walk_at "rd"
  refine ⟨by show 2≤sizeLine;decide,fun g ng=>?_⟩
  generalize hkd:c / 10710 % 3=kd at k0 k1
  refine ⟨fun σ' H'=>∃ (g:Addr) (gn:Int × Int) (z8 z9 z10:Option V),σ'=[some (.int c),some (.int n),some (.int mode),some (.int far),some (.int (c % n)),some (.int ((c % n+1+c / 14 % (n-1)) % n)),some (.int (c / 10710 % 3)),some (.ref g),z8,z9,z10]∧Same H H'∧H' g=some (.tup [.int gn.1,.int gn.2])∧(kd≠1→gn=(1,1))∧1≤gn.1∧gn.1≤9∧1≤gn.2∧gn.2≤7,?_,?_⟩
  ·have s1:=aj (o:=.tup [.int 1,.int 1]) ng
   have hg:upd H g (.tup [.int 1,.int 1]) g=some (.tup [.int 1,.int 1]):=ad
   generalize upd H g (.tup [.int 1,.int 1])=H1 at s1 hg ⊢
   refine ⟨_,rfl,rfl,_,rfl,ifV (fun h1=>?_) (fun h1=>?_)⟩
   ·refine ⟨_,rfl,_,_,rfl,rfl,⟨by decide,by decide⟩,_,_,rfl,rfl,by show (0:Int)<9;decide,_,_,rfl,rfl,_,rfl,_,_,rfl,rfl,⟨by decide,by decide⟩,_,_,rfl,rfl,by show (0:Int)<7;decide,_,_,rfl,rfl,by show 2≤sizeLine;decide,fun r nr=>?_⟩
    exact ⟨r,(1+c / 170 % 9,1+c / 1530 % 7),_,_,_,rfl,s1.trans (aj nr),ad,fun z=>absurd (hkd.symm.trans h1) z,by show 1≤1+c / 170 % 9;omega,by show 1+c / 170 % 9≤9;omega,by show 1≤1+c / 1530 % 7;omega,by show 1+c / 1530 % 7≤7;omega⟩
   ·exact ⟨g,(1,1),_,_,_,rfl,s1,hg,fun _=>rfl,by decide,by decide,by decide,by decide⟩
  rintro σ' H1 ⟨g,gn,z8,z9,z10,rfl,s1,hg,gk,g1',g2',g3',g4'⟩
  refine ⟨fun σ' H'=>∃ (g:Addr) (gn:Int × Int) (z8 z9 z10:Option V),σ'=[some (.int c),some (.int n),some (.int mode),some (.int far),some (.int (c % n)),some (.int ((c % n+1+c / 14 % (n-1)) % n)),some (.int (c / 10710 % 3)),some (.ref g),z8,z9,z10]∧Same H H'∧H' g=some (.tup [.int gn.1,.int gn.2])∧(kd=0→gn=(1,1))∧(kd=2→gn.1<gn.2)∧(1≤gn.1∧gn.1≤9)∧(1≤gn.2∧gn.2≤10)∧(2520:Int) % gn.2=0,?_,?_⟩
  ·refine ⟨_,rfl,rfl,_,rfl,ifV (fun h1=>?_) (fun h1=>?_)⟩
   ·refine ⟨_,rfl,_,_,rfl,rfl,⟨by decide,by decide⟩,_,_,rfl,rfl,by show (0:Int)<9;decide,_,_,rfl,rfl,by show 2≤sizeLine;decide,fun r nr=>?_⟩
    have e2:kd=2:=hkd.symm.trans h1
    exact ⟨r,(1+c / 170 % 9,10),_,_,_,rfl,s1.trans (aj nr),ad,fun z=>by omega,fun _=>by show 1+c / 170 % 9<10;omega,⟨by show 1≤1+c / 170 % 9;omega,by show 1+c / 170 % 9≤9;omega⟩,⟨by show (1:Int)≤10;decide,by show (10:Int)≤10;decide⟩,by show (2520:Int) % 10=0;decide⟩
   ·have h1:¬ c / 10710 % 3=2:=h1
    refine ⟨g,gn,_,_,_,rfl,s1,hg,fun z=>gk (by omega),fun z=>absurd (hkd.trans z) h1,⟨g1',g2'⟩,⟨g3',by omega⟩,?_⟩
    obtain ⟨ga,gb⟩:=gn
    have q1:1≤gb:=g3'
    have q2:gb≤7:=g4'
    show (2520:Int) % gb=0
    have:gb=1∨gb=2∨gb=3∨gb=4∨gb=5∨gb=6∨gb=7:=by omega
    rcases this with rfl | rfl | rfl | rfl | rfl | rfl | rfl <;> decide
  rintro σ' H2 ⟨g,gn,z8,z9,z10,rfl,s2,hg,gk0,gk2,gb1,gb2,gb3⟩
  refine ⟨fun σ' H'=>∃ (more:Int) (z9 z10:Option V),σ'=[some (.int c),some (.int n),some (.int mode),some (.int far),some (.int (c % n)),some (.int ((c % n+1+c / 14 % (n-1)) % n)),some (.int (c / 10710 % 3)),some (.ref g),some (.int more),z9,z10]∧H'=H2,?_,?_⟩
  ·exact ⟨_,rfl,_,_,rfl,rfl,.inr ⟨by decide,by decide⟩,_,_,rfl,rfl,by show (0:Int)<998244353;decide,_,_,_,rfl,rfl⟩
  rintro σ' H2' ⟨more,z9,z10,rfl,rfl⟩
  obtain ⟨m0,m1⟩:=bq more (show (0:Int)<23 by decide)
  obtain ⟨m2,m3⟩:=bq (more / 23) (show (0:Int)<6 by decide)
  refine ⟨_,rfl,_,_,rfl,rfl,by show (0:Int)<23;decide,_,_,rfl,rfl,_,rfl,_,_,rfl,rfl,.inl ⟨by omega,by omega⟩,_,rfl,_,_,rfl,rfl,⟨by decide,by decide⟩,_,_,rfl,rfl,by show (0:Int)<6;decide,_,_,rfl,rfl,by show 2≤sizeLine;decide,fun pt npt=>?_⟩
  have pb:((more % 23-8)*far).natAbs≤2 ^ 150:=by
   rw [Int.natAbs_mul]
   exact Nat.le_trans (Nat.mul_le_mul (show (more % 23-8).natAbs≤2 ^ 10 by omega) hfar) (by rw [← Nat.pow_add];exact Nat.le_refl _)
  refine ⟨fun σ' H'=>∃ (pt:Addr) (z:Int × Int) (z10:Option V),σ'=[some (.int c),some (.int n),some (.int mode),some (.int far),some (.int (c % n)),some (.int ((c % n+1+c / 14 % (n-1)) % n)),some (.int (c / 10710 % 3)),some (.ref g),some (.int more),some (.ref pt),z10]∧Same H2' H'∧H' pt=some (.tup [.int z.1,.int z.2])∧z.1.natAbs≤2 ^ 150∧1≤z.2∧z.2≤6,?_,?_⟩
  ·have s3:=aj (o:=.tup [.int ((more % 23-8)*far),.int (1+more / 23 % 6)]) npt
   have hp3:upd H2' pt (.tup [.int ((more % 23-8)*far),.int (1+more / 23 % 6)]) pt=some (.tup [.int ((more % 23-8)*far),.int (1+more / 23 % 6)]):=ad
   generalize upd H2' pt (.tup [.int ((more % 23-8)*far),.int (1+more / 23 % 6)])=H3 at s3 hp3 ⊢
   refine ⟨_,rfl,_,_,rfl,rfl,_,rfl,ifB (fun hm=>?_) (fun hm=>?_)⟩
   ·refine ⟨_,rfl,pt,_,_,_,rfl,rfl,SqT.of hp3,rfl,_,rfl,_,rfl,pt,_,_,_,rfl,rfl,SqT.of hp3,rfl,by show 2≤sizeLine;decide,fun r nr=>?_⟩
    exact ⟨r,(if (more % 23-8)*far<0 then -((more % 23-8)*far) else (more % 23-8)*far,1+more / 23 % 6),_,rfl,s3.trans (aj nr),ad,by show (if (more % 23-8)*far<0 then -((more % 23-8)*far) else (more % 23-8)*far).natAbs≤_;split <;> omega,by show 1≤1+more / 23 % 6;omega,by show 1+more / 23 % 6≤6;omega⟩
   ·exact ⟨pt,((more % 23-8)*far,1+more / 23 % 6),_,rfl,s3,hp3,pb,by show 1≤1+more / 23 % 6;omega,by show 1+more / 23 % 6≤6;omega⟩
  rintro σ' H3 ⟨pt,z,z10,rfl,s3,hp3,b1,b2,b3⟩
  refine ⟨fun σ' H'=>∃ (vp:V) (o:Option (Int × Int)) (z10:Option V),σ'=[some (.int c),some (.int n),some (.int mode),some (.int far),some (.int (c % n)),some (.int ((c % n+1+c / 14 % (n-1)) % n)),some (.int (c / 10710 % 3)),some (.ref g),some (.int more),some vp,z10]∧H'=H3∧OptIs H3 vp o∧(∀ z,o=some z→z.1.natAbs≤2 ^ 150∧1≤z.2∧z.2≤6),?_,?_⟩
  ·refine ⟨_,rfl,_,_,rfl,rfl,⟨by decide,by decide⟩,_,_,rfl,rfl,by show (0:Int)<6;decide,rfl,_,rfl,ifV (fun h1=>?_) (fun h1=>?_)⟩
   ·exact ⟨.non,none,_,rfl,rfl,rfl,by nofun⟩
   ·exact ⟨.ref pt,some z,_,rfl,rfl,⟨pt,rfl,hp3⟩,fun y hy=>by cases hy;exact ⟨b1,b2,b3⟩⟩
  rintro σ' H3' ⟨vp,o,z10',rfl,rfl,hvp,ho⟩
  obtain ⟨w0,w1⟩:=bq (more / 248400) (show (0:Int)<4 by decide)
  obtain ⟨w2,w3⟩:=bq (more / 16560) (show (0:Int)<15 by decide)
  refine ⟨_,rfl,_,_,rfl,rfl,⟨by decide,by decide⟩,_,_,rfl,rfl,by show (0:Int)<15;decide,_,_,rfl,rfl,_,rfl,_,_,rfl,rfl,⟨by decide,by decide⟩,_,_,rfl,rfl,by show (0:Int)<4;decide,_,_,rfl,rfl,by show 2≤sizeLine;decide,fun pc npc=>?_⟩
  have s4:=aj (o:=.tup [.int (more / 16560 % 15-7),.int (1+more / 248400 % 4)]) npc
  have hpc:upd H3' pc (.tup [.int (more / 16560 % 15-7),.int (1+more / 248400 % 4)]) pc=some (.tup [.int (more / 16560 % 15-7),.int (1+more / 248400 % 4)]):=ad
  generalize upd H3' pc (.tup [.int (more / 16560 % 15-7),.int (1+more / 248400 % 4)])=H4 at s4 hpc ⊢
  refine ⟨_,rfl,_,rfl,_,rfl,_,rfl,_,rfl,_,rfl,_,rfl,_,rfl,_,_,rfl,rfl,⟨by decide,by decide⟩,vp,o,mode,_,rfl,hvp.mono s4,ho,fun vh oh H5 s5 hvh hoh=>?_⟩
  refine ⟨_,rfl,by show 7≤sizeLine;decide,fun p np'=>?_⟩
  have s6:=aj (o:=.tup [.int (c / 10710 % 3),.int (c % n),.int ((c % n+1+c / 14 % (n-1)) % n),.ref g,vp,vh,.ref pc]) np'
  have s56:=s5.trans s6
  refine k (.ref p) ⟨kd,st,go,gn,o,oh,(more / 16560 % 15-7,1+more / 248400 % 4)⟩ _ (s2.trans (s3.trans (s4.trans s56))) ⟨p,.ref g,vp,vh,.ref pc,rfl,?_,⟨g,rfl,s56 _ _ (s4 _ _ (s3 _ _ hg))⟩,(hvp.mono s4).mono s56,hvh.mono s6,⟨pc,rfl,s56 _ _ hpc⟩⟩ ⟨by show st<n;omega,by show go<n;omega,by show st≠go;omega,gk0,by show kd=0∨kd=1∨kd=2;omega,gb1,gb2,gk2,gb3,ho,hoh,⟨by show 1≤1+more / 248400 % 4;omega,by show 1+more / 248400 % 4≤4;omega,by show (more / 16560 % 15-7).natAbs≤100;omega⟩⟩
  show _=some (HO.tup [V.int kd,V.int (st:Int),V.int (go:Int),.ref g,vp,vh,.ref pc])
  rw [← hst,← hgo,← hkd]
  exact ad
theorem divInt_self' {b:Int} (h:b≠0):Rat.divInt b b=1:=by
 rw [show (1:Rat)=Rat.divInt 1 1 from rfl,Rat.divInt_eq_divInt_iff h (by decide)]
 omega
theorem lt_one {n d:Int} (hd:0<d) (h:n<d):Rat.divInt n d<1:=by
 rw [show (1:Rat)=Rat.divInt 1 1 from rfl,lt_div hd (by decide)]
 omega
theorem nn_num {n d:Int} (hd:0<d) (h:0≤n):0≤(Rat.divInt n d).num:=Rat.num_nonneg.mpr ((divInt_nn n hd).mpr h)
theorem pos_num {n d:Int} (hd:0<d) (h:0<n):0<(Rat.divInt n d).num:=by
 have h1:=nn_num hd (Int.le_of_lt h)
 have h2:(Rat.divInt n d).num≠0:=fun e=>by
  have h3:=Rat.num_divInt_den (Rat.divInt n d)
  rw [e,Rat.zero_divInt] at h3
  have:=(Rat.divInt_eq_divInt_iff (show (1:Int)≠0 by decide) (show d≠0 by omega)).mp (show Rat.divInt 0 1=Rat.divInt n d from by rw [← h3,Rat.zero_divInt])
  omega
 omega
def R7.d (r:R7) (nm:Str) (sp:List Str):WD:=if r.kd=0 then ⟨nm,sp.getD r.st "",sp.getD r.go "",.way,0,r.hi.map vC,vC r.co⟩ else if r.kd=1 then ⟨nm,sp.getD r.st "",sp.getD r.go "",.gro,Rat.divInt r.gain.1 r.gain.2,r.hi.map vC,vC r.co⟩ else ⟨nm,sp.getD r.st "",sp.getD r.go "",.lea,Rat.divInt (r.gain.2-r.gain.1) r.gain.2,r.hi.map vC,vC r.co⟩
theorem R7.d_nm (r:R7) (nm:Str) (sp:List Str):(r.d nm sp).nm=nm:=by unfold R7.d;split <;> (try split) <;> rfl
theorem R7.d_st (r:R7) (nm:Str) (sp:List Str):(r.d nm sp).st=sp.getD r.st "":=by unfold R7.d;split <;> (try split) <;> rfl
theorem R7.d_go (r:R7) (nm:Str) (sp:List Str):(r.d nm sp).go=sp.getD r.go "":=by unfold R7.d;split <;> (try split) <;> rfl
theorem R7.d_co (r:R7) (nm:Str) (sp:List Str):(r.d nm sp).co=vC r.co:=by unfold R7.d;split <;> (try split) <;> rfl
theorem R7.d_hi (r:R7) (nm:Str) (sp:List Str):(r.d nm sp).hi=r.hi.map vC:=by unfold R7.d;split <;> (try split) <;> rfl
theorem R7.d_gain {r:R7} {n:Nat} (h:R7Ok n r) (nm:Str) (sp:List Str):cZ (r.d nm sp).kd (r.d nm sp).x=Rat.divInt r.gain.1 r.gain.2:=by
 have g2:=h.g2
 have hb:r.gain.2≠0:=by omega
 unfold R7.d
 split
 ·rename_i e
  rw [h.k0 e]
  rfl
 ·split
  ·rfl
  ·show 1-Rat.divInt (r.gain.2-r.gain.1) r.gain.2=_
   rw [show (1:Rat)=Rat.divInt r.gain.2 r.gain.2 from (divInt_self' hb).symm,Rat.divInt_sub_divInt _ _ hb hb,Rat.divInt_eq_divInt_iff (Int.mul_ne_zero hb hb) hb]
   grind
theorem R7.d_sm {r:R7} {n:Nat} (h:R7Ok n r) (nm:Str) (sp:List Str):SmR (r.d nm sp).x∧SmR (cZ (r.d nm sp).kd (r.d nm sp).x):=by
 obtain ⟨a1,a2⟩:=h.g1
 obtain ⟨b1,b2⟩:=h.g2
 refine ⟨?_,?_⟩
 ·unfold R7.d
  split
  ·exact ⟨Nat.two_pow_pos _,sm1⟩
  ·split
   ·exact (Bd.divInt (n:=10) (by omega) (by omega)).smr (by decide)
   ·exact (Bd.divInt (n:=10) (by omega) (by omega)).smr (by decide)
 ·rw [R7.d_gain h]
  exact (Bd.divInt (n:=10) (by omega) (by omega)).smr (by decide)
inductive IspWay7 (K:PySem.W.Frag) (a:Ad) (vs:List V) (H:Hp) (Q:VK):Prop
 | mk (v:V) (r:R7) (nm:Str) (ln:Addr) (sp:List Str) (h1:vs=[v,.str nm,.ref ln]) (h2:R7Is H v r) (h3:R7Ok sp.length r) (h4:sp.Nodup) (h5:SqL K H ln (sp.map V.str)) (h6:∀ p H',H p=none→Same H H'→WayIs a H' (.ref p) (r.d nm sp)→Q (.ref p) H'):IspWay7 K a vs H Q
def spWay7 (K:PySem.W.Frag) (a:Ad):Sp:=fun vs H Q _=>IspWay7 K a vs H Q
theorem ok_law_way (T:TX K mg a):FnB P w K mg base CX0 "_law_way" 7 ["_law_row_here","_law_name_here","_law_names"] (spWay7 K a):=by
 refine T.d_law_way.ok sc_law_way (fun vs H Q E h=>?_) (fun f cdv A outer s H vs Q E hr h=>?_)
 ·obtain ⟨_,_,_,_,_,rfl,_⟩:=h
  rfl
 ·obtain ⟨v,r,nm,ln,sp,rfl,⟨p,vg,vp,vh,vc,rfl,hp,⟨pg,rfl,hg⟩,hpt,hhi,⟨pc,rfl,hc⟩⟩,ok,nd,hS,k⟩:=h
  refine ⟨_,(ae (ps_asg (pv 0) (gv rfl (aQ (aA (i:=3) sc_law_way.nd rfl (Or.inl rfl)) (aQ (aA (i:=4) sc_law_way.nd rfl (Or.inl rfl)) (aQ (aA (i:=5) sc_law_way.nd rfl (Or.inl rfl)) (aQ (aA (i:=6) sc_law_way.nd rfl (Or.inl rfl)) (aQ (aA (i:=7) sc_law_way.nd rfl (Or.inl rfl)) (aQ (aA (i:=8) sc_law_way.nd rfl (Or.inl rfl)) (aQ (aA (i:=9) sc_law_way.nd rfl (Or.inl rfl)) dN)))))))))
   (ae (ar (i:=10) sc_law_way.nd rfl (Or.inl rfl) br)
   (aN (aC (ax cF (pv 8) br (aD _)) (ai (ar (i:=10) sc_law_way.nd rfl (Or.inl rfl) (b7 (mk2 T) hr T.mg_Fraction aq (aa (au aB (pv 8) af (fun _ _=>rfl)) (aa (au aB (pv 8) af (fun _ _=>rfl)) ac))))) al)
   (ae (ar (i:=11) sc_law_way.nd rfl (Or.inl rfl) (b7 (mk2 T) hr T.mg_Fraction aq (aa (au aB (pv 9) af (fun _ _=>rfl)) (aa (au aB (pv 9) af (fun _ _=>rfl)) ac))))
   (ae (aC (ax cA (pv 3) af (aD _)) (ai (aw (pe_mk (mk_Way T) hr T.mg_Way aq (aa (pv 1) (aa (au ay (pv 2) (pv 4) (fun _ _=>rfl)) (aa (au ay (pv 2) (pv 5) (fun _ _=>rfl)) (aa (pv 10) (aa (pv 11) ac)))))))) al)
   (ae (aC (ax cA (pv 3) af (aD _)) (ai (aw (pe_mk (gF T) hr T.mg_Growing aq (aa (pv 1) (aa (au ay (pv 2) (pv 4) (fun _ _=>rfl)) (aa (au ay (pv 2) (pv 5) (fun _ _=>rfl)) (aa (b7 (mk2 T) hr T.mg_Fraction aq (aa (au aB (pv 6) af (fun _ _=>rfl)) (aa (au aB (pv 6) af (fun _ _=>rfl)) ac))) (aa (pv 10) (aa (pv 11) ac))))))))) al)
   (ai (aw (pe_mk (gE T) hr T.mg_Leaking aq (aa (pv 1) (aa (au ay (pv 2) (pv 4) (fun _ _=>rfl)) (aa (au ay (pv 2) (pv 5) (fun _ _=>rfl)) (aa (b7 (mk2 T) hr T.mg_Fraction aq (aa (ao fL (au aB (pv 6) af (fun _ _=>rfl)) (au aB (pv 6) af (fun _ _=>rfl))) (aa (au aB (pv 6) af (fun _ _=>rfl)) ac))) (aa (pv 10) (aa (pv 11) ac))))))))))))))),?_⟩
  try dsimp only [aS,Cx.nox,Cx.wish]
  refine ⟨_,rfl,p,_,rfl,SqT.of hp,rfl,_,_,rfl,_,_,rfl,_,_,rfl,_,_,rfl,_,_,rfl,_,_,rfl,_,_,rfl,rfl,?_⟩
  refine ⟨fun σ' H'=>∃ (vb:V) (z11:Option V),σ'=[some (.ref p),some (.str nm),some (.ref ln),some (.int r.kd),some (.int r.st),some (.int r.go),some (.ref pg),some vp,some vh,some (.ref pc),some vb,z11]∧Same H H'∧HiOk a.Fraction H' vb∧HiT a H' vb (r.hi.map vC),?_,?_⟩
  ·cases ho:r.hi with
   | none=>
    rw [ho] at hhi
    obtain rfl:vh=.non:=hhi
    refine ⟨_,rfl,rfl,_,rfl,iteF ?_⟩
    exact ⟨V.non,_,rfl,Same.refl _,.inl rfl,rfl⟩
   | some c=>
    rw [ho] at hhi
    obtain ⟨ph,rfl,hph⟩:=hhi
    obtain ⟨h0,h1,h2,h3⟩:=ok.hi c ho
    refine ⟨_,rfl,rfl,_,rfl,iteT ?_⟩
    refine ⟨_,rfl,ph,_,_,_,rfl,rfl,SqT.of hph,rfl,_,rfl,ph,_,_,_,rfl,rfl,SqT.of hph,rfl,_,_,rfl,by omega,Sm.of_le (n:=10) (by omega) (by decide),fun q H1 nq s1 f1=>?_⟩
    exact ⟨.ref q,_,rfl,s1,.inr ⟨q,_,rfl,f1,nn_num (by omega) h0⟩,⟨q,rfl,f1⟩⟩
  rintro σ' H1 ⟨vb,z11,rfl,s1,hb,hT⟩
  obtain ⟨co1,co2,_⟩:=ok.co
  obtain ⟨ga1,ga2⟩:=ok.g1
  obtain ⟨gb1,gb2⟩:=ok.g2
  have hc1:=s1 _ _ hc
  refine ⟨_,rfl,pc,_,_,_,rfl,rfl,SqT.of hc1,rfl,_,rfl,pc,_,_,_,rfl,rfl,SqT.of hc1,rfl,_,_,rfl,by omega,Sm.of_le (n:=10) (by omega) (by decide),fun qc H2 nqc s2 f2=>?_⟩
  have s12:=s1.trans s2
  have hS2:=s12.seq hS
  have hg2:=s12 _ _ hg
  have hb2:=hb.mono s2
  have cof:∀ (H':Hp) (p:Addr) {vc':V},CoIs a.Fraction H' p (.ref qc) vc'→Same H2 H'→∃ z,vc'=.ref z∧FrAt a.Fraction H' z (vC r.co):=fun H' p vc' co ss=>by
   rcases co with ⟨_,e⟩ | ⟨e,_⟩
   ·exact ⟨qc,e,f2.mono ss⟩
   ·cases e
  have e1:sp[r.st]?=some (sp.getD r.st ""):=by rw [List.getD_eq_getElem?_getD,List.getElem?_eq_getElem ok.st];rfl
  have e2:sp[r.go]?=some (sp.getD r.go ""):=by rw [List.getD_eq_getElem?_getD,List.getElem?_eq_getElem ok.go];rfl
  have ne:sp.getD r.st ""≠sp.getD r.go "":=fun e=>ok.ne ((List.getElem?_inj ok.st nd).mp (by rw [e1,e2,e]))
  have t1:=eJ e1
  have t2:=eJ e2
  refine ⟨_,rfl,rfl,_,rfl,ifV (fun h0=>?_) (fun h0=>?_)⟩
  ·refine ⟨_,rfl,_,rfl,_,rfl,ln,_,_,_,rfl,rfl,hS2,t1,_,rfl,_,rfl,ln,_,_,_,rfl,rfl,hS2,t2,_,rfl,_,rfl,?_⟩
   refine mkW (x:=0) T ne hb2 fun q H' vc' q' nq ss W co=>k q H' (s12.free nq) (s12.trans ss) (by unfold R7.d;rw [if_pos h0];exact ⟨q,_,_,q',rfl,W,by nofun,cof _ _ co (ss),hT.mono (s2.trans (ss))⟩)
  refine ⟨_,rfl,rfl,_,rfl,ifV (fun h1=>?_) (fun h1=>?_)⟩
  ·refine ⟨_,rfl,_,rfl,_,rfl,ln,_,_,_,rfl,rfl,hS2,t1,_,rfl,_,rfl,ln,_,_,_,rfl,rfl,hS2,t2,_,rfl,pg,_,_,_,rfl,rfl,SqT.of hg2,rfl,_,rfl,pg,_,_,_,rfl,rfl,SqT.of hg2,rfl,_,_,rfl,by omega,Sm.of_le (n:=10) (by omega) (by decide),fun q3 H3 nq3 s3 f3=>⟨_,rfl,_,rfl,?_⟩⟩
   refine mkG T ne f3 (pos_num (by omega) (by omega)) (hb2.mono s3) fun q H' vc' q' nq ss W co=>k q H' (s12.free (s3.free nq)) (s12.trans (s3.trans ss)) (by unfold R7.d;rw [if_neg h0,if_pos h1];exact ⟨q,_,_,q',rfl,W,by nofun,cof _ _ co (s3.trans ss),hT.mono (s2.trans (s3.trans ss))⟩)
  ·have h2:r.kd=2:=by have:=ok.k3;omega
   have gl:=ok.gl h2
   refine ⟨_,rfl,_,rfl,_,rfl,ln,_,_,_,rfl,rfl,hS2,t1,_,rfl,_,rfl,ln,_,_,_,rfl,rfl,hS2,t2,_,rfl,pg,_,_,_,rfl,rfl,SqT.of hg2,rfl,_,rfl,pg,_,_,_,rfl,rfl,SqT.of hg2,rfl,_,_,rfl,rfl,_,rfl,pg,_,_,_,rfl,rfl,SqT.of hg2,rfl,_,_,rfl,by omega,Sm.of_le (n:=10) (by omega) (by decide),fun q3 H3 nq3 s3 f3=>⟨_,rfl,_,rfl,?_⟩⟩
   refine mkL T ne f3 ⟨nn_num (by omega) (by omega),lt_one (by omega) (by omega),(Bd.divInt (n:=10) (by omega) (by omega)).smr (by decide)⟩ (hb2.mono s3) fun q H' vc' q' nq ss W co=>k q H' (s12.free (s3.free nq)) (s12.trans (s3.trans ss)) (by unfold R7.d;rw [if_neg h0,if_neg h1];exact ⟨q,_,_,q',rfl,W,by nofun,cof _ _ co (s3.trans ss),hT.mono (s2.trans (s3.trans ss))⟩)
theorem snoc_ind {α:Type} {P:List α→Prop} (h0:P []) (h1:∀ xs x,P xs→P (xs++[x])) (xs:List α):P xs:=by
 rw [← List.reverse_reverse xs]
 induction xs.reverse with
 | nil=>exact h0
 | cons x r ih=>rw [List.reverse_cons];exact h1 _ _ ih
def Over (D:Int) (m:Nat) (y:Rat):Prop:=∃ k:Int,y=Rat.divInt k D∧k.natAbs≤m
theorem Over.zero {D:Int} {m:Nat}:Over D m 0:=⟨0,by rw [Rat.zero_divInt],Nat.zero_le _⟩
theorem Over.mono {D:Int} {m n:Nat} {y:Rat} (h:Over D m y) (l:m≤n):Over D n y:=let ⟨k,e,b⟩:=h;⟨k,e,Nat.le_trans b l⟩
theorem Over.add {D:Int} {m n:Nat} {x y:Rat} (hD:D≠0) (h:Over D m x) (h2:Over D n y):Over D (m+n) (x+y):=by
 obtain ⟨k,rfl,b⟩:=h
 obtain ⟨j,rfl,c⟩:=h2
 refine ⟨k+j,?_,Nat.le_trans (Int.natAbs_add_le _ _) (by omega)⟩
 rw [Rat.divInt_add_divInt _ _ hD hD,Rat.divInt_eq_divInt_iff (Int.mul_ne_zero hD hD) hD]
 grind
theorem Over.neg {D:Int} {n:Nat} {y:Rat} (h2:Over D n y):Over D n (-y):=by
 obtain ⟨j,rfl,c⟩:=h2
 exact ⟨-j,by rw [Rat.neg_divInt],by rw [Int.natAbs_neg];exact c⟩
theorem Over.smr {D:Int} {m n:Nat} {y:Rat} (h:Over D m y) (hm:m≤2 ^ n) (hD:D.natAbs≤2 ^ n) (hn:n<9000):SmR y:=by
 obtain ⟨k,rfl,b⟩:=h
 exact (Bd.divInt (Nat.le_trans b hm) hD).smr hn
def con (d:WD) (y:Rat) (s:Str):Rat:=if s=d.go then y*cZ d.kd d.x else if s=d.st then -y else 0
theorem sumStep_con {A F:Str→Rat} {d:WD} (h:d.st≠d.go) (s:Str):sumStep A F d s=F s+con d (A d.nm) s:=by
 unfold sumStep con upf
 by_cases h1:s=d.go
 ·rw [if_pos h1,if_pos h1,h1]
 ·rw [if_neg h1,if_neg h1]
  by_cases h2:s=d.st
  ·rw [if_pos h2,if_pos h2,h2]
   grind
  ·rw [if_neg h2,if_neg h2]
   grind
def wSum (co A:Str→Rat) (wn:List Str):Rat:=(wn.map fun n=>co n*A n).sum
theorem sum_ind {n:Str} {c:Rat}:∀ {wn:List Str},wn.Nodup→(wn.map fun m=>if m=n then c else 0).sum=if n∈wn then c else 0
 | [],_=>rfl
 | m::wn,nd=>by
  obtain ⟨h1,h2⟩:=List.nodup_cons.mp nd
  rw [List.map_cons,List.sum_cons,sum_ind h2]
  by_cases h:m=n
  ·subst h
   rw [if_pos rfl,if_neg h1,if_pos (by simp)]
   grind
  ·rw [if_neg h]
   by_cases h3:n∈wn
   ·rw [if_pos h3,if_pos (by simp [h3])]
    grind
   ·rw [if_neg h3,if_neg (by simp [h3,Ne.symm h])]
    grind
theorem sum_map_add (f g:Str→Rat):∀ wn:List Str,(wn.map fun n=>f n+g n).sum=(wn.map f).sum+(wn.map g).sum
 | []=>by show (0:Rat)=0+0;grind
 | m::wn=>by
  rw [List.map_cons,List.map_cons,List.map_cons,List.sum_cons,List.sum_cons,List.sum_cons,sum_map_add f g wn]
  grind
theorem keys_sum {g:Str→Rat} {wn:List Str} (nd:wn.Nodup):∀ {ks:List Str},ks.Nodup→(∀ n∈ks,n∈wn)→(ks.map g).sum=(wn.map fun n=>if n∈ks then g n else 0).sum
 | [],_,_=>by
  have:∀ ws:List Str,(ws.map fun n=>if n∈([]:List Str) then g n else 0).sum=0:=by
   intro ws
   induction ws with
   | nil=>rfl
   | cons m ws ih=>rw [List.map_cons,List.sum_cons,ih,if_neg List.not_mem_nil];grind
  rw [this]
  rfl
 | k::ks,nk,sub=>by
  obtain ⟨h1,h2⟩:=List.nodup_cons.mp nk
  rw [List.map_cons,List.sum_cons,keys_sum nd h2 fun n hn=>sub n (by simp [hn])]
  have e:(wn.map fun n=>if n∈k::ks then g n else 0)=wn.map fun n=>(if n=k then g k else 0)+(if n∈ks then g n else 0):=by
   refine List.map_congr_left fun n _=>?_
   by_cases h:n=k
   ·subst h
    rw [if_pos (by simp),if_pos rfl,if_neg h1]
    grind
   ·rw [if_neg h]
    by_cases h3:n∈ks
    ·rw [if_pos h3,if_pos (by simp [h3])]
     grind
    ·rw [if_neg h3,if_neg (by simp [h3,h])]
     grind
  rw [e,sum_map_add (fun n=>if n=k then g k else 0) (fun n=>if n∈ks then g n else 0),sum_ind nd,if_pos (sub k (by simp))]
theorem worth_sum {co f:Str→Rat} {wn ks:List Str} (nd:wn.Nodup) (nk:ks.Nodup) (sub:∀ n∈ks,n∈wn):(ks.map fun n=>co n*f n).sum=wSum co (cb ks f) wn:=by
 rw [keys_sum nd nk sub]
 unfold wSum cb
 congr 1
 refine List.map_congr_left fun n _=>?_
 split
 ·rfl
 ·grind
theorem BdS.of {m:Nat} (xs:List Rat):(∀ x∈xs,Bd m x)→BdS xs (xs.length*(m+1)):=by
 refine snoc_ind (P:=fun xs=>(∀ x∈xs,Bd m x)→BdS xs (xs.length*(m+1))) (fun _=>by rw [List.length_nil,Nat.zero_mul];exact .nil) (fun xs x ih h=>?_) xs
 rw [List.length_append,List.length_cons,List.length_nil,Nat.add_mul,Nat.zero_add,Nat.one_mul]
 exact (ih fun y hy=>h y (List.mem_append_left _ hy)).snoc (h x (by simp))
abbrev Ent:=Str × (Int × Int)
def EntIs (H:Hp) (v:V) (e:Ent):Prop:=∃ t vp,v=.ref t∧H t=some (.tup [.str e.1,vp])∧DueIs H vp e.2
theorem EntIs.mono {H H':Hp} {v:V} {e:Ent} (h:EntIs H v e) (s:Same H H'):EntIs H' v e:=let ⟨t,vp,x,y,z⟩:=h;⟨t,vp,x,s _ _ y,z.mono s⟩
theorem EntIs.ko {H H':Hp} {v:V} {e:Ent} (h:EntIs H v e) (s:KeepO H H'):EntIs H' v e:=let ⟨t,vp,x,y,z⟩:=h;⟨t,vp,x,s.tup _ _ y,z.ko s⟩
structure PB (c:Int × Int):Prop where
 b1:c.1.natAbs≤2 ^ 150
 b2:1≤c.2
 b3:c.2≤6
def fj (wn:List Str) (os:List (Option (Int × Int))):List Ent:=(wn.zip os).filterMap fun z=>z.2.map fun c=>(z.1,c)
structure EntsOk (wn:List Str) (os:List (Option (Int × Int))) (es:List Ent):Prop where
 nd:(es.map (·.1)).Nodup
 iff:∀ e,e∈es↔e∈fj wn os
 len:es.length≤24
 pb:∀ e∈es,PB e.2
def gm (c:Int × Int):Rat:=Rat.divInt c.1 c.2
def bx (es:List Ent) (n:Str):Rat:=match es.find? (fun e=>decide (e.1=n)) with | none=>0 | some e=>gm e.2
theorem gL {es:List Ent} (nd:(es.map (·.1)).Nodup) {e:Ent} (he:e∈es):bx es e.1=gm e.2:=by
 unfold bx
 cases h:es.find? (fun x=>decide (x.1=e.1)) with
 | none=>
  have:=List.find?_eq_none.mp h e he
  simp at this
 | some x=>
  have hx:=List.mem_of_find?_eq_some h
  have hpx:=List.find?_some h
  have ex:x.1=e.1:=of_decide_eq_true hpx
  obtain ⟨i,hi⟩:=List.mem_iff_getElem?.mp hx
  obtain ⟨j,hj⟩:=List.mem_iff_getElem?.mp he
  have g1:(es.map (·.1))[i]?=some e.1:=by rw [List.getElem?_map,hi,Option.map_some,ex]
  have g2:(es.map (·.1))[j]?=some e.1:=by rw [List.getElem?_map,hj];rfl
  have ij:=(List.getElem?_inj (by rw [List.length_map];exact (List.getElem?_eq_some_iff.mp hi).1) nd).mp (g1.trans g2.symm)
  subst ij
  rw [hi] at hj
  cases hj
  rfl
theorem valE_none {es:List Ent} {n:Str} (h:¬ n∈es.map (·.1)):bx es n=0:=by
 unfold bx
 have:es.find? (fun e=>decide (e.1=n))=none:=by
  rw [List.find?_eq_none]
  intro e he z
  exact h (List.mem_map.mpr ⟨e,he,of_decide_eq_true z⟩)
 rw [this]
theorem amt_valE (es:List Ent):cb (es.map (·.1)) (bx es)=bx es:=by
 funext n
 unfold cb
 split
 ·rfl
 ·rename_i h
  exact (valE_none h).symm
abbrev ZR:=Str × R7
def zd (sp:List Str) (z:ZR):WD:=z.2.d z.1 sp
theorem getD_inj {sp:List Str} {i j:Nat} (nd:sp.Nodup) (hi:i<sp.length) (hj:j<sp.length) (h:sp.getD i ""=sp.getD j ""):i=j:=by
 rw [List.getD_eq_getElem?_getD,List.getD_eq_getElem?_getD,List.getElem?_eq_getElem hi,List.getElem?_eq_getElem hj] at h
 exact (List.getElem?_inj hi nd).mp (by rw [List.getElem?_eq_getElem hi,List.getElem?_eq_getElem hj];exact congrArg some h)
theorem over_of {t b q:Int} {m:Nat} (hb:b≠0) (h:b*q=151200) (hm:(t*q).natAbs≤m):Over 151200 m (Rat.divInt t b):=by
 refine ⟨t*q,?_,hm⟩
 rw [Rat.divInt_eq_divInt_iff hb (by decide),← h]
 grind
theorem six {b:Int} (h1:1≤b) (h2:b≤6):∃ q,b*q=60∧1≤q∧q≤60:=by
 have:b=1∨b=2∨b=3∨b=4∨b=5∨b=6:=by omega
 rcases this with rfl | rfl | rfl | rfl | rfl | rfl
 ·exact ⟨60,by decide,by decide,by decide⟩
 ·exact ⟨30,by decide,by decide,by decide⟩
 ·exact ⟨20,by decide,by decide,by decide⟩
 ·exact ⟨15,by decide,by decide,by decide⟩
 ·exact ⟨12,by decide,by decide,by decide⟩
 ·exact ⟨10,by decide,by decide,by decide⟩
structure ZsOk (sp:List Str) (zs:List ZR):Prop where
 all:∀ z∈zs,R7Ok sp.length z.2
 nd:(zs.map (·.1)).Nodup
 len:zs.length≤24
 np:sp.Nodup
 lp:sp.length≤12
theorem ZsOk.in_ {sp:List Str} {zs:List ZR} (h:ZsOk sp zs) {z:ZR} (hz:z∈zs):(zd sp z).st∈sp∧(zd sp z).go∈sp∧(zd sp z).st≠(zd sp z).go:=by
 have ok:=h.all z hz
 unfold zd
 rw [R7.d_go,R7.d_st]
 refine ⟨?_,?_,fun e=>ok.ne (getD_inj h.np ok.st ok.go e)⟩
 ·rw [List.getD_eq_getElem?_getD,List.getElem?_eq_getElem ok.st]
  exact List.getElem_mem _
 ·rw [List.getD_eq_getElem?_getD,List.getElem?_eq_getElem ok.go]
  exact List.getElem_mem _
theorem gJ (sp:List Str) (zs:List ZR):(zs.map (zd sp)).map (·.nm)=zs.map (·.1):=by
 rw [List.map_map]
 exact List.map_congr_left fun z _=>R7.d_nm _ _ _
def netOf (sp:List Str):List (Str × Rat):=sp.map fun s=>(s,1)
theorem fM (sp:List Str):(netOf sp).map (·.1)=sp:=by
 unfold netOf
 rw [List.map_map]
 exact List.map_id' sp
theorem ZsOk.net {sp:List Str} {zs:List ZR} (h:ZsOk sp zs):NetOk (netOf sp) (zs.map (zd sp)):=by
 refine ⟨by rw [fM];exact h.np,by unfold netOf;rw [List.length_map];exact h.lp,by rw [gJ];exact h.nd,by rw [List.length_map];exact h.len,fun d hd=>?_⟩
 obtain ⟨z,hz,rfl⟩:=List.mem_map.mp hd
 rw [fM]
 exact ⟨(h.in_ hz).1,(h.in_ hz).2.1⟩
theorem ent_over {c:Int × Int} (pb:PB c) {n:Nat} {r:R7} (ok:R7Ok n r):Over 151200 (2 ^ 180) (gm c)∧Over 151200 (2 ^ 180) (gm c*Rat.divInt r.gain.1 r.gain.2):=by
 obtain ⟨c1,c2,c3⟩:=pb
 obtain ⟨g1,g2⟩:=ok.g1
 obtain ⟨g3,g4⟩:=ok.g2
 obtain ⟨q,hq,q1,q2⟩:=six c2 c3
 obtain ⟨u,hu⟩:∃ u,(2520:Int)=r.gain.2*u:=Int.dvd_of_emod_eq_zero ok.gd
 have u1:1≤u:=by
  have:0<u:=Int.pos_of_mul_pos_left (by rw [Int.mul_comm,← hu];decide) (show 0<r.gain.2 by omega)
  omega
 have u2:u≤2520:=by
  have:=Int.mul_le_mul g3 (Int.le_refl u) (by omega) (by omega)
  omega
 constructor
 ·refine over_of (q:=q*2520) (by omega) (by rw [← Int.mul_assoc,hq];decide) ?_
  rw [Int.natAbs_mul]
  exact Nat.le_trans (Nat.mul_le_mul c1 (show (q*2520).natAbs≤2 ^ 20 by omega)) (by rw [← Nat.pow_add];exact aV (by decide))
 ·show Over _ _ (Rat.divInt c.1 c.2*_)
  rw [Rat.divInt_mul_divInt]
  refine over_of (q:=q*u) (Int.mul_ne_zero (by omega) (by omega)) (by rw [show c.2*r.gain.2*(q*u)=(c.2*q)*(r.gain.2*u) by grind,hq,← hu];decide) ?_
  have qu:(q*u).natAbs≤2 ^ 20:=by
   rw [Int.natAbs_mul]
   exact Nat.le_trans (Nat.mul_le_mul (show q.natAbs≤2 ^ 6 by omega) (show u.natAbs≤2 ^ 12 by omega)) (by decide)
  rw [Int.natAbs_mul,Int.natAbs_mul]
  exact Nat.le_trans (Nat.mul_le_mul (Nat.mul_le_mul c1 (show r.gain.1.natAbs≤2 ^ 4 by omega)) qu) (by rw [← Nat.pow_add,← Nat.pow_add];exact aV (by decide))
theorem Over.mulq {D:Int} {m k:Nat} {y:Rat} {t b q:Int} (hD:D≠0) (hb:b≠0) (hq:b*q=420) (h:Over D m y) (hk:(t*q).natAbs≤k):Over (D*420) (m*k) (y*Rat.divInt t b):=by
 obtain ⟨j,rfl,hj⟩:=h
 refine ⟨j*(t*q),?_,by rw [Int.natAbs_mul];exact Nat.mul_le_mul hj hk⟩
 rw [Rat.divInt_mul_divInt,Rat.divInt_eq_divInt_iff (Int.mul_ne_zero hD hb) (Int.mul_ne_zero hD (by decide)),← hq]
 grind
theorem Over.lift {D:Int} {m:Nat} {y:Rat} (hD:D≠0) (h:Over D m y):Over (D*420) (m*420) y:=by
 have:=h.mulq (t:=1) (b:=1) (q:=420) (k:=420) hD (by decide) (by decide) (by decide)
 rw [show Rat.divInt 1 1=1 from rfl,Rat.mul_one] at this
 exact this
theorem seven {b:Int} (h1:1≤b) (h2:b≤7):∃ q,b*q=420∧1≤q∧q≤420:=by
 have:b=1∨b=2∨b=3∨b=4∨b=5∨b=6∨b=7:=by omega
 rcases this with rfl | rfl | rfl | rfl | rfl | rfl | rfl
 ·exact ⟨420,by decide,by decide,by decide⟩
 ·exact ⟨210,by decide,by decide,by decide⟩
 ·exact ⟨140,by decide,by decide,by decide⟩
 ·exact ⟨105,by decide,by decide,by decide⟩
 ·exact ⟨84,by decide,by decide,by decide⟩
 ·exact ⟨70,by decide,by decide,by decide⟩
 ·exact ⟨60,by decide,by decide,by decide⟩
abbrev DD:Int:=151200*420
def AOk (zs:List ZR) (A:Str→Rat):Prop:=∀ z∈zs,Over DD (2 ^ 200) (A z.1)∧Over DD (2 ^ 200) (A z.1*Rat.divInt z.2.gain.1 z.2.gain.2)
theorem ZsOk.sumA {sp:List Str} {zs:List ZR} (h:ZsOk sp zs) {A:Str→Rat} (ha:AOk zs A):SumOk A (netOf sp) (zs.map (zd sp))∧∀ s,Bd 220 (cD A (zs.map (zd sp)) s):=by
 have nok:=h.net
 have hD:DD≠0:=by decide
 have bD:DD.natAbs≤2 ^ 220:=by decide
 have ov:∀ d∈zs.map (zd sp),d.st≠d.go∧(SmR d.x∧SmR (cZ d.kd d.x))∧Over DD (2 ^ 200) (A d.nm)∧Over DD (2 ^ 200) (A d.nm*cZ d.kd d.x):=fun d hd=>by
  obtain ⟨z,hz,rfl⟩:=List.mem_map.mp hd
  have e1:(zd sp z).nm=z.1:=R7.d_nm _ _ _
  have e2:cZ (zd sp z).kd (zd sp z).x=Rat.divInt z.2.gain.1 z.2.gain.2:=R7.d_gain (h.all z hz) _ _
  refine ⟨(h.in_ hz).2.2,R7.d_sm (h.all z hz) _ _,?_⟩
  rw [e2,e1]
  exact ha z hz
 have hF:∀ s,∀ us:List WD,(∀ d∈us,d∈zs.map (zd sp))→Over DD (us.length*2 ^ 200) (cD A us s):=by
  intro s
  refine snoc_ind (fun _=>by rw [List.length_nil,Nat.zero_mul];exact Over.zero) fun us u ih hu=>?_
  obtain ⟨o1,_,o2,o3⟩:=ov u (hu u (by simp))
  rw [sumF_snoc,sumStep_con o1,List.length_append,List.length_cons,List.length_nil,Nat.add_mul,Nat.zero_add,Nat.one_mul]
  refine (ih fun d hd=>hu d (List.mem_append_left _ hd)).add hD ?_
  unfold con
  split
  ·exact o3
  ·split
   ·exact o2.neg
   ·exact Over.zero
 have lim:∀ m:Nat,m≤24→m*2 ^ 200≤2 ^ 220:=fun m hm=>Nat.le_trans (Nat.mul_le_mul_right _ (show m≤2 ^ 20 from Nat.le_trans hm (by decide))) (by rw [← Nat.pow_add];exact aV (by decide))
 have bF:∀ s,∀ us:List WD,us.length≤24→(∀ d∈us,d∈zs.map (zd sp))→Bd 220 (cD A us s):=fun s us lu hu=>by
  obtain ⟨k,e,b⟩:=hF s us hu
  rw [e]
  exact Bd.divInt (Nat.le_trans b (lim _ lu)) bD
 have lz:(zs.map (zd sp)).length≤24:=by rw [List.length_map];exact h.len
 refine ⟨⟨nok.np,Nat.le_trans nok.lp (by decide),nok.io,fun d hd=>(ov d hd).1,fun d hd=>(ov d hd).2.1,fun d hd=>⟨(ov d hd).2.2.1.smr (aV (by decide)) bD (by decide),(ov d hd).2.2.2.smr (aV (by decide)) bD (by decide)⟩,fun i s=>(bF s _ (by rw [List.length_take];omega) fun d hd=>List.mem_of_mem_take hd).smr (by decide)⟩,fun s=>bF s _ lz fun d hd=>hd⟩
def coOf (zs:List ZR) (n:Str):Rat:=match zs.find? (fun z=>decide (z.1=n)) with | none=>0 | some z=>Rat.divInt z.2.co.1 z.2.co.2
theorem coOf_at {zs:List ZR} (nd:(zs.map (·.1)).Nodup) {z:ZR} (hz:z∈zs):coOf zs z.1=Rat.divInt z.2.co.1 z.2.co.2:=by
 unfold coOf
 cases h:zs.find? (fun x=>decide (x.1=z.1)) with
 | none=>
  have:=List.find?_eq_none.mp h z hz
  simp at this
 | some x=>
  have hx:=List.mem_of_find?_eq_some h
  have hpx:=List.find?_some h
  have ex:x.1=z.1:=of_decide_eq_true hpx
  obtain ⟨i,hi⟩:=List.mem_iff_getElem?.mp hx
  obtain ⟨j,hj⟩:=List.mem_iff_getElem?.mp hz
  have g1:(zs.map (·.1))[i]?=some z.1:=by rw [List.getElem?_map,hi,Option.map_some,ex]
  have g2:(zs.map (·.1))[j]?=some z.1:=by rw [List.getElem?_map,hj];rfl
  have ij:=(List.getElem?_inj (by rw [List.length_map];exact (List.getElem?_eq_some_iff.mp hi).1) nd).mp (g1.trans g2.symm)
  subst ij
  rw [hi] at hj
  cases hj
  rfl
theorem co_over {sp:List Str} {zs:List ZR} (h:ZsOk sp zs) {A:Str→Rat} (ha:AOk zs A) {z:ZR} (hz:z∈zs):Over (DD*420) (2 ^ 220) (coOf zs z.1*A z.1)∧SmR (coOf zs z.1)∧SmR (A z.1):=by
 obtain ⟨c1,c2,c3⟩:=(h.all z hz).co
 obtain ⟨q,hq,q1,q2⟩:=seven c1 (show z.2.co.2≤7 by omega)
 have hD:DD≠0:=by decide
 rw [coOf_at h.nd hz]
 refine ⟨?_,(Bd.divInt (n:=10) (by omega) (by omega)).smr (by decide),(ha z hz).1.smr (n:=200) (Nat.le_refl _) (by decide) (by decide)⟩
 rw [Rat.mul_comm]
 refine ((ha z hz).1.mulq (t:=z.2.co.1) (b:=z.2.co.2) (q:=q) (k:=2 ^ 20) hD (by omega) hq ?_).mono (by rw [← Nat.pow_add];exact Nat.le_refl _)
 rw [Int.natAbs_mul]
 exact Nat.le_trans (Nat.mul_le_mul c3 (show q.natAbs≤420 by omega)) (by decide)
structure PlanP (a:Ad) (H:Hp) (np d:Addr) (sp:List Str) (zs:List ZR) (A:Str→Rat):Prop where
 off:NetOff a H np d (netOf sp) (zs.map (zd sp))
 tab:∃ kvs ks f,H d=some (.dK kvs)∧Tab (FrIs a) H kvs ks f∧ks.Nodup∧(∀ n∈ks,n∈zs.map (·.1))∧cb ks f=A
 ok:AOk zs A
theorem ok_law_many (T:TX K mg a):FnB P w K mg base CX0 "_law_many" 1 ["_law_cell","_law_n"] (fun vs H Q _=>∃ c n:Int,vs=[.int c,.int n]∧∀ m:Nat,m≤24→(n<2→m=0)→Q (.int m) H):=by
 refine T.d_law_many.ok sc_law_many (fun vs H Q E h=>?_) (fun f cdv A outer s H vs Q E hr h=>?_)
 ·obtain ⟨_,_,rfl,_⟩:=h
  rfl
 ·obtain ⟨c,n,rfl,k⟩:=h
  refine ⟨_,(ae (aC (ax dG (pv 1) af (aD _)) (ai (aw af)) al)
   (ae (aC (ax cA (ao aW (pv 0) af) af (aD _)) (ai (aw (ao aW (ao bp (pv 0) af) af))) al)
   (ai (aw (ao aW (ao bp (pv 0) af) af))))),?_⟩
  try dsimp only [aS,Cx.nox,Cx.wish]
  have fin:¬ n<2→∀ m:Int,0<m→m≤25→Q (.int (c / 6 % m)) H:=fun h2 m h0 h1=>by
   obtain ⟨e0,e1⟩:=bq (c / 6) h0
   obtain ⟨u,hu⟩:=Int.eq_ofNat_of_zero_le e0
   rw [hu]
   exact k u (by omega) (fun z=>absurd z h2)
  walk_at "rd"
  refine ifB (fun h1=>k 0 (by decide) (fun _=>rfl)) (fun h1=>?_)
  walk_at "rd"
  refine ifV (fun h2=>?_) (fun h2=>?_)
  ·walk_at "rd"
   exact fin h1 25 (by decide) (by decide)
  ·walk_at "rd"
   exact fin h1 9 (by decide) (by decide)
inductive IspPlanE (K:PySem.W.Frag) (a:Ad) (vs:List V) (H:Hp) (Q:VK):Prop
 | mk (l:Addr) (ts:List V) (es:List Ent) (h1:vs=[.ref l]) (h2:SqL K H l ts) (h3:RowAt EntIs H ts es) (h4:(es.map (·.1)).Nodup) (h5:es.length≤26) (h6:(∀ e∈es,PB e.2)) (h7:∀ d H' kvs,H d=none→Same H H'→H' d=some (.dK kvs)→Tab (FrIs a) H' kvs (es.map (·.1)) (bx es)→Q (.ref d) H'):IspPlanE K a vs H Q
def spPlanE (K:PySem.W.Frag) (a:Ad):Sp:=fun vs H Q _=>IspPlanE K a vs H Q
theorem ok_law_plan (T:TX K mg a):FnB P w K mg base CX0 "_law_plan" 4 ["_law_entries_here"] (spPlanE K a):=by
 refine T.d_law_plan.ok sc_law_plan (fun vs H Q E h=>?_) (fun f cdv A outer s H vs Q E hr h=>?_)
 ·obtain ⟨_,_,_,rfl,_⟩:=h
  rfl
 ·obtain ⟨l,ts,es,rfl,hS,hv,nd,hl,hpb,k⟩:=h
  refine ⟨_,(ae (ar (i:=1) sc_law_plan.nd rfl (Or.inl rfl) eS)
   (ae (bu PassesOwn.never rfl (bH (pv 0)) (gv rfl (aQ (aA (i:=2) sc_law_plan.nd rfl (Or.inl rfl)) (aQ (aA (i:=3) sc_law_plan.nd rfl (Or.inl rfl)) dN))) (ai (d9 (cm hr) (pv 1) (pv 2) (b7 (mk2 T) hr T.mg_Fraction aq (aa (au aB (pv 3) af (fun _ _=>rfl)) (aa (au aB (pv 3) af (fun _ _=>rfl)) ac))) rfl)))
   (ai (aw (pv 1))))),?_⟩
  try dsimp only [aS,Cx.nox,Cx.wish]
  intro d nd0
  have s0:Same H (upd H d (.dK [])):=aj nd0
  have hd0:upd H d (.dK []) d=some (.dK []):=ad
  generalize upd H d (.dK [])=H0 at s0 hd0 ⊢
  refine ⟨_,rfl,l,rfl,⟨_,s0.seq hS⟩,bO (K:=K) (a:=l) (xs:=ts) (fun i σ H2=>i≤es.length∧∃ z2 z3 kvs,σ=[some (.ref l),some (.ref d),z2,z3]∧Same H H2∧H2 d=some (.dK kvs)∧Tab (FrIs a) H2 kvs ((es.map (·.1)).take i) (bx es)) ⟨Nat.zero_le _,_,_,[],rfl,s0,hd0,Tab.nil⟩ (fun i σ H2 _ ⟨_,_,_,_,_,s2,_⟩=>s2.seq hS) ?_ ?_⟩
  ·rintro i t σ H2 ht ⟨_,z2,z3,kvs,rfl,s2,hd,tb⟩
   obtain ⟨e,ee,t',vp,rfl,h1,p,rfl,hp⟩:=hv.get ht
   have hi:i<es.length:=(List.getElem?_eq_some_iff.mp ee).1
   have en:(es.map (·.1))[i]?=some e.1:=by rw [List.getElem?_map,ee];rfl
   obtain ⟨tk,nk⟩:=eL nd en
   obtain ⟨b1,b2,b3⟩:=hpb e (List.mem_of_getElem? ee)
   have hp2:=s2 _ _ hp
   refine ⟨t',[.str e.1,.ref p],rfl,SqT.of (s2 _ _ h1),rfl,.str e.1,[.ref p],rfl,⟨.ref p,[],rfl,⟨rfl,?_⟩⟩⟩
   refine ⟨_,rfl,p,_,_,_,rfl,rfl,SqT.of hp2,rfl,_,rfl,p,_,_,_,rfl,rfl,SqT.of hp2,rfl,_,_,rfl,by omega,Sm.of_le (n:=10) (by omega) (by decide),fun z H3 nz s3 f3=>?_⟩
   have lk:kvs.length≤900:=by
    rw [tb.len,List.length_take,List.length_map]
    omega
   refine ⟨_,rfl,_,rfl,d,_,rfl,DPut.k (k:=Sum.inr e.1) (s3 _ _ hd) (aL (by omega)),?_⟩
   have kp:KeepD H3 (upd H3 d (.dK (cX kvs (Sum.inr e.1) (.ref z)))):=KeepD.put (s3 _ _ hd)
   refine ⟨hi,_,_,_,rfl,aP nd0 (s2.trans s3),ad,?_⟩
   rw [tk,← ic nk]
   refine (Tab.put (n:=e.1) (tb.mono fun v x z=>(z.mono s3).keep kp) (FrIs.keep ⟨z,rfl,f3⟩ kp)).congr fun m _=>?_
   unfold upf
   split
   ·rename_i em
    rw [em]
    exact (gL nd (List.mem_of_getElem? ee)).symm
   ·rfl
  ·rintro σ H2 ⟨_,z2,z3,kvs,rfl,s2,hd,tb⟩
   rw [hv.1,show es.length=(es.map (·.1)).length by rw [List.length_map],List.take_length] at tb
   exact ⟨_,rfl,k d H2 kvs nd0 s2 hd tb⟩
inductive IspStays (K:PySem.W.Frag) (a:Ad) (vs:List V) (H:Hp) (Q:VK):Prop
 | mk (d l:Addr) (kvs:List (Key × V)) (us:List V) (es:List Ent) (h1:vs=[.ref d,.ref l]) (h2:H d=some (.dK kvs)) (h3:Tab (FrIs a) H kvs (es.map (·.1)) (bx es)) (h4:SqL K H l us) (h5:RowAt EntIs H us es) (h6:(es.map (·.1)).Nodup) (h7:es.length≤26) (h8:(∀ e∈es,PB e.2)) (h9:∀ H',Same H H'→Q (.bl true) H'):IspStays K a vs H Q
def spStays (K:PySem.W.Frag) (a:Ad):Sp:=fun vs H Q _=>IspStays K a vs H Q
theorem ok_law_stays (T:TX K mg a):FnB P w K mg base CX0 "_law_stays" 3 ["_law_plan_here","_law_entries_here"] (spStays K a):=by
 refine T.d_law_stays.ok sc_law_stays (fun vs H Q E h=>?_) (fun f cdv A outer s H vs Q E hr h=>?_)
 ·obtain ⟨_,_,_,_,_,rfl,_⟩:=h
  rfl
 ·obtain ⟨d,l,kvs,us,es,rfl,hd,tb,hS,hv,nd,hl,pb,k⟩:=h
  refine ⟨_,(ae (aC (ax (op_neL hr.units0) (pe_callTy (fQ hr.hd) (by rfl) T.z_list PyProof.Rows.boot_list (aa (pv 0) ac)) (d6 (xs:=["_law_entry"]) (rest:=[]) rfl (bH (pv 1))
   (fun pins fp C' s' H'=>(aA (i:=0) (show (["_law_entry"]:List Str).Nodup by decide +kernel) rfl (Or.inl rfl))) (fun pins fp C' s' H'=>dC)
   (fun pins fp C' s' H'=>(au (r:=rIxT K) aB (pv 0) af (fun _ _=>rfl)))
   (Clos.none (by decide +kernel) (by decide +kernel)) (Reads.many (ys:=[]) (js:=[]) True.intro)) (aD _)) (ai (aw fu)) al)
   (ae (bu PassesOwn.never rfl (bH (pv 1)) (gv rfl (aQ (aA (i:=2) sc_law_stays.nd rfl (Or.inl rfl)) (aQ (aA (i:=3) sc_law_stays.nd rfl (Or.inl rfl)) dN))) (ai (aC (cY (aJ (aG (fW T) hr aq (aa (eZ (cm hr) (pv 0) (pv 2) (fun _ _=>rfl)) (aa (au aB (pv 3) af (fun _ _=>rfl)) (aa (au aB (pv 3) af (fun _ _=>rfl)) ac)))))) (ai (aw fu)) al)))
   (ai (aw fu)))),?_⟩
  try dsimp only [aS,Cx.nox,Cx.wish]
  refine ⟨_,rfl,d,kvs,rfl,.inl hd,fun p np=>?_⟩
  have e1:(kvs.map fun kv=>kV kv.1)=(es.map (·.1)).map V.str:=by
   have:=congrArg (List.map kV) tb.keys
   rw [List.map_map,List.map_map] at this
   exact this
  rw [e1]
  have s1:=aj (o:=.lst ((es.map (·.1)).map V.str)) np
  have hp:upd H p (.lst ((es.map (·.1)).map V.str)) p=some (.lst ((es.map (·.1)).map V.str)):=ad
  generalize upd H p (.lst ((es.map (·.1)).map V.str))=H1 at s1 hp ⊢
  refine ⟨_,rfl,l,rfl,⟨_,s1.seq hS⟩,fun q nq=>?_⟩
  refine fm (K:=K) (a:=l) (xs:=us) (fun i H2=>i≤es.length∧Same H1 H2∧H2 q=some (.lst (((es.take i).map (·.1)).map V.str))) ⟨Nat.zero_le _,aj nq,ad⟩ (fun i H2 ⟨_,s2,_⟩=>(s1.trans s2).seq hS) ?_ ?_
  ·rintro i x H2 hx ⟨_,s2,h2⟩
   obtain ⟨e,ee,t,vp,rfl,ht,_⟩:=hv.get hx
   have hi:=(List.getElem?_eq_some_iff.mp ee).1
   refine g1 ⟨⟨[_],rfl,rfl⟩,yes ?_⟩
   refine ⟨_,rfl,t,_,_,_,rfl,rfl,SqT.of ((s1.trans s2) _ _ ht),rfl,_,h2,aL (by rw [List.length_map,List.length_map,List.length_take];omega),c7 (by rw [hv.1];exact hi) ⟨hi,aP nq s2,?_⟩⟩
   rw [ad,List.take_add_one,ee,Option.toList_some,List.map_append,List.map_append]
   rfl
  ·rintro H2 ⟨_,s2,h2⟩
   rw [hv.1,List.take_length] at h2
   have s12:=s1.trans s2
   refine ⟨p,q,_,_,rfl,rfl,SqL.of (s2 _ _ hp),SqL.of h2,eU _,eU _,_,rfl,c6 (by rw [eqVs_strs];rfl) ?_⟩
   refine ⟨_,rfl,l,rfl,⟨_,s12.seq hS⟩,bO (K:=K) (a:=l) (xs:=us) (fun i σ H3=>∃ z2 z3,σ=[some (.ref d),some (.ref l),z2,z3]∧H3=H2) ⟨_,_,rfl,rfl⟩ (fun i σ H3 _ ⟨_,_,_,e⟩=>by rw [e];exact s12.seq hS) ?_ ?_⟩
   ·rintro i x σ H3 hx ⟨z2,z3,rfl,rfl⟩
    obtain ⟨e,ee,t,vp,rfl,ht,pp,rfl,hpp⟩:=hv.get hx
    have me:=List.mem_of_getElem? ee
    obtain ⟨v,ev,x',rfl,fx⟩:=tb.vals e.1 (List.mem_map.mpr ⟨e,me,rfl⟩)
    rw [gL nd me] at fx
    obtain ⟨b1,b2,b3⟩:=pb e me
    have hpp2:=s12 _ _ hpp
    refine ⟨t,[.str e.1,.ref pp],rfl,SqT.of (s12 _ _ ht),rfl,.str e.1,[.ref pp],rfl,⟨.ref pp,[],rfl,⟨rfl,?_⟩⟩⟩
    refine ⟨_,rfl,_,rfl,d,.ref x',rfl,.inl ⟨kvs,Sum.inr e.1,.inl (s12 _ _ hd),rfl,ev.symm⟩,_,rfl,pp,_,_,_,rfl,rfl,SqT.of hpp2,rfl,_,rfl,pp,_,_,_,rfl,rfl,SqT.of hpp2,rfl,x',gm e.2,_,_,rfl,fx.mono s12,(Bd.divInt (n:=160) (Nat.le_trans b1 (aV (by decide))) (Nat.le_trans (show e.2.2.natAbs≤10 by omega) (by decide))).smr (by decide),Sm.of_le b1 (by decide),Sm.of_le (n:=10) (by omega) (by decide),by omega,rfl,?_⟩
    exact ⟨_,rfl,iteF ⟨_,_,rfl,rfl⟩⟩
   ·rintro σ H3 ⟨z2,z3,rfl,rfl⟩
    exact k _ s12
theorem RowAt.set {α:Type} {R:Hp→V→α→Prop} {H:Hp} {ts:List V} {xs:List α} {t:V} {x:α} (d:RowAt R H ts xs) (j:Nat) (h:R H t x):RowAt R H (ts.set j t) (xs.set j x):=by
 refine ⟨by rw [List.length_set,List.length_set,d.1],fun i u y h1 h2=>?_⟩
 by_cases hj:j=i
 ·subst hj
  have hi:=(List.getElem?_eq_some_iff.mp h1).1
  have hi2:=(List.getElem?_eq_some_iff.mp h2).1
  rw [List.length_set] at hi hi2
  rw [List.getElem?_set_self hi] at h1
  rw [List.getElem?_set_self hi2] at h2
  cases h1
  cases h2
  exact h
 ·rw [List.getElem?_set_ne hj] at h1 h2
  exact d.2 i u y h1 h2
theorem sum_snocR (xs:List Rat) (y:Rat):(xs++[y]).sum=xs.sum+y:=by
 induction xs with
 | nil=>show y+0=0+y;grind
 | cons x xs ih=>rw [List.cons_append,List.sum_cons,List.sum_cons,ih];grind
theorem ixN_nat {n j:Nat} (h:j<n):ixN n (j:Int)=some j:=by
 unfold ixN
 rw [if_pos (by omega),if_pos (by omega)]
 rfl
def rowS (r:R7) (k:Nat):Rat:=match r.put with | none=>0 | some c=>if k=r.go then Rat.divInt c.1 c.2*Rat.divInt r.gain.1 r.gain.2 else if k=r.st then -(Rat.divInt c.1 c.2) else 0
def rowsS (rs:List R7) (k:Nat):Rat:=(rs.map fun r=>rowS r k).sum
theorem gq (rs:List R7) (r:R7) (k:Nat):rowsS (rs++[r]) k=rowsS rs k+rowS r k:=by
 unfold rowsS
 rw [List.map_append,List.map_cons,List.map_nil,sum_snocR]
structure SumAt (i:Nat) (rs:List R7) (k:Nat) (c:Int × Int):Prop where
 b1:c.1.natAbs≤2 ^ (160+8*i)
 b2:c.2.natAbs≤2 ^ (8*i)
 b3:1≤c.2
 eq:Rat.divInt c.1 c.2=rowsS rs k
theorem SumAt.skip {i:Nat} {rs:List R7} {k:Nat} {c:Int × Int} (h:SumAt i rs k c) {r:R7} (hv:rowS r k=0):SumAt (i+1) (rs++[r]) k c:=
 ⟨Nat.le_trans h.b1 (aV (by omega)),Nat.le_trans h.b2 (aV (by omega)),h.b3,by rw [gq,hv,h.eq];grind⟩
theorem SumAt.step {i:Nat} {rs:List R7} {k:Nat} {c:Int × Int} (h:SumAt i rs k c) {r:R7} {m e:Int} (h3:m.natAbs≤2 ^ 158) (h4:e.natAbs≤2 ^ 7) (e1:1≤e) (hv:Rat.divInt m e=rowS r k) :
  SumAt (i+1) (rs++[r]) k (c.1*e+m*c.2,c.2*e):=by
 have a1:(c.1*e).natAbs≤2 ^ (160+8*i+7):=by
  rw [Int.natAbs_mul,Nat.pow_add]
  exact Nat.mul_le_mul h.b1 h4
 have a2:(m*c.2).natAbs≤2 ^ (160+8*i+7):=by
  rw [Int.natAbs_mul]
  refine Nat.le_trans (Nat.mul_le_mul h3 h.b2) ?_
  rw [← Nat.pow_add]
  exact aV (by omega)
 have b3:=h.b3
 refine ⟨Nat.le_trans (Int.natAbs_add_le _ _) ?_,?_,Int.mul_pos (by omega) (by omega),?_⟩
 ·have:2 ^ (160+8*(i+1))=2 ^ (160+8*i+7)*2:=by rw [show 160+8*(i+1)=160+8*i+7+1 by omega,Nat.pow_succ]
  show _≤2 ^ (160+8*(i+1))
  omega
 ·show (c.2*e).natAbs≤_
  rw [Int.natAbs_mul]
  refine Nat.le_trans (Nat.mul_le_mul h.b2 h4) ?_
  rw [← Nat.pow_add]
  exact aV (by omega)
 ·rw [gq,← hv,← h.eq]
  exact (Rat.divInt_add_divInt _ _ (by omega) (by omega)).symm
inductive IspSumsR (K:PySem.W.Frag) (vs:List V) (H:Hp) (Q:VK):Prop
 | mk (l:Addr) (n:Nat) (us:List V) (rs:List R7) (h1:vs=[.ref l,.int n]) (h2:n≤12) (h3:SqL K H l us) (h4:RowAt R7Is H us rs) (h5:(∀ r∈rs,R7Ok n r)) (h6:rs.length≤24) (h7:∀ p H' ts (cs:List (Int × Int)),H p=none→Same H H'→H' p=some (.lst ts)→RowAt DueIs H' ts cs→cs.length=n→(∀ k c,cs[k]?=some c→c.1.natAbs≤2 ^ 400∧c.2.natAbs≤2 ^ 400∧1≤c.2∧Rat.divInt c.1 c.2=rowsS rs k)→Q (.ref p) H'):IspSumsR K vs H Q
def spSumsR (K:PySem.W.Frag):Sp:=fun vs H Q _=>IspSumsR K vs H Q
theorem eC (T:TX K mg a):FnB P w K mg base CX0 "_law_sums" 2 ["_law_rows","_law_n"] (spSumsR K):=by
 refine T.d_law_sums.ok sc_law_sums (fun vs H Q E h=>?_) (fun f cdv A outer s H vs Q E hr h=>?_)
 ·obtain ⟨_,_,_,_,rfl,_⟩:=h
  rfl
 ·obtain ⟨l,n,us,rs,rfl,n12,hR,hr7,ok,l24,k⟩:=h
  refine ⟨_,(aN (d5 (i:=2) (xs:=["_law_k"]) (rest:=[]) sc_law_sums.nd rfl rfl rfl (bo rfl T.z_range (aa (pv 1) ac))
   (fun pins fp C' s' H'=>(aA (i:=0) (show (["_law_k"]:List Str).Nodup by decide +kernel) rfl (Or.inl rfl))) (fun pins fp C' s' H'=>dC)
   (fun pins fp C' s' H'=>(aR (aa af (aa af ac))))
   (Clos.none (by decide +kernel) (by decide +kernel)) (Reads.many (ys:=[]) (js:=[]) True.intro))
   (ae (bu PassesOwn.never rfl (bH (pv 0)) (gv rfl (aQ (aA (i:=3) sc_law_sums.nd rfl (Or.inl rfl)) (aQ (aA (i:=4) sc_law_sums.nd rfl (Or.inl rfl)) (aQ (aA (i:=5) sc_law_sums.nd rfl (Or.inl rfl)) (aQ (aA (i:=6) sc_law_sums.nd rfl (Or.inl rfl)) (aQ (aA (i:=7) sc_law_sums.nd rfl (Or.inl rfl)) (aQ (aA (i:=8) sc_law_sums.nd rfl (Or.inl rfl)) (aQ (aA (i:=9) sc_law_sums.nd rfl (Or.inl rfl)) dN)))))))) (ai (aC (ax cF (pv 7) br (aD _)) (ae (ps_asg (aG (cR T) hr aq (aa (au ay (pv 2) (pv 4) (fun _ _=>rfl)) (aa (aR (aa (ao fL af (au aB (pv 7) af (fun _ _=>rfl))) (aa (au aB (pv 7) af (fun _ _=>rfl)) ac))) ac))) (pg_sub (pv 2) (pv 4) set_list))
   (ai (ps_asg (aG (cR T) hr aq (aa (au ay (pv 2) (pv 5) (fun _ _=>rfl)) (aa (aG (g7 T) hr aq (aa (pv 7) (aa (pv 6) ac))) ac))) (pg_sub (pv 2) (pv 5) set_list)))) al)))
   (ai (aw (pv 2))))),?_⟩
  try dsimp only [aS,Cx.nox,Cx.wish]
  refine ⟨fun σ' H'=>∃ (p:Addr) (ts:List V),σ'=[some (.ref l),some (.int n),some (.ref p),none,none,none,none,none,none,none]∧H p=none∧Same H H'∧H' p=some (.lst ts)∧RowAt DueIs H' ts (List.replicate n (0,1)),?_,?_⟩
  ·refine ⟨_,rfl,(n:Int),rfl,by omega,by omega,fun p np=>?_⟩
   refine cv (n:=(n:Int).toNat) (fun i H2=>i≤n∧Same H H2∧∃ ts,H2 p=some (.lst ts)∧RowAt DueIs H2 ts (List.replicate i (0,1))) ⟨Nat.zero_le _,aj np,[],ad,RowAt.nil⟩ ?_ ?_
   ·rintro i H2 hi ⟨_,s2,ts,h2,hv⟩
    refine g1 ⟨⟨[_],rfl,rfl⟩,yes ?_⟩
    have hi':i<n:=by simpa using hi
    refine ⟨by show 2≤sizeLine;decide,fun t nt=>?_⟩
    have s3:=aj (o:=.tup [.int 0,.int 1]) nt
    have ht:upd H2 t (.tup [.int 0,.int 1]) t=some (.tup [.int 0,.int 1]):=ad
    generalize upd H2 t (.tup [.int 0,.int 1])=H3 at s3 ht ⊢
    have h3:=s3 _ _ h2
    have lts:ts.length=i:=by rw [hv.1,List.length_replicate]
    refine ⟨_,h3,aL (by omega),c7 (by simpa using hi) ⟨hi',aP np (s2.trans s3),_,ad,?_⟩⟩
    rw [List.replicate_succ']
    exact RowAt.snoc (hv.mono fun v x z=>(z.mono s3).ko (.lst h3)) (DueIs.ko ⟨t,rfl,ht⟩ (.lst h3))
   ·rintro H2 ⟨_,s2,ts,h2,hv⟩
    exact ⟨p,ts,rfl,np,s2,h2,by simpa using hv⟩
  rintro σ' H1 ⟨p,ts0,rfl,np,s1,hp,hv⟩
  refine ⟨_,rfl,l,rfl,⟨_,s1.seq hR⟩,bO (K:=K) (a:=l) (xs:=us) (fun i σ H2=>i≤rs.length∧∃ (ts:List V) (cs:List (Int × Int)) (z3 z4 z5 z6 z7 z8 z9:Option V),σ=[some (.ref l),some (.int n),some (.ref p),z3,z4,z5,z6,z7,z8,z9]∧Same H H2∧H2 p=some (.lst ts)∧RowAt DueIs H2 ts cs∧cs.length=n∧∀ k c,cs[k]?=some c→SumAt i (rs.take i) k c) ⟨Nat.zero_le _,ts0,_,_,_,_,_,_,_,_,rfl,s1,hp,hv,List.length_replicate,fun k c hc=>?_⟩ (fun i σ H2 _ ⟨_,_,_,_,_,_,_,_,_,_,_,s2,_⟩=>s2.seq hR) ?_ ?_⟩
  ·obtain rfl:=(List.mem_replicate.mp (List.mem_of_getElem? hc)).2
   exact ⟨Nat.zero_le _,by show (1:Int).natAbs≤_;decide,by show (1:Int)≤1;decide,by show Rat.divInt 0 1=_;rw [Rat.zero_divInt];rfl⟩
  ·rintro i x σ H2 hx ⟨_,ts,cs,z3,z4,z5,z6,z7,z8,z9,rfl,s2,hp2,hv2,lc,hs⟩
   obtain ⟨r,er,hr1⟩:=hr7.get hx
   have hi:=(List.getElem?_eq_some_iff.mp er).1
   have okr:=ok r (List.mem_of_getElem? er)
   have tk:rs.take (i+1)=rs.take i++[r]:=by rw [List.take_add_one,er];rfl
   obtain ⟨q0,vg,vp,vh,vc,rfl,hq0,⟨pg,rfl,hg⟩,hpt,_,_⟩:=hr1.mono s2
   refine ⟨q0,_,rfl,SqT.of hq0,rfl,_,_,rfl,_,_,rfl,_,_,rfl,_,_,rfl,_,_,rfl,_,_,rfl,_,_,rfl,rfl,?_⟩
   cases ho:r.put with
   | none=>
    rw [ho] at hpt
    obtain rfl:vp=.non:=hpt
    refine ⟨_,rfl,rfl,_,rfl,iteF ?_⟩
    refine ⟨hi,ts,cs,_,_,_,_,_,_,_,rfl,s2,hp2,hv2,lc,fun k c hc=>?_⟩
    rw [tk]
    exact (hs k c hc).skip (by unfold rowS;rw [ho])
   | some q=>
    rw [ho] at hpt
    obtain ⟨pq,rfl,hq⟩:=hpt
    obtain ⟨q1,q2,q3⟩:=okr.pt q ho
    obtain ⟨g1',g2'⟩:=okr.g1
    obtain ⟨g3',g4'⟩:=okr.g2
    refine ⟨_,rfl,rfl,_,rfl,iteT ?_⟩
    have lst:r.st<cs.length:=by rw [lc];exact okr.st
    have lgo:r.go<cs.length:=by rw [lc];exact okr.go
    have ec1:cs[r.st]?=some (cs[r.st]'lst):=List.getElem?_eq_getElem lst
    have ec2:cs[r.go]?=some (cs[r.go]'lgo):=List.getElem?_eq_getElem lgo
    generalize cs[r.st]'lst=c1 at ec1
    generalize cs[r.go]'lgo=c2 at ec2
    obtain ⟨t1,et1,p1,rfl,hp1⟩:=hv2.get' ec1
    obtain ⟨t2,et2,p2,rfl,hp3⟩:=hv2.get' ec2
    have S1:=hs _ _ ec1
    have S2:=hs _ _ ec2
    have lts:ts.length=n:=by rw [hv2.1,lc]
    have m2:(q.1*r.gain.1).natAbs≤2 ^ 158:=by
     rw [Int.natAbs_mul]
     refine Nat.le_trans (Nat.mul_le_mul q1 (show r.gain.1.natAbs≤2 ^ 8 by omega)) ?_
     rw [← Nat.pow_add]
     exact aV (by decide)
    have m3:(q.2*r.gain.2).natAbs≤2 ^ 7:=by
     rw [Int.natAbs_mul]
     refine Nat.le_trans (Nat.mul_le_mul (show q.2.natAbs≤6 by omega) (show r.gain.2.natAbs≤10 by omega)) (by decide)
    have m4:1≤q.2*r.gain.2:=Int.mul_pos (by omega) (by omega)
    have m1:(0-q.1).natAbs≤2 ^ 158:=Nat.le_trans (show _≤2 ^ 150 by omega) (aV (by decide))
    have b160:160+8*i<9000:=by omega
    refine ⟨_,rfl,_,rfl,p,_,_,_,rfl,rfl,SqL.of hp2,atI_nat et1,_,rfl,pq,_,_,_,rfl,rfl,SqT.of hq,rfl,_,_,rfl,rfl,_,rfl,pq,_,_,_,rfl,rfl,SqT.of hq,rfl,by show 2≤sizeLine;decide,fun r1 nr1=>?_⟩
    have s3:=aj (o:=.tup [.int (0-q.1),.int q.2]) nr1
    have hr1':upd H2 r1 (.tup [.int (0-q.1),.int q.2]) r1=some (.tup [.int (0-q.1),.int q.2]):=ad
    generalize upd H2 r1 (.tup [.int (0-q.1),.int q.2])=H3 at s3 hr1' ⊢
    refine ⟨p1,r1,_,_,_,_,rfl,s3 _ _ hp1,hr1',Sm.of_le S1.b1 b160,Sm.of_le S1.b2 (by omega),Sm.of_le m1 (by decide),Sm.of_le (n:=10) (by omega) (by decide),fun t nt=>?_⟩
    have s4:=aj (o:=.tup [.int (c1.1*q.2+(0-q.1)*c1.2),.int (c1.2*q.2)]) nt
    have ht:upd H3 t (.tup [.int (c1.1*q.2+(0-q.1)*c1.2),.int (c1.2*q.2)]) t=some (.tup [.int (c1.1*q.2+(0-q.1)*c1.2),.int (c1.2*q.2)]):=ad
    generalize upd H3 t (.tup [.int (c1.1*q.2+(0-q.1)*c1.2),.int (c1.2*q.2)])=H4 at s4 ht ⊢
    have s24:=s3.trans s4
    have hp4:=s24 _ _ hp2
    refine ⟨_,rfl,_,rfl,p,ts,_,r.st,rfl,rfl,hp4,ixN_nat (by rw [lts];exact okr.st),?_⟩
    have k5:KeepO H4 (upd H4 p (.lst (ts.set r.st (.ref t)))):=.lst hp4
    have hp5:upd H4 p (.lst (ts.set r.st (.ref t))) p=some (.lst (ts.set r.st (.ref t))):=ad
    have s5:Same H (upd H4 p (.lst (ts.set r.st (.ref t)))):=aP np (s2.trans s24)
    generalize upd H4 p (.lst (ts.set r.st (.ref t)))=H5 at k5 hp5 s5 ⊢
    have hv5:RowAt DueIs H5 (ts.set r.st (.ref t)) (cs.set r.st (c1.1*q.2+(0-q.1)*c1.2,c1.2*q.2)):=RowAt.set (hv2.mono fun v x z=>(z.mono s24).ko k5) _ (DueIs.ko ⟨t,rfl,ht⟩ k5)
    have et2':(ts.set r.st (.ref t))[r.go]?=some (.ref p2):=by rw [List.getElem?_set_ne okr.ne];exact et2
    have hq5:=k5.tup _ _ (s24 _ _ hq)
    have hg5:=k5.tup _ _ (s24 _ _ hg)
    have hp35:=k5.tup _ _ (s24 _ _ hp3)
    refine ⟨_,rfl,_,rfl,p,_,_,_,rfl,rfl,SqL.of hp5,atI_nat et2',_,rfl,_,rfl,pq,pg,_,_,_,_,rfl,hq5,hg5,Sm.of_le q1 (by decide),Sm.of_le (n:=10) (by omega) (by decide),Sm.of_le (n:=10) (by omega) (by decide),Sm.of_le (n:=10) (by omega) (by decide),fun u nu=>?_⟩
    have s6:=aj (o:=.tup [.int (q.1*r.gain.1),.int (q.2*r.gain.2)]) nu
    have hu:upd H5 u (.tup [.int (q.1*r.gain.1),.int (q.2*r.gain.2)]) u=some (.tup [.int (q.1*r.gain.1),.int (q.2*r.gain.2)]):=ad
    generalize upd H5 u (.tup [.int (q.1*r.gain.1),.int (q.2*r.gain.2)])=H6 at s6 hu ⊢
    refine ⟨p2,u,_,_,_,_,rfl,s6 _ _ hp35,hu,Sm.of_le S2.b1 b160,Sm.of_le S2.b2 (by omega),Sm.of_le m2 (by decide),Sm.of_le m3 (by decide),fun v nv=>?_⟩
    have s7:=aj (o:=.tup [.int (c2.1*(q.2*r.gain.2)+q.1*r.gain.1*c2.2),.int (c2.2*(q.2*r.gain.2))]) nv
    have hvv:upd H6 v (.tup [.int (c2.1*(q.2*r.gain.2)+q.1*r.gain.1*c2.2),.int (c2.2*(q.2*r.gain.2))]) v=some (.tup [.int (c2.1*(q.2*r.gain.2)+q.1*r.gain.1*c2.2),.int (c2.2*(q.2*r.gain.2))]):=ad
    generalize upd H6 v (.tup [.int (c2.1*(q.2*r.gain.2)+q.1*r.gain.1*c2.2),.int (c2.2*(q.2*r.gain.2))])=H7 at s7 hvv ⊢
    have s57:=s6.trans s7
    have hp7:=s57 _ _ hp5
    refine ⟨_,rfl,_,rfl,p,_,_,r.go,rfl,rfl,hp7,ixN_nat (by rw [List.length_set,lts];exact okr.go),?_⟩
    have k8:KeepO H7 (upd H7 p (.lst ((ts.set r.st (.ref t)).set r.go (.ref v)))):=.lst hp7
    refine ⟨hi,_,_,_,_,_,_,_,_,_,rfl,aP np (s5.trans s57),ad,RowAt.set (hv5.mono fun v x z=>(z.mono s57).ko k8) _ (DueIs.ko (c:=(c2.1*(q.2*r.gain.2)+q.1*r.gain.1*c2.2,c2.2*(q.2*r.gain.2))) ⟨v,rfl,hvv⟩ k8),by rw [List.length_set,List.length_set,lc],fun k c hc=>?_⟩
    rw [tk]
    by_cases k1:r.go=k
    ·subst k1
     rw [List.getElem?_set_self (by rw [List.length_set];exact lgo)] at hc
     cases hc
     refine S2.step m2 m3 m4 ?_
     unfold rowS
     rw [ho]
     show _=if r.go=r.go then _ else _
     rw [if_pos rfl,Rat.divInt_mul_divInt]
    ·rw [List.getElem?_set_ne k1] at hc
     by_cases k2:r.st=k
     ·subst k2
      rw [List.getElem?_set_self lst] at hc
      cases hc
      refine S1.step m1 (show q.2.natAbs≤2 ^ 7 by omega) q2 ?_
      unfold rowS
      rw [ho]
      show _=if r.st=r.go then _ else if r.st=r.st then _ else _
      rw [if_neg okr.ne,if_pos rfl,Int.zero_sub,Rat.neg_divInt]
     ·rw [List.getElem?_set_ne k2] at hc
      refine (hs k c hc).skip ?_
      unfold rowS
      rw [ho]
      show (if k=r.go then _ else if k=r.st then _ else _)=_
      rw [if_neg (Ne.symm k1),if_neg (Ne.symm k2)]
  ·rintro σ H2 ⟨_,ts,cs,z3,z4,z5,z6,z7,z8,z9,rfl,s2,hp2,hv2,lc,hs⟩
   rw [hr7.1,List.take_length] at hs
   refine ⟨_,rfl,k p H2 ts cs np s2 hp2 hv2 lc fun k c hc=>?_⟩
   have S:=hs k c hc
   exact ⟨Nat.le_trans S.b1 (aV (by omega)),Nat.le_trans S.b2 (aV (by omega)),S.b3,S.eq⟩
def entO (x:Str):Option (Int × Int)→List Ent
 | none=>[]
 | some c=>[(x,c)]
theorem entL_snoc {wn:List Str} {os:List (Option (Int × Int))} {x:Str} {o:Option (Int × Int)} (h:wn.length=os.length):fj (wn++[x]) (os++[o])=fj wn os++entO x o:=by
 unfold fj
 rw [List.zip_append h,List.filterMap_append]
 congr 1
 cases o <;> rfl
theorem entL_mem {wn:List Str} {os:List (Option (Int × Int))} {e:Ent} (h:e∈fj wn os):e.1∈wn∧some e.2∈os:=by
 obtain ⟨z,hz,ez⟩:=List.mem_filterMap.mp h
 obtain ⟨z1,z2⟩:=z
 obtain ⟨h1,h2⟩:=List.of_mem_zip hz
 cases z2 with
 | none=>cases ez
 | some c=>
  have ez:(z1,c)=e:=Option.some.inj ez
  rw [← ez]
  exact ⟨h1,h2⟩
theorem entL_nd:∀ {wn:List Str} {os:List (Option (Int × Int))},wn.Nodup→((fj wn os).map (·.1)).Nodup
 | [],_,_=>List.nodup_nil
 | _::_,[],_=>List.nodup_nil
 | x::wn,o::os,nd=>by
  obtain ⟨h1,h2⟩:=List.nodup_cons.mp nd
  have ih:=entL_nd (os:=os) h2
  cases o with
  | none=>exact ih
  | some c=>
   show (x::(fj wn os).map (·.1)).Nodup
   refine List.nodup_cons.mpr ⟨fun m=>h1 ?_,ih⟩
   obtain ⟨e,he,rfl⟩:=List.mem_map.mp m
   exact (entL_mem he).1
theorem entL_len (wn:List Str) (os:List (Option (Int × Int))):(fj wn os).length≤wn.length:=by
 unfold fj
 refine Nat.le_trans (List.length_filterMap_le _ _) ?_
 rw [List.length_zip]
 omega
theorem turn_nd {α:Type} {xs:List α} (k:Nat) (h:xs.Nodup):(xs.drop k++xs.take k).Nodup:=by
 rw [← List.take_append_drop k xs] at h
 obtain ⟨h1,h2,h3⟩:=List.nodup_append.mp h
 exact List.nodup_append.mpr ⟨h2,h1,fun a ha b hb e=>h3 b hb a ha e.symm⟩
theorem turn_mem {α:Type} {xs:List α} (k:Nat) (x:α):x∈xs.drop k++xs.take k↔x∈xs:=by
 conv=>rhs;rw [← List.take_append_drop k xs]
 rw [List.mem_append,List.mem_append,Or.comm]
theorem RowAt.app {α:Type} {R:Hp→V→α→Prop} {H:Hp} {ts us:List V} {xs ys:List α} (h1:RowAt R H ts xs) (h2:RowAt R H us ys):RowAt R H (ts++us) (xs++ys):=by
 refine ⟨by rw [List.length_append,List.length_append,h1.1,h2.1],fun i t x ht hx=>?_⟩
 by_cases h:i<ts.length
 ·rw [List.getElem?_append_left h] at ht
  rw [List.getElem?_append_left (by rw [← h1.1];exact h)] at hx
  exact h1.2 i t x ht hx
 ·rw [List.getElem?_append_right (by omega)] at ht
  rw [List.getElem?_append_right (by rw [← h1.1];omega),← h1.1] at hx
  exact h2.2 _ t x ht hx
theorem RowAt.tk {α:Type} {R:Hp→V→α→Prop} {H:Hp} {ts:List V} {xs:List α} (h:RowAt R H ts xs) (k:Nat):RowAt R H (ts.take k) (xs.take k):=by
 refine ⟨by rw [List.length_take,List.length_take,h.1],fun i t x ht hx=>?_⟩
 rw [List.getElem?_take] at ht hx
 split at ht
 ·rename_i hi
  rw [if_pos hi] at hx
  exact h.2 i t x ht hx
 ·cases ht
theorem RowAt.dp {α:Type} {R:Hp→V→α→Prop} {H:Hp} {ts:List V} {xs:List α} (h:RowAt R H ts xs) (k:Nat):RowAt R H (ts.drop k) (xs.drop k):=by
 refine ⟨by rw [List.length_drop,List.length_drop,h.1],fun i t x ht hx=>?_⟩
 rw [List.getElem?_drop] at ht hx
 exact h.2 _ t x ht hx
theorem hX {xs:List V} (j:Nat):dQ xs none (some (j:Int))=xs.take j:=by
 unfold dQ
 rw [HT.sIx_none,HT.sIx_nat,List.drop_zero,Nat.sub_zero]
 by_cases h:j≤xs.length
 ·rw [Nat.min_eq_left h]
 ·rw [Nat.min_eq_right (by omega),List.take_length,List.take_of_length_le (by omega)]
theorem cut_drop {xs:List V} (i:Nat):dQ xs (some (i:Int)) none=xs.drop i:=by
 unfold dQ
 rw [HT.sIx_nat,HT.sIx_none]
 by_cases h:i≤xs.length
 ·rw [Nat.min_eq_left h,List.take_of_length_le (by rw [List.length_drop];omega)]
 ·rw [Nat.min_eq_right (by omega),List.drop_of_length_le (Nat.le_refl _),List.take_nil,List.drop_of_length_le (by omega)]
theorem ent_mem {wn:List Str} {os:List (Option (Int × Int))} {n:Str} {c:Int × Int}:(n,c)∈fj wn os↔∃ i:Nat,wn[i]?=some n∧os[i]?=some (some c):=by
 unfold fj
 rw [List.mem_filterMap]
 constructor
 ·rintro ⟨⟨z1,z2⟩,hz,ez⟩
  obtain ⟨i,hi⟩:=List.mem_iff_getElem?.mp hz
  rw [List.getElem?_zip_eq_some] at hi
  cases z2 with
  | none=>cases ez
  | some d=>
   have ez:(z1,d)=(n,c):=Option.some.inj ez
   cases ez
   exact ⟨i,hi⟩
 ·rintro ⟨i,h1,h2⟩
  exact ⟨(n,some c),List.mem_of_getElem? (i:=i) (by rw [List.getElem?_zip_eq_some];exact ⟨h1,h2⟩),rfl⟩
structure EntsP (wn:List Str) (os:List (Option (Int × Int))) (bad:List Str) (es:List Ent):Prop where
 nd:(es.map (·.1)).Nodup
 own:∀ e,e.1∈wn→(e∈es↔e∈fj wn os)
 in_:∀ e∈es,e.1∈wn∨e.1∈bad
 len:es.length≤24+bad.length
 pb:∀ e∈es,PB e.2
theorem EntsP.put {wn:List Str} {os:List (Option (Int × Int))} {bad:List Str} {es:List Ent} (h:EntsP wn os bad es) {b:Str} {c:Int × Int} (j:Nat) (h1:¬ b∈wn) (h2:¬ b∈bad) (pc:PB c):EntsP wn os (bad++[b]) (es.take j++[(b,c)]++es.drop j):=by
 have mem:∀ e,e∈es.take j++[(b,c)]++es.drop j↔e∈es∨e=(b,c):=fun e=>by
  rw [List.mem_append,List.mem_append,List.mem_singleton]
  conv=>rhs;rw [← List.take_append_drop j es,List.mem_append]
  constructor
  ·rintro ((x | x) | x)
   ·exact .inl (.inl x)
   ·exact .inr x
   ·exact .inl (.inr x)
  ·rintro ((x | x) | x)
   ·exact .inl (.inl x)
   ·exact .inr x
   ·exact .inl (.inr x)
 have nb:¬ b∈es.map (·.1):=fun z=>by
  obtain ⟨e,he,rfl⟩:=List.mem_map.mp z
  exact (h.in_ e he).elim h1 h2
 refine ⟨?_,fun e he=>?_,fun e he=>?_,?_,fun e he=>?_⟩
 ·have nd:=h.nd
  rw [← List.take_append_drop j es,List.map_append] at nd
  obtain ⟨n1,n2,n3⟩:=List.nodup_append.mp nd
  rw [List.map_append,List.map_append,List.map_cons,List.map_nil]
  show ((es.take j).map (·.1)++[b]++(es.drop j).map (·.1)).Nodup
  have t1:¬ b∈(es.take j).map (·.1):=fun z=>nb (by
   obtain ⟨e,he,ee⟩:=List.mem_map.mp z
   exact List.mem_map.mpr ⟨e,List.mem_of_mem_take he,ee⟩)
  have t2:¬ b∈(es.drop j).map (·.1):=fun z=>nb (by
   obtain ⟨e,he,ee⟩:=List.mem_map.mp z
   exact List.mem_map.mpr ⟨e,List.mem_of_mem_drop he,ee⟩)
  refine List.nodup_append.mpr ⟨List.nodup_append.mpr ⟨n1,by simp,fun x hx y hy e=>t1 (by rw [← List.mem_singleton.mp hy,← e];exact hx)⟩,n2,fun x hx y hy e=>?_⟩
  rcases List.mem_append.mp hx with z | z
  ·exact n3 x z y hy e
  ·exact t2 (by rw [← List.mem_singleton.mp z,e];exact hy)
 ·rw [mem e]
  constructor
  ·rintro (x | x)
   ·exact (h.own e he).mp x
   ·exact absurd (by rw [x] at he;exact he) h1
  ·exact fun x=>.inl ((h.own e he).mpr x)
 ·rcases (mem e).mp he with x | rfl
  ·exact (h.in_ e x).imp id fun z=>List.mem_append_left _ z
  ·exact .inr (List.mem_append_right _ (by simp))
 ·have:=h.len
  rw [List.length_append,List.length_append,List.length_take,List.length_drop,List.length_append,List.length_singleton,List.length_singleton]
  omega
 ·rcases (mem e).mp he with x | rfl
  ·exact h.pb e x
  ·exact pc
inductive IspEnt13 (K:PySem.W.Frag) (vs:List V) (H:Hp) (Q:VK):Prop
 | mk (lr lw lb:Addr) (c:Int) (ts:List V) (rs:List R7) (wn bad:List Str) (h1:vs=[.ref lr,.ref lw,.ref lb,.int c]) (h2:SqL K H lr ts) (h3:RowAt R7Is H ts rs) (h4:SqL K H lw (wn.map V.str)) (h5:SqL K H lb (bad.map V.str)) (h6:rs.length=wn.length) (h7:wn.length≤24) (h8:wn.Nodup) (h9:bad.Nodup) (h10:bad.length≤2) (h11:(∀ b∈bad,¬ b∈wn)) (h12:(∀ z,some z∈rs.map (·.put)→PB z)) (h13:∀ r H' us es,H r=none→Same H H'→H' r=some (.lst us)→RowAt EntIs H' us es→EntsP wn (rs.map (·.put)) bad es→Q (.ref r) H'):IspEnt13 K vs H Q
def spEnt13 (K:PySem.W.Frag):Sp:=fun vs H Q _=>IspEnt13 K vs H Q
theorem ok_law_entries (T:TX K mg a):FnB P w K mg base CX0 "_law_entries" 1 ["_law_rows","_law_ways","_law_strange","_law_cell"] (spEnt13 K):=by
 refine T.d_law_entries.ok sc_law_entries (fun vs H Q E h=>?_) (fun f cdv A outer s H vs Q E hr h=>?_)
 ·obtain ⟨_,_,_,_,_,_,_,_,rfl,_⟩:=h
  rfl
 ·obtain ⟨lr,lw,lb,c,ts,rs,wn,bad,rfl,hR,hr7,hW,hB,lo,l24,wnd,bnd,b2,bno,pb,k⟩:=h
  have lts:ts.length=wn.length:=by rw [hr7.1,lo]
  generalize eos:rs.map (·.put)=os at pb k
  have los:os.length=wn.length:=by rw [← eos,List.length_map,lo]
  refine ⟨_,(aN (d5 (i:=4) (xs:=["_law_k"]) (rest:=["_law_rows","_law_ways"]) sc_law_entries.nd rfl rfl rfl (bo rfl T.z_range (aa (am a0 (by rfl) T.z_len PySem.boot_len (aa (pv 0) ac)) ac))
   (fun pins fp C' s' H'=>(aA (i:=0) (show (["_law_k","_law_rows","_law_ways"]:List Str).Nodup by decide +kernel) rfl (Or.inl rfl))) (fun pins fp C' s' H'=>(pts_one (ax cF (au (r:=rIxT K) aB (au (r:=rIxL K) ay (pv 1) (pv 0) (fun _ _=>rfl)) af (fun _ _=>rfl)) br (aD _))))
   (fun pins fp C' s' H'=>(aR (aa (au (r:=rIxL K) ay (pv 2) (pv 0) (fun _ _=>rfl)) (aa (au (r:=rIxT K) aB (au (r:=rIxL K) ay (pv 1) (pv 0) (fun _ _=>rfl)) af (fun _ _=>rfl)) ac))))
   (Clos.many (ys:=["_law_ways","_law_rows"]) rfl ⟨rfl,rfl,True.intro⟩ rfl (by decide +kernel)) (Reads.many (ys:=["_law_rows","_law_ways"]) (js:=[0,1]) ⟨⟨rfl,rfl,rfl⟩,⟨rfl,rfl,rfl⟩,True.intro⟩))
   (ae (ar (i:=5) sc_law_entries.nd rfl (Or.inl rfl) (ao aW (pv 3) (am (call_max2 rfl) (by rfl) T.z_max PyProof.Rows.boot_max (aa af (aa (am a0 (by rfl) T.z_len PySem.boot_len (aa (pv 4) ac)) ac)))))
   (aN (ar (i:=4) sc_law_entries.nd rfl (Or.inl rfl) (ao op_cat (fK gP (pv 4) (gU (pv 5)) gW) (fK gP (pv 4) gW (gU (pv 5)))))
   (ae (bu PassesOwn.never rfl (bH (pv 2)) (aA (i:=6) sc_law_entries.nd rfl (Or.inl rfl)) (ae (ar (i:=7) sc_law_entries.nd rfl (Or.inl rfl) (ao aW (ao bp (pv 3) af) (ao bY (am a0 (by rfl) T.z_len PySem.boot_len (aa (pv 4) ac)) af)))
   (ae (ar (i:=4) sc_law_entries.nd rfl (Or.inl rfl) (ao op_cat (ao op_cat (fK gP (pv 4) gW (gU (pv 7))) (cB (aa (aR (aa (pv 6) (aa (aR (aa (ao fL (ao aW (pv 3) af) af) (aa af ac))) ac))) ac))) (fK gP (pv 4) (gU (pv 7)) gW)))
   (ai (ar (i:=3) sc_law_entries.nd rfl (Or.inl rfl) (ao bp (pv 3) af))))))
   (ai (aw (pv 4))))))),?_⟩
  try dsimp only [aS,Cx.nox,Cx.wish]
  refine ⟨fun σ' H'=>∃ (r:Addr) (us:List V),σ'=[some (.ref lr),some (.ref lw),some (.ref lb),some (.int c),some (.ref r),none,none,none]∧H r=none∧Same H H'∧H' r=some (.lst us)∧RowAt EntIs H' us (fj wn os),?_,?_⟩
  ·refine ⟨_,rfl,lr,_,rfl,.inl hR,_,rfl,by omega,by omega,fun r nr=>?_⟩
   have lnt:((ts.length:Nat):Int).toNat=wn.length:=by rw [lts];rfl
   refine cv (n:=((ts.length:Nat):Int).toNat) (fun i H2=>i≤wn.length∧Same H H2∧∃ us,H2 r=some (.lst us)∧RowAt EntIs H2 us (fj (wn.take i) (os.take i))) ⟨Nat.zero_le _,aj nr,[],ad,RowAt.nil⟩ ?_ ?_
   ·rintro i H2 hi ⟨_,s2,us,h2,hv⟩
    have hi':i<wn.length:=by rw [← lnt];exact hi
    have ew:wn[i]?=some wn[i]:=List.getElem?_eq_getElem hi'
    have er:rs[i]?=some (rs[i]'(by omega)):=List.getElem?_eq_getElem (by omega)
    generalize wn[i]=x at ew
    generalize rs[i]'(by omega)=r7 at er
    have eo:os[i]?=some r7.put:=by rw [← eos,List.getElem?_map,er];rfl
    obtain ⟨tv,etv,htv⟩:=hr7.get' er
    obtain ⟨p7,vg,vp,vh,vc,rfl,hp7,_,hpt,_,_⟩:=htv.mono s2
    have a1:atI ts (0+(i:Int))=some (.ref p7):=by rw [Int.zero_add];exact atI_nat etv
    have a2:atI (wn.map V.str) (0+(i:Int))=some (.str x):=by rw [Int.zero_add];exact eJ ew
    have tk:fj (wn.take (i+1)) (os.take (i+1))=fj (wn.take i) (os.take i)++entO x r7.put:=by
     rw [List.take_add_one,List.take_add_one,ew,eo,Option.toList_some,Option.toList_some]
     exact entL_snoc (by rw [List.length_take,List.length_take];omega)
    generalize r7.put=o at hpt tk
    refine g1 ⟨⟨[_],rfl,rfl⟩,?_⟩
    refine ⟨_,rfl,_,rfl,lr,_,_,_,rfl,rfl,s2.seq hR,a1,p7,_,_,_,rfl,rfl,SqT.of hp7,rfl,rfl,_,rfl,?_⟩
    cases o with
    | none=>
     obtain rfl:vp=.non:=hpt
     refine iteF ?_
     refine c7 hi ⟨hi',s2,us,h2,?_⟩
     rw [tk]
     show RowAt EntIs H2 us (fj (wn.take i) (os.take i)++[])
     rw [List.append_nil]
     exact hv
    | some z=>
     obtain ⟨p,rfl,hz⟩:=hpt
     refine iteT ?_
     refine ⟨_,rfl,_,rfl,lw,_,_,_,rfl,rfl,s2.seq hW,a2,_,rfl,_,rfl,lr,_,_,_,rfl,rfl,s2.seq hR,a1,p7,_,_,_,rfl,rfl,SqT.of hp7,rfl,by show 2≤sizeLine;decide,fun t nt=>?_⟩
     have s3:=aj (o:=.tup [.str x,.ref p]) nt
     have ht:upd H2 t (.tup [.str x,.ref p]) t=some (.tup [.str x,.ref p]):=ad
     generalize upd H2 t (.tup [.str x,.ref p])=H3 at s3 ht ⊢
     have h3:=s3 _ _ h2
     have lus:us.length≤24:=by
      rw [hv.1]
      have:=entL_len (wn.take i) (os.take i)
      rw [List.length_take] at this
      omega
     refine ⟨_,h3,aL (by omega),c7 hi ⟨hi',aP nr (s2.trans s3),_,ad,?_⟩⟩
     rw [tk]
     exact RowAt.snoc (hv.mono fun v x z=>(z.mono s3).ko (.lst h3)) (EntIs.ko ⟨t,.ref p,rfl,ht,⟨p,rfl,s3 _ _ hz⟩⟩ (.lst h3))
   ·rintro H2 ⟨_,s2,us,h2,hv⟩
    rw [lnt,List.take_length,List.take_of_length_le (show os.length≤wn.length by omega)] at hv
    exact ⟨r,us,rfl,nr,s2,h2,hv⟩
  rintro σ' H1 ⟨r,us,rfl,nr,s1,h1,hv⟩
  have lE:=entL_len wn os
  have lus:us.length≤24:=by rw [hv.1];omega
  have mp:(0:Int)<(if (us.length:Int) > 1 then (us.length:Int) else 1):=by split <;> omega
  refine ⟨_,rfl,_,rfl,r,_,rfl,.inl (SqL.of h1),_,_,rfl,_,_,rfl,rfl,mp,?_⟩
  obtain ⟨e0,e1⟩:=bq c mp
  obtain ⟨j,hj⟩:=Int.eq_ofNat_of_zero_le e0
  refine ⟨fun σ' H'=>∃ (r:Addr) (us:List V) (es:List Ent) (cut:Int),σ'=[some (.ref lr),some (.ref lw),some (.ref lb),some (.int c),some (.ref r),some (.int cut),none,none]∧H r=none∧Same H H'∧H' r=some (.lst us)∧RowAt EntIs H' us es∧EntsP wn os [] es,?_,?_⟩
  ·refine ⟨_,rfl,_,rfl,_,rfl,r,_,rfl,SqL.of h1,fun p np=>?_⟩
   have s2:=aj (o:=.lst (dQ us (some (c % (if (us.length:Int) > 1 then (us.length:Int) else 1))) none)) np
   have hp2:upd H1 p (.lst (dQ us (some (c % (if (us.length:Int) > 1 then (us.length:Int) else 1))) none)) p=some (.lst (us.drop j)):=by rw [ad,hj];exact congrArg (fun z=>some (HO.lst z)) (cut_drop j)
   generalize upd H1 p (.lst (dQ us (some (c % (if (us.length:Int) > 1 then (us.length:Int) else 1))) none))=H2 at s2 hp2 ⊢
   have h2:=s2 _ _ h1
   refine ⟨_,rfl,_,rfl,_,rfl,r,_,rfl,SqL.of h2,fun q nq=>?_⟩
   have s3:=aj (o:=.lst (dQ us none (some (c % (if (us.length:Int) > 1 then (us.length:Int) else 1))))) nq
   have hq3:upd H2 q (.lst (dQ us none (some (c % (if (us.length:Int) > 1 then (us.length:Int) else 1))))) q=some (.lst (us.take j)):=by rw [ad,hj];exact congrArg (fun z=>some (HO.lst z)) (hX j)
   generalize upd H2 q (.lst (dQ us none (some (c % (if (us.length:Int) > 1 then (us.length:Int) else 1)))))=H3 at s3 hq3 ⊢
   have s13:=s2.trans s3
   refine ⟨p,q,_,_,rfl,rfl,s3 _ _ hp2,hq3,Nat.le_trans (show _≤1000 by rw [List.length_drop,List.length_take];omega) (Nat.le_of_lt (aL (Nat.le_refl 1000))),fun z nz=>?_⟩
   have s4:=s13.trans (aj (o:=.lst (us.drop j++us.take j)) nz)
   refine ⟨z,_,(fj wn os).drop j++(fj wn os).take j,_,rfl,s1.free (s13.free nz),s1.trans s4,ad,((hv.dp j).app (hv.tk j)).mono fun v x y=>y.mono s4,⟨?_,fun e _=>turn_mem j e,fun e he=>.inl (entL_mem ((turn_mem j e).mp he)).1,by rw [List.length_append,List.length_drop,List.length_take];omega,fun e he=>pb e.2 (entL_mem ((turn_mem j e).mp he)).2⟩⟩
   rw [List.map_append,List.map_drop,List.map_take]
   exact turn_nd j (entL_nd wnd)
  rintro σ' H4 ⟨r4,us4,es4,cut,rfl,nr4,s4,h4,hv4,ep4⟩
  refine ⟨_,rfl,lb,rfl,⟨_,s4.seq hB⟩,bO (K:=K) (a:=lb) (xs:=bad.map V.str) (fun i σ H2=>i≤bad.length∧∃ (r:Addr) (us:List V) (es:List Ent) (c':Int) (z6 z7:Option V),σ=[some (.ref lr),some (.ref lw),some (.ref lb),some (.int c'),some (.ref r),some (.int cut),z6,z7]∧H r=none∧Same H H2∧H2 r=some (.lst us)∧RowAt EntIs H2 us es∧EntsP wn os (bad.take i) es) ⟨Nat.zero_le _,r4,us4,es4,c,_,_,rfl,nr4,s4,h4,hv4,ep4⟩ (fun i σ H2 _ ⟨_,_,_,_,_,_,_,_,_,s2,_⟩=>s2.seq hB) ?_ ?_⟩
  ·rintro i x σ H5 hx ⟨_,r5,us5,es5,c',z6,z7,rfl,nr5,s5,h5,hv5,ep5⟩
   rw [List.getElem?_map] at hx
   cases ey:bad[i]? with
   | none=>rw [ey] at hx;cases hx
   | some y=>
    rw [ey] at hx
    cases hx
    have hi:=(List.getElem?_eq_some_iff.mp ey).1
    obtain ⟨tkb,nkb⟩:=eL bnd ey
    have l5:=ep5.len
    rw [List.length_take] at l5
    have lu5:us5.length≤26:=by rw [hv5.1];omega
    have pos:(0:Int)<(us5.length:Int)+1:=by omega
    refine ⟨_,rfl,_,_,rfl,rfl,⟨by decide,by decide⟩,_,rfl,r5,_,rfl,.inl (SqL.of h5),_,_,rfl,rfl,_,_,rfl,rfl,pos,?_⟩
    obtain ⟨e0,e1⟩:=bq (c' / 7) pos
    obtain ⟨j,hj⟩:=Int.eq_ofNat_of_zero_le e0
    refine ⟨_,rfl,_,rfl,_,rfl,r5,_,rfl,SqL.of h5,fun p np=>?_⟩
    have s6:=aj (o:=.lst (dQ us5 none (some (c' / 7 % ((us5.length:Int)+1))))) np
    have hp6:upd H5 p (.lst (dQ us5 none (some (c' / 7 % ((us5.length:Int)+1))))) p=some (.lst (us5.take j)):=by rw [ad,hj];exact congrArg (fun z=>some (HO.lst z)) (hX j)
    generalize upd H5 p (.lst (dQ us5 none (some (c' / 7 % ((us5.length:Int)+1)))))=H6 at s6 hp6 ⊢
    have h6:=s6 _ _ h5
    refine ⟨_,rfl,_,rfl,_,_,rfl,rfl,by show (0:Int)<5;decide,_,_,rfl,rfl,by show 2≤sizeLine;decide,fun t1 nt1=>?_⟩
    have s7:=aj (o:=.tup [.int (c' % 5-1),.int 1]) nt1
    have ht1:upd H6 t1 (.tup [.int (c' % 5-1),.int 1]) t1=some (.tup [.int (c' % 5-1),.int 1]):=ad
    generalize upd H6 t1 (.tup [.int (c' % 5-1),.int 1])=H7 at s7 ht1 ⊢
    refine ⟨by show 2≤sizeLine;decide,fun t2 nt2=>?_⟩
    have s8:=aj (o:=.tup [.str y,.ref t1]) nt2
    have ht2:upd H7 t2 (.tup [.str y,.ref t1]) t2=some (.tup [.str y,.ref t1]):=ad
    generalize upd H7 t2 (.tup [.str y,.ref t1])=H8 at s8 ht2 ⊢
    refine ⟨by show 1≤sizeLine;decide,fun l1 nl1=>?_⟩
    have s9:=aj (o:=.lst [.ref t2]) nl1
    have hl1:upd H8 l1 (.lst [.ref t2]) l1=some (.lst [.ref t2]):=ad
    generalize upd H8 l1 (.lst [.ref t2])=H9 at s9 hl1 ⊢
    have s79:=s7.trans (s8.trans s9)
    refine ⟨p,l1,_,_,rfl,rfl,s79 _ _ hp6,hl1,Nat.le_trans (show _≤1000 by rw [List.length_take,List.length_singleton];omega) (Nat.le_of_lt (aL (Nat.le_refl 1000))),fun l2 nl2=>?_⟩
    have s10:=aj (o:=.lst (us5.take j++[.ref t2])) nl2
    have hl2:upd H9 l2 (.lst (us5.take j++[.ref t2])) l2=some (.lst (us5.take j++[.ref t2])):=ad
    generalize upd H9 l2 (.lst (us5.take j++[.ref t2]))=H10 at s10 hl2 ⊢
    have s610:=s79.trans s10
    have h10:=s610 _ _ h6
    refine ⟨_,rfl,_,rfl,_,rfl,r5,_,rfl,SqL.of h10,fun q nq=>?_⟩
    have s11:=aj (o:=.lst (dQ us5 (some (c' / 7 % ((us5.length:Int)+1))) none)) nq
    have hq11:upd H10 q (.lst (dQ us5 (some (c' / 7 % ((us5.length:Int)+1))) none)) q=some (.lst (us5.drop j)):=by rw [ad,hj];exact congrArg (fun z=>some (HO.lst z)) (cut_drop j)
    generalize upd H10 q (.lst (dQ us5 (some (c' / 7 % ((us5.length:Int)+1))) none))=H11 at s11 hq11 ⊢
    refine ⟨l2,q,_,_,rfl,rfl,s11 _ _ hl2,hq11,Nat.le_trans (show _≤1000 by rw [List.length_append,List.length_take,List.length_drop,List.length_singleton];omega) (Nat.le_of_lt (aL (Nat.le_refl 1000))),fun z nz=>?_⟩
    have s12:=aj (o:=.lst (us5.take j++[.ref t2]++us5.drop j)) nz
    have s512:Same H5 (upd H11 z (.lst (us5.take j++[.ref t2]++us5.drop j))):=s6.trans (s610.trans (s11.trans s12))
    have s812:=(s9.trans (s10.trans (s11.trans s12)))
    have s712:=s8.trans s812
    have hz12:upd H11 z (.lst (us5.take j++[.ref t2]++us5.drop j)) z=some (.lst (us5.take j++[.ref t2]++us5.drop j)):=ad
    have nz5:H r5=none:=nr5
    have nzH:H z=none:=(s5.trans (s6.trans (s610.trans s11))).free nz
    generalize upd H11 z (.lst (us5.take j++[.ref t2]++us5.drop j))=H12 at s512 s812 s712 hz12 ⊢
    have ht2':=s812 _ _ ht2
    have ht1':=s712 _ _ ht1
    obtain ⟨d0,d1⟩:=bq c' (show (0:Int)<5 by decide)
    refine ⟨_,rfl,_,_,rfl,rfl,⟨by decide,by decide⟩,hi,z,us5.take j++[.ref t2]++us5.drop j,es5.take j++[(y,(c' % 5-1,1))]++es5.drop j,c' / 3,_,_,rfl,nzH,s5.trans s512,hz12,?_,?_⟩
    ·exact (((hv5.tk j).mono fun v x w=>w.mono s512).app (RowAt.snoc RowAt.nil (EntIs.mono ⟨t2,.ref t1,rfl,ht2',⟨t1,rfl,ht1'⟩⟩ (Same.refl _)))).app ((hv5.dp j).mono fun v x w=>w.mono s512)
    ·rw [tkb]
     exact ep5.put (c:=(c' % 5-1,1)) j (bno y (List.mem_of_getElem? ey)) nkb ⟨Nat.le_trans (show (c' % 5-1).natAbs≤10 by omega) (by decide),by show (1:Int)≤1;decide,by show (1:Int)≤6;decide⟩
  ·rintro σ H5 ⟨_,r5,us5,es5,c',z6,z7,rfl,nr5,s5,h5,hv5,ep5⟩
   rw [List.length_map,List.take_length] at ep5
   exact ⟨_,rfl,k r5 H5 us5 es5 nr5 s5 h5 hv5 ep5⟩
def eu (r:R7):Option (Int × Int):=match r.put with
 | none=>none
 | some c=>if c.1<0 then some (0,1) else match r.hi with
  | none=>none
  | some h=>if h.1*c.2<c.1*h.2 then some h else none
structure WB (c:Int × Int):Prop where
 b1:c.1.natAbs≤2 ^ 420
 b2:1≤c.2
 b3:c.2.natAbs≤2 ^ 420
theorem WB.sm {c:Int × Int} (h:WB c):Sm c.1∧Sm c.2:=⟨Sm.of_le h.b1 (by decide),Sm.of_le h.b3 (by decide)⟩
theorem fe (x:Str):∀ ts:List Str,inV (.str x) (ts.map V.str)=decide (x∈ts)
 | []=>rfl
 | t::ts=>by
  have ih:=fe x ts
  unfold inV at ih ⊢
  rw [List.map_cons,List.any_cons,ih,eqV_str,Bool.eq_iff_iff]
  rw [Bool.or_eq_true,decide_eq_true_iff,decide_eq_true_iff,decide_eq_true_iff,List.mem_cons]
  exact ⟨fun h=>h.imp Eq.symm id,fun h=>h.imp Eq.symm id⟩
def spOver (K:PySem.W.Frag):Sp:=fun vs H Q _=>∃ (v:V) (r:R7) (n:Nat),vs=[v]∧R7Is H v r∧R7Ok n r∧∀ v' H',Same H H'→OptIs H' v' (eu r)→Q v' H'
theorem ok_law_over (T:TX K mg a):FnB P w K mg base CX0 "_law_over" 1 ["_law_row_here"] (spOver K):=by
 refine T.d_law_over.ok sc_law_over (fun vs H Q E h=>?_) (fun f cdv A outer s H vs Q E hr h=>?_)
 ·obtain ⟨_,_,_,rfl,_⟩:=h
  rfl
 ·obtain ⟨v,r,n,rfl,⟨p,vg,vp,vh,vc,rfl,hp,_,hpt,hhi,_⟩,ok,k⟩:=h
  refine ⟨_,(ae (ar (i:=1) sc_law_over.nd rfl (Or.inl rfl) (au aB (pv 0) af (fun _ _=>rfl)))
   (ae (ar (i:=2) sc_law_over.nd rfl (Or.inl rfl) (au aB (pv 0) af (fun _ _=>rfl)))
   (ae (aC (ax op_isN (pv 1) br (aD _)) (ai (aw br)) al)
   (ae (aC (ax dG (au aB (pv 1) af (fun _ _=>rfl)) af (aD _)) (ai (aw (aR (aa af (aa af ac))))) al)
   (ae (aC (PW.pt (gt (ax cF (pv 2) br (aD _)) (fV (ax dG (ao a6 (au aB (pv 2) af (fun _ _=>rfl)) (au aB (pv 1) af (fun _ _=>rfl))) (ao a6 (au aB (pv 1) af (fun _ _=>rfl)) (au aB (pv 2) af (fun _ _=>rfl))) (aD _))))) (ai (aw (pv 2))) al)
   (ai (aw br))))))),?_⟩
  try dsimp only [aS,Cx.nox,Cx.wish]
  have sq:=SqT.of (K:=K) hp
  refine ⟨_,rfl,p,_,_,_,rfl,rfl,sq,rfl,_,rfl,p,_,_,_,rfl,rfl,sq,rfl,?_⟩
  unfold eu at k
  cases ho:r.put with
  | none=>
   rw [ho] at hpt k
   obtain rfl:vp=.non:=hpt
   exact ⟨_,rfl,rfl,_,rfl,iteT (k _ _ (Same.refl _) rfl)⟩
  | some c=>
   rw [ho] at hpt k
   obtain ⟨pq,rfl,hq⟩:=hpt
   obtain ⟨q1,q2,q3⟩:=ok.pt c ho
   refine ⟨_,rfl,rfl,_,rfl,iteF ?_⟩
   refine ⟨_,rfl,pq,_,_,_,rfl,rfl,SqT.of hq,rfl,_,_,rfl,rfl,_,rfl,ifB (fun h1=>?_) (fun h1=>?_)⟩
   ·refine ⟨by show 2≤sizeLine;decide,fun t nt=>?_⟩
    have k:∀ v' H',Same H H'→OptIs H' v' (if c.1<0 then some (0,1) else _)→Q v' H':=k
    rw [if_pos h1] at k
    exact k _ _ (aj nt) ⟨t,rfl,ad⟩
   ·have k:∀ v' H',Same H H'→OptIs H' v' (if c.1<0 then some (0,1) else match r.hi with | none=>none | some h=>if h.1*c.2<c.1*h.2 then some h else none)→Q v' H':=k
    rw [if_neg h1] at k
    cases eh:r.hi with
    | none=>
     rw [eh] at hhi k
     obtain rfl:vh=.non:=hhi
     exact ⟨_,rfl,rfl,_,rfl,iteF (k _ _ (Same.refl _) rfl)⟩
    | some hv=>
     rw [eh] at hhi k
     obtain ⟨ph,rfl,hph⟩:=hhi
     obtain ⟨h0,hb1,hb2,hb3⟩:=ok.hi hv eh
     have k:∀ v' H',Same H H'→OptIs H' v' (if hv.1*c.2<c.1*hv.2 then some hv else none)→Q v' H':=k
     refine ⟨_,rfl,rfl,_,rfl,iteT ?_⟩
     refine ⟨_,rfl,ph,_,_,_,rfl,rfl,SqT.of hph,rfl,_,rfl,pq,_,_,_,rfl,rfl,SqT.of hq,rfl,_,_,rfl,rfl,?m1,_,rfl,pq,_,_,_,rfl,rfl,SqT.of hq,rfl,_,rfl,ph,_,_,_,rfl,rfl,SqT.of hph,rfl,_,_,rfl,rfl,?m2,_,_,rfl,rfl,_,rfl,ifB (fun h2=>?_) (fun h2=>?_)⟩
     case m1=>exact ⟨Sm.of_le hb1 (by decide),Sm.of_le (n:=10) (by omega) (by decide)⟩
     case m2=>exact ⟨Sm.of_le q1 (by decide),Sm.of_le (n:=10) (by omega) (by decide)⟩
     ·rw [if_pos h2] at k
      exact ⟨_,rfl,k _ _ (Same.refl _) ⟨ph,rfl,hph⟩⟩
     ·rw [if_neg h2] at k
      exact k _ _ (Same.refl _) rfl
structure FRel (wn sp:List Str) (rs:List R7) (ws:List (Int × Int)) (ps:List (Str × Rat)) (ds:List WD) (A:Str→Rat):Prop where
 nm:ds.map (·.nm)=wn
 ov:∀ (k:Nat) (d:WD) (r:R7),ds[k]?=some d→rs[k]?=some r→dF d.hi (A d.nm)=(eu r).isSome
 ps:ps=sp.zip (ws.map vC)
 su:∀ (k:Nat) (y:Str),sp[k]?=some y→cD A ds y=rowsS rs k
inductive IspLF (K:PySem.W.Frag) (vs:List V) (H:Hp) (Q:VK):Prop
 | mk (le lr lw ln lq:Addr) (te us tq:List V) (es:List Ent) (rs:List R7) (wn sp:List Str) (ws:List (Int × Int)) (ps:List (Str × Rat)) (ds:List WD) (A:Str→Rat) (h1:vs=[.ref le,.ref lr,.ref lw,.ref ln,.ref lq]) (h2:SqL K H le te) (h3:RowAt EntIs H te es) (h4:es.length≤26) (h5:SqL K H lr us) (h6:RowAt R7Is H us rs) (h7:(∀ r∈rs,R7Ok sp.length r)) (h8:rs.length≤24) (h9:SqL K H lw (wn.map V.str)) (h10:rs.length=wn.length) (h11:SqL K H ln (sp.map V.str)) (h12:sp.length≤12) (h13:SqL K H lq tq) (h14:RowAt DueIs H tq ws) (h15:ws.length=sp.length) (h16:(∀ c∈ws,WB c)) (h17:FRel wn sp rs ws ps ds A) (h18:∀ l H' ts,H l=none→Same H H'→H' l=some (.lst ts)→RowAt FtIs H' ts (aZ (es.map (·.1)) A ps ds)→Q (.ref l) H'):IspLF K vs H Q
def spLF (K:PySem.W.Frag):Sp:=fun vs H Q _=>IspLF K vs H Q
theorem ok_law_faults (T:TX K mg a):FnB P w K mg base CX0 "_law_faults" 3 ["_law_entries_here","_law_rows","_law_ways","_law_names","_law_wants_here"] (spLF K):=by
 refine T.d_law_faults.ok sc_law_faults (fun vs H Q E h=>?_) (fun f cdv A' outer s H vs Q E hr h=>?_)
 ·obtain ⟨_,_,_,_,_,_,_,_,_,_,_,_,_,_,_,_,rfl,_⟩:=h
  rfl
 ·obtain ⟨le,lr,lw,ln,lq,te,us,tq,es,rs,wn,sp,ws,ps,ds,A,rfl,hE,hes,l26,hR,hr7,ok,l24,hW,lrw,hN,l12,hQ,hws,lws,wok,fr,k⟩:=h
  refine ⟨_,(aN (d5 (i:=5) (xs:=["_law_name_here","_law_put"]) (rest:=["_law_ways"]) sc_law_faults.nd rfl rfl rfl (bH (pv 0))
   (fun pins fp C' s' H'=>by exact (pg_tupK (K:=K) (n:=2) rfl rfl (aQ (aA (i:=0) (show (["_law_name_here","_law_put","_law_ways"]:List Str).Nodup by decide +kernel) rfl (Or.inl rfl)) (aQ (aA (i:=1) (show (["_law_name_here","_law_put","_law_ways"]:List Str).Nodup by decide +kernel) rfl (Or.inl rfl)) dN)))) (fun pins fp C' s' H'=>by exact (pts_one (ax (op_notInK (K:=K) rfl) (pv 0) (pv 2) (by with_unfolding_all rfl))))
   (fun pins fp C' s' H'=>by exact (aR (aa aK (aa (pv 0) ac))))
   (Clos.many (ys:=["_law_ways"]) rfl ⟨rfl,True.intro⟩ rfl (by decide +kernel)) (Reads.many (ys:=["_law_ways"]) (js:=[2]) ⟨⟨rfl,rfl,rfl⟩,True.intro⟩))
   (aN (bu PassesOwn.never rfl (bo rfl T.z_range (aa (am a0 (by rfl) T.z_len PySem.boot_len (aa (pv 1) ac)) ac)) (aA (i:=6) sc_law_faults.nd rfl (Or.inl rfl)) (ae (ar (i:=7) sc_law_faults.nd rfl (Or.inl rfl) (au aB (au ay (pv 1) (pv 6) (fun _ _=>rfl)) af (fun _ _=>rfl)))
   (ae (ar (i:=8) sc_law_faults.nd rfl (Or.inl rfl) (au aB (au ay (pv 1) (pv 6) (fun _ _=>rfl)) af (fun _ _=>rfl)))
   (ai (aC (PW.pt (gt (ax cF (pv 7) br (aD _)) (fV (ax dG (au aB (pv 7) af (fun _ _=>rfl)) af (aD _))))) (ai (aI (bf PySem.F.plainAttrs_list PySem.F.slot_list_append PySem.F.type_list_append aF (pv 5) (aa (aR (aa aK (aa (au ay (pv 2) (pv 6) (fun _ _=>rfl)) ac))) ac)))) (ai (aC (PW.pt (gt (ax cF (pv 7) br (aD _)) (gt (ax cF (pv 8) br (aD _)) (fV (ax dG (ao a6 (au aB (pv 8) af (fun _ _=>rfl)) (au aB (pv 7) af (fun _ _=>rfl))) (ao a6 (au aB (pv 7) af (fun _ _=>rfl)) (au aB (pv 8) af (fun _ _=>rfl))) (aD _)))))) (ai (aI (bf PySem.F.plainAttrs_list PySem.F.slot_list_append PySem.F.type_list_append aF (pv 5) (aa (aR (aa aK (aa (au ay (pv 2) (pv 6) (fun _ _=>rfl)) ac))) ac)))) al)))))))
   (ae (ar (i:=9) sc_law_faults.nd rfl (Or.inl rfl) (aG (eC T) hr aq (aa (pv 1) (aa (am a0 (by rfl) T.z_len PySem.boot_len (aa (pv 3) ac)) ac))))
   (ae (bu PassesOwn.never rfl (bo rfl T.z_range (aa (am a0 (by rfl) T.z_len PySem.boot_len (aa (pv 3) ac)) ac)) (aA (i:=6) sc_law_faults.nd rfl (Or.inl rfl)) (ai (aC (ax dG (ao a6 (au aB (au ay (pv 9) (pv 6) (fun _ _=>rfl)) af (fun _ _=>rfl)) (au aB (au ay (pv 4) (pv 6) (fun _ _=>rfl)) af (fun _ _=>rfl))) (ao a6 (au aB (au ay (pv 4) (pv 6) (fun _ _=>rfl)) af (fun _ _=>rfl)) (au aB (au ay (pv 9) (pv 6) (fun _ _=>rfl)) af (fun _ _=>rfl))) (aD _)) (ai (aI (bf PySem.F.plainAttrs_list PySem.F.slot_list_append PySem.F.type_list_append aF (pv 5) (aa (aR (aa aK (aa (au ay (pv 3) (pv 6) (fun _ _=>rfl)) ac))) ac)))) al)))
   (ai (aw (pv 5))))))),?_⟩
  try dsimp only [aS,Cx.nox,Cx.wish]
  have lus:us.length=rs.length:=hr7.1
  have lds:ds.length=wn.length:=by rw [← fr.nm,List.length_map]
  have oth:aO ds (es.map (·.1))=(es.map (·.1)).filter (fun n=>decide (¬ n∈wn)):=by unfold aO;rw [fr.nm]
  have lo:(aO ds (es.map (·.1))).length≤26:=by
   unfold aO
   exact Nat.le_trans (List.length_filter_le _ _) (by rw [List.length_map];exact l26)
  refine ⟨fun σ' H'=>∃ l ts,σ'=[some (.ref le),some (.ref lr),some (.ref lw),some (.ref ln),some (.ref lq),some (.ref l),none,none,none,none]∧H l=none∧Same H H'∧H' l=some (.lst ts)∧RowAt FtIs H' ts ((aO ds (es.map (·.1))).map (fun n=>(("way":Str),n))),?_,?_⟩
  ·refine ⟨_,rfl,le,rfl,⟨_,hE⟩,fun l nl=>?_⟩
   refine fm (K:=K) (a:=le) (xs:=te) (fun i H2=>i≤es.length∧Same H H2∧∃ ts,H2 l=some (.lst ts)∧RowAt FtIs H2 ts ((aO ds ((es.take i).map (·.1))).map (fun n=>(("way":Str),n)))) ⟨Nat.zero_le _,aj nl,[],ad,RowAt.nil⟩ (fun i H2 ⟨_,s2,_⟩=>s2.seq hE) ?_ ?_
   ·rintro i x H2 hx ⟨_,s2,ts,h2,hv⟩ zs hz
    obtain ⟨e,ee,t',vp,rfl,h1,p,rfl,hp⟩:=hes.get hx
    have hi:i<es.length:=(List.getElem?_eq_some_iff.mp ee).1
    have tk:aO ds ((es.take (i+1)).map (·.1))=aO ds ((es.take i).map (·.1))++[e.1].filter (fun n=>decide (¬ n∈wn)):=by
     unfold aO
     rw [List.take_add_one,ee,Option.toList_some,List.map_append,List.filter_append,fr.nm]
     rfl
    have lts:ts.length≤26:=by
     rw [hv.1,List.length_map]
     unfold aO
     exact Nat.le_trans (List.length_filter_le _ _) (by rw [List.length_map,List.length_take];omega)
    match zs,hz with
    | [z1,z2],_=>
     refine ⟨t',[.str e.1,.ref p],rfl,SqT.of (s2 _ _ h1),rfl,.str e.1,[.ref p],rfl,⟨.ref p,[],rfl,⟨rfl,⟨[_,_],rfl,rfl⟩,?_⟩⟩⟩
     refine ⟨_,rfl,_,rfl,lw,_,rfl,.inl (s2.seq hW),rfl,eU _,_,rfl,?_⟩
     by_cases hin:e.1∈wn
     ·refine c6 (show (!inV _ _)=false by rw [fe,decide_eq_true hin];rfl) ?_
      refine c7 (by rw [hes.1];exact hi) ⟨hi,s2,ts,h2,?_⟩
      rw [tk,List.filter_cons_of_neg (by simp [hin]),List.filter_nil,List.append_nil]
      exact hv
     ·refine fA (show (!inV _ _)=true by rw [fe,decide_eq_false hin];rfl) ?_
      refine ⟨_,rfl,by show 2≤sizeLine;decide,fun t nt=>?_⟩
      have s3:=aj (o:=.tup [.str "way",.str e.1]) nt
      have ht:upd H2 t (.tup [.str "way",.str e.1]) t=some (.tup [.str "way",.str e.1]):=ad
      generalize upd H2 t (.tup [.str "way",.str e.1])=H3 at s3 ht ⊢
      have h3:=s3 _ _ h2
      refine ⟨_,h3,aL (by omega),c7 (by rw [hes.1];exact hi) ⟨hi,aP nl (s2.trans s3),_,ad,?_⟩⟩
      rw [tk,List.map_append,List.filter_cons_of_pos (by simp [hin])]
      exact RowAt.snoc (hv.mono fun v x z=>(z.mono s3).lst h3) (FtIs.lst h3 ⟨t,rfl,ht⟩)
   ·rintro H2 ⟨_,s2,ts,h2,hv⟩
    rw [hes.1,List.take_length] at hv
    exact ⟨l,ts,rfl,nl,s2,h2,hv⟩
  rintro σ' H1 ⟨l,ts1,rfl,nl,s1,hl1,hv1⟩
  refine ⟨fun σ' H'=>∃ ts z6 z7 z8,σ'=[some (.ref le),some (.ref lr),some (.ref lw),some (.ref ln),some (.ref lq),some (.ref l),z6,z7,z8,none]∧Same H H'∧H' l=some (.lst ts)∧RowAt FtIs H' ts ((aO ds (es.map (·.1))).map (fun n=>(("way":Str),n))++a7 A ds),?_,?_⟩
  ·refine ⟨_,rfl,lr,_,rfl,.inl (s1.seq hR),_,rfl,by omega,by omega,dA (n:=us.length) (fun i σ H2=>i≤rs.length∧∃ ts z6 z7 z8,σ=[some (.ref le),some (.ref lr),some (.ref lw),some (.ref ln),some (.ref lq),some (.ref l),z6,z7,z8,none]∧Same H H2∧H2 l=some (.lst ts)∧RowAt FtIs H2 ts ((aO ds (es.map (·.1))).map (fun n=>(("way":Str),n))++a7 A (ds.take i)))
    ⟨Nat.zero_le _,ts1,_,_,_,rfl,s1,hl1,by rw [List.take_zero,show a7 A []=[] from rfl,List.append_nil];exact hv1⟩ ?_ ?_⟩
   ·rintro i σ H2 hi ⟨_,ts,z6,z7,z8,rfl,s2,h2,hv⟩
    have hi':i<rs.length:=by omega
    have er:rs[i]?=some rs[i]:=List.getElem?_eq_getElem hi'
    have ed:ds[i]?=some (ds[i]'(by omega)):=List.getElem?_eq_getElem (by omega)
    generalize rs[i]=r at er
    generalize ds[i]'(by omega)=dd at ed
    have okr:=ok r (List.mem_of_getElem? er)
    have ew:wn[i]?=some dd.nm:=by rw [← fr.nm,List.getElem?_map,ed];rfl
    have ov:=fr.ov i dd r ed er
    obtain ⟨tv,etv,htv⟩:=hr7.get' er
    obtain ⟨p7,vg,vp,vh,vc,rfl,hp7,_,hpt,hhi,_⟩:=htv.mono s2
    have a1:atI us (0+(i:Int))=some (.ref p7):=by rw [Int.zero_add];exact atI_nat etv
    have a2:atI (wn.map V.str) (0+(i:Int))=some (.str dd.nm):=by rw [Int.zero_add];exact eJ ew
    have tk:ds.take (i+1)=ds.take i++[dd]:=by rw [List.take_add_one,ed];rfl
    have lts:ts.length≤100:=by
     have:=cV A (ds.take i)
     rw [List.length_take] at this
     rw [hv.1,List.length_append,List.length_map]
     omega
    have sq:=SqT.of (K:=K) hp7
    have no:(eu r).isSome=false→∃ ts',H2 l=some (.lst ts')∧RowAt FtIs H2 ts' ((aO ds (es.map (·.1))).map (fun n=>(("way":Str),n))++a7 A (ds.take (i+1))):=fun z=>by
     refine ⟨ts,h2,?_⟩
     rw [tk,dS,if_neg (by rw [ov,z];decide),List.append_nil]
     exact hv
    have yes:(eu r).isSome=true→∀ (u:Addr),H2 u=none→RowAt FtIs (upd (upd H2 u (.tup [.str "bound",.str dd.nm])) l (.lst (ts++[.ref u]))) (ts++[.ref u]) ((aO ds (es.map (·.1))).map (fun n=>(("way":Str),n))++a7 A (ds.take (i+1))):=fun z u nu=>by
     have s6:=aj (o:=.tup [.str "bound",.str dd.nm]) nu
     have hl6:=s6 _ _ h2
     rw [tk,dS,if_pos (by rw [ov,z]),← List.append_assoc]
     exact RowAt.snoc (hv.mono fun v x z=>(z.mono s6).lst hl6) (FtIs.lst hl6 ⟨u,rfl,ad⟩)
    refine ⟨_,rfl,_,rfl,lr,_,_,_,rfl,rfl,s2.seq hR,a1,p7,_,_,_,rfl,rfl,sq,rfl,_,rfl,_,rfl,lr,_,_,_,rfl,rfl,s2.seq hR,a1,p7,_,_,_,rfl,rfl,sq,rfl,?_⟩
    unfold eu at no yes
    cases ho:r.put with
    | none=>
     rw [ho] at hpt no
     obtain rfl:vp=.non:=hpt
     refine ⟨_,rfl,rfl,_,rfl,iteF ?_⟩
     refine ⟨_,rfl,rfl,_,rfl,iteF ?_⟩
     obtain ⟨ts',g1',g2'⟩:=no rfl
     exact ⟨hi',ts',_,_,_,rfl,s2,g1',g2'⟩
    | some c=>
     rw [ho] at hpt no yes
     obtain ⟨pq,rfl,hq⟩:=hpt
     obtain ⟨q1,q2,q3⟩:=okr.pt c ho
     have no:(if c.1<0 then some ((0:Int),(1:Int)) else match r.hi with | none=>none | some h=>if h.1*c.2<c.1*h.2 then some h else none).isSome=false→_:=no
     have yes:(if c.1<0 then some ((0:Int),(1:Int)) else match r.hi with | none=>none | some h=>if h.1*c.2<c.1*h.2 then some h else none).isSome=true→_:=yes
     refine ⟨_,rfl,rfl,_,rfl,iteT ?_⟩
     refine ⟨_,rfl,pq,_,_,_,rfl,rfl,SqT.of hq,rfl,_,_,rfl,rfl,_,rfl,ifB (fun h1=>?_) (fun h1=>?_)⟩
     ·rw [if_pos h1] at yes
      refine ⟨_,rfl,.inl ⟨rfl,_,SqL.of h2⟩,_,rfl,_,rfl,lw,_,_,_,rfl,rfl,s2.seq hW,a2,by show 2≤sizeLine;decide,fun u nu=>?_⟩
      exact ⟨l,_,_,rfl,rfl,aj nu _ _ h2,aL (by omega),hi',_,_,_,_,rfl,aP nl (s2.trans (aj nu)),ad,yes rfl u nu⟩
     ·rw [if_neg h1] at no yes
      refine ⟨_,rfl,rfl,_,rfl,iteT ?_⟩
      cases eh:r.hi with
      | none=>
       rw [eh] at hhi no
       obtain rfl:vh=.non:=hhi
       refine ⟨_,rfl,rfl,_,rfl,iteF ?_⟩
       obtain ⟨ts',g1',g2'⟩:=no rfl
       exact ⟨hi',ts',_,_,_,rfl,s2,g1',g2'⟩
      | some hv'=>
       rw [eh] at hhi no yes
       obtain ⟨ph,rfl,hph⟩:=hhi
       obtain ⟨h0,hb1,hb2,hb3⟩:=okr.hi hv' eh
       have no:(if hv'.1*c.2<c.1*hv'.2 then some hv' else none).isSome=false→_:=no
       have yes:(if hv'.1*c.2<c.1*hv'.2 then some hv' else none).isSome=true→_:=yes
       refine ⟨_,rfl,rfl,_,rfl,iteT ?_⟩
       refine ⟨_,rfl,ph,_,_,_,rfl,rfl,SqT.of hph,rfl,_,rfl,pq,_,_,_,rfl,rfl,SqT.of hq,rfl,_,_,rfl,rfl,⟨Sm.of_le hb1 (by decide),Sm.of_le (n:=10) (by omega) (by decide)⟩,_,rfl,pq,_,_,_,rfl,rfl,SqT.of hq,rfl,_,rfl,ph,_,_,_,rfl,rfl,SqT.of hph,rfl,_,_,rfl,rfl,⟨Sm.of_le q1 (by decide),Sm.of_le (n:=10) (by omega) (by decide)⟩,_,_,rfl,rfl,_,rfl,ifB (fun h2'=>?_) (fun h2'=>?_)⟩
       ·rw [if_pos h2'] at yes
        refine ⟨_,rfl,.inl ⟨rfl,_,SqL.of h2⟩,_,rfl,_,rfl,lw,_,_,_,rfl,rfl,s2.seq hW,a2,by show 2≤sizeLine;decide,fun u nu=>?_⟩
        exact ⟨l,_,_,rfl,rfl,aj nu _ _ h2,aL (by omega),hi',_,_,_,_,rfl,aP nl (s2.trans (aj nu)),ad,yes rfl u nu⟩
       ·rw [if_neg h2'] at no
        obtain ⟨ts',g1',g2'⟩:=no rfl
        exact ⟨hi',ts',_,_,_,rfl,s2,g1',g2'⟩
   ·rintro σ H2 ⟨_,ts,z6,z7,z8,rfl,s2,h2,hv⟩
    rw [show us.length=ds.length by omega,List.take_length] at hv
    exact ⟨ts,_,_,_,rfl,s2,h2,hv⟩
  rintro σ' H2 ⟨ts2,z6,z7,z8,rfl,s2,hl2,hv2⟩
  have lt2:ts2.length≤100:=by
   have:=cV A ds
   rw [hv2.1,List.length_append,List.length_map]
   omega
  have eN:((sp.map V.str).length:Nat)=sp.length:=List.length_map ..
  refine ⟨_,rfl,_,rfl,ln,_,rfl,.inl (s2.seq hN),lr,(sp.map V.str).length,us,rs,rfl,by rw [eN];exact l12,s2.seq hR,hr7.mono (fun v x z=>z.mono s2),by rw [eN];exact ok,l24,fun pf H3 tf cs npf s3 hpf hcs lcs hcv=>?_⟩
  rw [eN] at lcs
  have s23:=s2.trans s3
  have hl3:=s3 _ _ hl2
  refine ⟨_,rfl,ln,_,rfl,.inl (s23.seq hN),_,rfl,by omega,by omega,dA (n:=(sp.map V.str).length) (fun i σ H4=>i≤sp.length∧∃ ts z6,σ=[some (.ref le),some (.ref lr),some (.ref lw),some (.ref ln),some (.ref lq),some (.ref l),z6,z7,z8,some (.ref pf)]∧Same H H4∧(∀ b u,H3 b=some u→b≠l→H4 b=some u)∧H4 l=some (.lst ts)∧RowAt FtIs H4 ts ((aO ds (es.map (·.1))).map (fun n=>(("way":Str),n))++a7 A ds++bv (cD A ds) (ps.take i)))
   ⟨Nat.zero_le _,ts2,_,rfl,s23,(fun _ _ e _=>e),hl3,by rw [List.take_zero,show bv (cD A ds) []=[] from rfl,List.append_nil];exact hv2.mono fun v x z=>z.mono s3⟩ ?_ ?_⟩
  ·rintro i σ H4 hi ⟨_,ts,z6',rfl,s4,kb,hl4,hv4⟩
   have hi':i<sp.length:=by omega
   have e1:sp[i]?=some sp[i]:=List.getElem?_eq_getElem hi'
   have e2:ws[i]?=some (ws[i]'(by omega)):=List.getElem?_eq_getElem (by omega)
   have e3:cs[i]?=some (cs[i]'(by omega)):=List.getElem?_eq_getElem (by omega)
   generalize sp[i]=y at e1
   generalize ws[i]'(by omega)=x at e2
   generalize cs[i]'(by omega)=c at e3
   have ep:ps[i]?=some (y,vC x):=by rw [fr.ps,List.getElem?_zip_eq_some];exact ⟨e1,by rw [List.getElem?_map,e2];rfl⟩
   obtain ⟨u1,eu1,p1,rfl,hp1⟩:=hcs.get' e3
   obtain ⟨u2,eu2,p2,rfl,hp2⟩:=hws.get' e2
   obtain ⟨c1,c2,c3,c4⟩:=hcv i c e3
   have wx:=wok x (List.mem_of_getElem? e2)
   have a1:atI tf (0+(i:Int))=some (.ref p1):=by rw [Int.zero_add];exact atI_nat eu1
   have a2:atI tq (0+(i:Int))=some (.ref p2):=by rw [Int.zero_add];exact atI_nat eu2
   have a3:atI (sp.map V.str) (0+(i:Int))=some (.str y):=by rw [Int.zero_add];exact eJ e1
   have pl:pf≠l:=fun z=>by rw [z,hl2] at npf;cases npf
   have hpf4:=kb _ _ hpf pl
   have hp14:=kb _ _ hp1 (fun z=>by rw [z,hl3] at hp1;cases hp1)
   have hp24:=s4 _ _ hp2
   have tk:ps.take (i+1)=ps.take i++[(y,vC x)]:=by rw [List.take_add_one,ep];rfl
   have lt:cD A ds y<vC x↔c.1*x.2<x.1*c.2:=by
    rw [fr.su i y e1,← c4]
    exact lt_div (by omega) (by have:=wx.b2;omega)
   have lts:ts.length≤200:=by
    have:=cV A ds
    have:=placesF_len (cD A ds) (ps.take i)
    rw [List.length_take] at this
    rw [hv4.1,List.length_append,List.length_append,List.length_map]
    omega
   refine ⟨_,rfl,_,rfl,pf,_,_,_,rfl,rfl,SqL.of hpf4,a1,p1,_,_,_,rfl,rfl,SqT.of hp14,rfl,_,rfl,_,rfl,lq,_,_,_,rfl,rfl,s4.seq hQ,a2,p2,_,_,_,rfl,rfl,SqT.of hp24,rfl,_,_,rfl,rfl,⟨Sm.of_le c1 (by decide),wx.sm.2⟩,_,rfl,_,rfl,lq,_,_,_,rfl,rfl,s4.seq hQ,a2,p2,_,_,_,rfl,rfl,SqT.of hp24,rfl,_,rfl,_,rfl,pf,_,_,_,rfl,rfl,SqL.of hpf4,a1,p1,_,_,_,rfl,rfl,SqT.of hp14,rfl,_,_,rfl,rfl,⟨wx.sm.1,Sm.of_le c2 (by decide)⟩,_,_,rfl,rfl,_,rfl,ifB (fun h1=>?_) (fun h1=>?_)⟩
   ·refine ⟨_,rfl,.inl ⟨rfl,_,SqL.of hl4⟩,_,rfl,_,rfl,ln,_,_,_,rfl,rfl,s4.seq hN,a3,by show 2≤sizeLine;decide,fun u nu=>?_⟩
    have s6:=aj (o:=.tup [.str "place",.str y]) nu
    have hu:upd H4 u (.tup [.str "place",.str y]) u=some (.tup [.str "place",.str y]):=ad
    generalize upd H4 u (.tup [.str "place",.str y])=H6 at s6 hu ⊢
    have hl6:=s6 _ _ hl4
    refine ⟨l,_,_,rfl,rfl,hl6,aL (by omega),?_⟩
    refine ⟨hi',_,_,rfl,aP nl (s4.trans s6),(fun b w e ne=>by rw [ak ne];exact s6 _ _ (kb _ _ e ne)),ad,?_⟩
    rw [tk,dM,if_pos (lt.mpr h1),← List.append_assoc]
    exact RowAt.snoc (hv4.mono fun v x z=>(z.mono s6).lst hl6) (FtIs.lst hl6 ⟨u,rfl,hu⟩)
   ·refine ⟨hi',ts,_,rfl,s4,kb,hl4,?_⟩
    rw [tk,dM,if_neg (fun z=>h1 (lt.mp z)),List.append_nil]
    exact hv4
  ·rintro σ H4 ⟨_,ts,z6',rfl,s4,kb,hl4,hv4⟩
   have lps:ps.length=sp.length:=by rw [fr.ps,List.length_zip,List.length_map];omega
   rw [eN,← lps,List.take_length] at hv4
   exact ⟨_,rfl,k l H4 ts nl s4 hl4 hv4⟩
inductive IspLWants (K:PySem.W.Frag) (vs:List V) (H:Hp) (Q:VK):Prop
 | mk (l lr:Addr) (n:Nat) (mode:Int) (ns:List Int) (us:List V) (rs:List R7) (h1:vs=[.ref l,.int n,.int mode,.ref lr]) (h2:n≤12) (h3:SqL K H l (ns.map V.int)) (h4:SqL K H lr us) (h5:RowAt R7Is H us rs) (h6:(∀ r∈rs,R7Ok n r)) (h7:rs.length≤24) (h8:∀ p H' ts (ws:List (Int × Int)),H p=none→Same H H'→H' p=some (.lst ts)→RowAt DueIs H' ts ws→ws.length=n→(∀ c∈ws,WB c)→Q (.ref p) H'):IspLWants K vs H Q
def spLWants (K:PySem.W.Frag):Sp:=fun vs H Q _=>IspLWants K vs H Q
theorem ok_law_wants (T:TX K mg a):FnB P w K mg base CX0 "_law_wants" 3 ["_law_script","_law_n","_law_mode","_law_rows"] (spLWants K):=by
 refine T.d_law_wants.ok sc_law_wants (fun vs H Q E h=>?_) (fun f cdv A outer s H vs Q E hr h=>?_)
 ·obtain ⟨_,_,_,_,_,_,_,rfl,_⟩:=h
  rfl
 ·obtain ⟨l,lr,n,mode,ns,us,rs,rfl,n12,hS,hR,hr7,ok,l24,k⟩:=h
  refine ⟨_,(ae (ar (i:=4) sc_law_wants.nd rfl (Or.inl rfl) (aG (eC T) hr aq (aa (pv 3) (aa (pv 1) ac))))
   (ae (bu PassesOwn.never rfl (bo rfl T.z_range (aa (pv 1) ac)) (aA (i:=5) sc_law_wants.nd rfl (Or.inl rfl)) (ae (ar (i:=6) sc_law_wants.nd rfl (Or.inl rfl) (au ay (cB (aa (aR (aa af (aa af ac))) (aa (aR (aa (pe_un un_neg af) (aa af ac))) (aa (aR (aa af (aa af ac))) (aa (aR (aa af (aa af ac))) (aa (aR (aa (pe_un un_neg af) (aa af ac))) (aa (aR (aa af (aa af ac))) ac))))))) (ao aW (aG (gA T) hr aq (aa (pv 0) (aa (ao bY af (pv 5)) ac))) af) (fun _ _=>rfl)))
   (aN (aC (ax cA (pv 2) af (aD _)) (ai (ar (i:=6) sc_law_wants.nd rfl (Or.inl rfl) (aR (aa (ao fL af (am d8 (by rfl) T.z_abs PyProof.Rows.boot_abs (aa (au aB (pv 6) af (fun _ _=>rfl)) ac))) (aa (au aB (pv 6) af (fun _ _=>rfl)) ac))))) al)
   (ai (ps_asg (aG (cR T) hr aq (aa (au ay (pv 4) (pv 5) (fun _ _=>rfl)) (aa (pv 6) ac))) (pg_sub (pv 4) (pv 5) set_list))))))
   (ai (aw (pv 4))))),?_⟩
  try dsimp only [aS,Cx.nox,Cx.wish]
  refine ⟨_,rfl,_,rfl,lr,n,us,rs,rfl,n12,hR,hr7,ok,l24,fun p H1 ts cs np s1 hp hcs lcs hcv=>?_⟩
  have wb0:∀ c∈cs,c.1.natAbs≤2 ^ 400∧c.2.natAbs≤2 ^ 400∧1≤c.2:=fun c hc=>by
   obtain ⟨i,hi⟩:=List.mem_iff_getElem?.mp hc
   obtain ⟨c1,c2,c3,_⟩:=hcv i c hi
   exact ⟨c1,c2,c3⟩
  refine ⟨_,rfl,(n:Int),rfl,by omega,by omega,dA (n:=(n:Int).toNat) (fun i σ H2=>i≤n∧∃ (ts:List V) (ws:List (Int × Int)) (z5 z6:Option V),σ=[some (.ref l),some (.int n),some (.int mode),some (.ref lr),some (.ref p),z5,z6]∧Same H H2∧H2 p=some (.lst ts)∧RowAt DueIs H2 ts ws∧ws.length=n∧(∀ c∈ws.take i,WB c)∧∀ c∈ws.drop i,c.1.natAbs≤2 ^ 400∧c.2.natAbs≤2 ^ 400∧1≤c.2) ⟨Nat.zero_le _,ts,cs,_,_,rfl,s1,hp,hcs,lcs,fun c hc=>by simp at hc,fun c hc=>wb0 c (by simpa using hc)⟩ ?_ ?_⟩
  ·rintro i σ H2 hi ⟨_,ts,ws,z5,z6,rfl,s2,hp2,hv,lws,w1,w2⟩
   have hi':i<n:=by simpa using hi
   refine ⟨by show 2≤sizeLine;decide,fun b0 nb0=>?_⟩
   have e0:=aj (o:=.tup [.int 0,.int 1]) nb0
   have h0:upd H2 b0 (.tup [.int 0,.int 1]) b0=some (.tup [.int 0,.int 1]):=ad
   generalize upd H2 b0 (.tup [.int 0,.int 1])=G0 at e0 h0 ⊢
   refine ⟨_,rfl,by show 2≤sizeLine;decide,fun b1 nb1=>?_⟩
   have e1:=aj (o:=.tup [.int (-1),.int 7]) nb1
   have h1:upd G0 b1 (.tup [.int (-1),.int 7]) b1=some (.tup [.int (-1),.int 7]):=ad
   generalize upd G0 b1 (.tup [.int (-1),.int 7])=G1 at e1 h1 ⊢
   refine ⟨by show 2≤sizeLine;decide,fun b2 nb2=>?_⟩
   have e2:=aj (o:=.tup [.int 1,.int 7]) nb2
   have h2:upd G1 b2 (.tup [.int 1,.int 7]) b2=some (.tup [.int 1,.int 7]):=ad
   generalize upd G1 b2 (.tup [.int 1,.int 7])=G2 at e2 h2 ⊢
   refine ⟨by show 2≤sizeLine;decide,fun b3 nb3=>?_⟩
   have e3:=aj (o:=.tup [.int 0,.int 1]) nb3
   have h3:upd G2 b3 (.tup [.int 0,.int 1]) b3=some (.tup [.int 0,.int 1]):=ad
   generalize upd G2 b3 (.tup [.int 0,.int 1])=G3 at e3 h3 ⊢
   refine ⟨_,rfl,by show 2≤sizeLine;decide,fun b4 nb4=>?_⟩
   have e4:=aj (o:=.tup [.int (-30),.int 1]) nb4
   have h4:upd G3 b4 (.tup [.int (-30),.int 1]) b4=some (.tup [.int (-30),.int 1]):=ad
   generalize upd G3 b4 (.tup [.int (-30),.int 1])=G4 at e4 h4 ⊢
   refine ⟨by show 2≤sizeLine;decide,fun b5 nb5=>?_⟩
   have e5:=aj (o:=.tup [.int 2,.int 1]) nb5
   have h5:upd G4 b5 (.tup [.int 2,.int 1]) b5=some (.tup [.int 2,.int 1]):=ad
   generalize upd G4 b5 (.tup [.int 2,.int 1])=G5 at e5 h5 ⊢
   refine ⟨by show 6≤sizeLine;decide,fun lb nlb=>?_⟩
   have e6:=aj (o:=.lst [.ref b0,.ref b1,.ref b2,.ref b3,.ref b4,.ref b5]) nlb
   have hlb:upd G5 lb (.lst [.ref b0,.ref b1,.ref b2,.ref b3,.ref b4,.ref b5]) lb=some (.lst [.ref b0,.ref b1,.ref b2,.ref b3,.ref b4,.ref b5]):=ad
   generalize upd G5 lb (.lst [.ref b0,.ref b1,.ref b2,.ref b3,.ref b4,.ref b5])=G6 at e6 hlb ⊢
   have f5:=e6
   have f4:=e5.trans f5
   have f3:=e4.trans f4
   have f2:=e3.trans f3
   have f1:=e2.trans f2
   have f0:=e1.trans f1
   have s26:=e0.trans f0
   have s06:=s2.trans s26
   refine ⟨_,rfl,_,rfl,_,_,rfl,rfl,l,ns,34+i,by show [V.ref l,V.int (34+(0+(i:Int)))]=[V.ref l,V.int ((34+i:Nat):Int)];rw [show 34+(0+(i:Int))=((34+i:Nat):Int) by omega],s06.seq hS,by omega,fun c=>?_⟩
   obtain ⟨c0,c1⟩:=bq c (show (0:Int)<6 by decide)
   obtain ⟨j,hj⟩:=Int.eq_ofNat_of_zero_le c0
   have pick:∃ (b:Addr) (x:Int × Int),([V.ref b0,.ref b1,.ref b2,.ref b3,.ref b4,.ref b5])[j]?=some (.ref b)∧G6 b=some (.tup [.int x.1,.int x.2])∧x.1.natAbs≤30∧1≤x.2∧x.2≤7:=by
    match j,hj with
    | 0,_=>exact ⟨b0,(0,1),rfl,f0 _ _ h0,by decide,by decide,by decide⟩
    | 1,_=>exact ⟨b1,(-1,7),rfl,f1 _ _ h1,by decide,by decide,by decide⟩
    | 2,_=>exact ⟨b2,(1,7),rfl,f2 _ _ h2,by decide,by decide,by decide⟩
    | 3,_=>exact ⟨b3,(0,1),rfl,f3 _ _ h3,by decide,by decide,by decide⟩
    | 4,_=>exact ⟨b4,(-30,1),rfl,f4 _ _ h4,by decide,by decide,by decide⟩
    | 5,_=>exact ⟨b5,(2,1),rfl,f5 _ _ h5,by decide,by decide,by decide⟩
    | j+6,hj=>omega
   obtain ⟨b,x,eb,hb,x1,x2,x3⟩:=pick
   refine ⟨_,_,rfl,rfl,by show (0:Int)<6;decide,lb,_,_,_,rfl,rfl,SqL.of hlb,(by rw [hj];exact atI_nat eb),?_⟩
   have hp6:=s26 _ _ hp2
   have hv6:=hv.mono fun v x z=>DueIs.mono z s26
   clear e0 h0 e1 h1 e2 h2 e3 h3 e4 h4 e5 h5 e6 hlb f0 f1 f2 f3 f4 f5 eb
   refine ⟨fun σ' H'=>∃ (b:Addr) (x:Int × Int),σ'=[some (.ref l),some (.int n),some (.int mode),some (.ref lr),some (.ref p),some (.int (0+(i:Int))),some (.ref b)]∧Same G6 H'∧H' b=some (.tup [.int x.1,.int x.2])∧x.1.natAbs≤30∧1≤x.2∧x.2≤7,?_,?_⟩
   ·refine ⟨_,rfl,rfl,_,rfl,ifV (fun hm=>?_) (fun hm=>⟨b,x,rfl,Same.refl _,hb,x1,x2,x3⟩)⟩
    refine ⟨_,rfl,b,_,_,_,rfl,rfl,SqT.of hb,rfl,_,rfl,_,_,rfl,rfl,_,rfl,b,_,_,_,rfl,rfl,SqT.of hb,rfl,by show 2≤sizeLine;decide,fun t nt=>?_⟩
    exact ⟨t,(0-(if x.1<0 then -x.1 else x.1),x.2),rfl,aj nt,ad,by show (0-(if x.1<0 then -x.1 else x.1)).natAbs≤30;split <;> omega,x2,x3⟩
   rintro σ' H7 ⟨b,x,rfl,s7,hb,x1,x2,x3⟩
   have hp7:=s7 _ _ hp6
   have hv7:=hv6.mono fun v x z=>DueIs.mono z s7
   have lts:ts.length=n:=by rw [hv.1,lws]
   have ec:ws[i]?=some (ws[i]'(by omega)):=List.getElem?_eq_getElem (by omega)
   generalize hcc:ws[i]'(by omega)=c at ec
   have mc:c∈ws.drop i:=by
    refine List.mem_of_getElem? (i:=0) ?_
    rw [List.getElem?_drop]
    exact ec
   obtain ⟨cb1,cb2,cb3⟩:=w2 c mc
   obtain ⟨u1,eu1,p1,rfl,hp1⟩:=hv7.get' ec
   have a1:atI ts (0+(i:Int))=some (.ref p1):=by rw [Int.zero_add];exact atI_nat eu1
   refine ⟨_,rfl,_,rfl,p,_,_,_,rfl,rfl,SqL.of hp7,a1,_,rfl,p1,b,_,_,_,_,rfl,hp1,hb,Sm.of_le cb1 (by decide),Sm.of_le cb2 (by decide),Sm.of_le (n:=10) (by omega) (by decide),Sm.of_le (n:=10) (by omega) (by decide),fun t nt=>?_⟩
   have s8:=aj (o:=.tup [.int (c.1*x.2+x.1*c.2),.int (c.2*x.2)]) nt
   have ht:upd H7 t (.tup [.int (c.1*x.2+x.1*c.2),.int (c.2*x.2)]) t=some (.tup [.int (c.1*x.2+x.1*c.2),.int (c.2*x.2)]):=ad
   generalize upd H7 t (.tup [.int (c.1*x.2+x.1*c.2),.int (c.2*x.2)])=H8 at s8 ht ⊢
   have hp8:=s8 _ _ hp7
   refine ⟨_,rfl,_,rfl,p,ts,_,i,rfl,by rw [Int.zero_add],hp8,ixN_nat (by omega),?_⟩
   have k9:KeepO H8 (upd H8 p (.lst (ts.set i (.ref t)))):=.lst hp8
   have wbn:WB (c.1*x.2+x.1*c.2,c.2*x.2):=by
    have m1:(c.1*x.2).natAbs≤2 ^ (400+3):=by rw [Int.natAbs_mul,Nat.pow_add];exact Nat.mul_le_mul cb1 (by omega)
    have m2:(x.1*c.2).natAbs≤2 ^ (5+400):=by rw [Int.natAbs_mul,Nat.pow_add];exact Nat.mul_le_mul (show _≤32 by omega) cb2
    have m3:(c.2*x.2).natAbs≤2 ^ (400+3):=by rw [Int.natAbs_mul,Nat.pow_add];exact Nat.mul_le_mul cb2 (by omega)
    refine ⟨Nat.le_trans (Int.natAbs_add_le _ _) (Nat.le_trans (Nat.add_le_add (Nat.le_trans m1 (aV (show 403≤419 by decide))) (Nat.le_trans m2 (aV (show 405≤419 by decide)))) ?_),Int.mul_pos (by omega) (by omega),Nat.le_trans m3 (aV (by decide))⟩
    rw [show 2 ^ 420=2 ^ 419*2 from Nat.pow_add 2 419 1]
    omega
   have hil:i<ws.length:=by omega
   have tkn:(ws.set i (c.1*x.2+x.1*c.2,c.2*x.2)).take (i+1)=ws.take i++[(c.1*x.2+x.1*c.2,c.2*x.2)]:=by
    rw [List.take_add_one,List.getElem?_set_self hil,Option.toList_some,List.take_set_of_le (Nat.le_refl _)]
   have dpn:(ws.set i (c.1*x.2+x.1*c.2,c.2*x.2)).drop (i+1)=ws.drop (i+1):=by
    rw [List.drop_set_of_lt (Nat.lt_succ_self _)]
   refine ⟨hi',ts.set i (.ref t),ws.set i (c.1*x.2+x.1*c.2,c.2*x.2),_,_,rfl,aP np (s06.trans (s7.trans s8)),ad,RowAt.set (hv7.mono fun v x z=>(DueIs.mono z s8).ko k9) _ (DueIs.ko ⟨t,rfl,ht⟩ k9),by rw [List.length_set,lws],fun y hy=>?_,fun y hy=>?_⟩
   ·rw [tkn] at hy
    rcases List.mem_append.mp hy with z | z
    ·exact w1 y z
    ·rw [List.mem_singleton.mp z]
     exact wbn
   ·rw [dpn] at hy
    refine w2 y ?_
    rw [← List.drop_drop] at hy
    exact List.mem_of_mem_drop hy
  ·rintro σ H2 ⟨_,ts,ws,z5,z6,rfl,s2,hp2,hv,lws,w1,w2⟩
   rw [show (n:Int).toNat=ws.length by rw [lws];rfl,List.take_length] at w1
   exact ⟨_,rfl,k p H2 ts ws np s2 hp2 hv lws w1⟩
inductive IspTold (K:PySem.W.Frag) (vs:List V) (H:Hp) (Q:VK):Prop
 | mk (lf ld:Addr) (tf td:List V) (fs:List (Str × Str)) (h1:vs=[.ref lf,.ref ld]) (h2:H lf=some (.lst tf)) (h3:RowAt FtIs H tf fs) (h4:SqL K H ld td) (h5:RowAt FtIs H td fs) (h6:fs.length≤100) (h7:Q (.bl true) H):IspTold K vs H Q
def spTold (K:PySem.W.Frag):Sp:=fun vs H Q _=>IspTold K vs H Q
theorem ok_law_told (T:TX K mg a):FnB P w K mg base CX0 "_law_told" 1 ["_law_found","_law_due_here"] (spTold K):=by
 refine T.d_law_told.ok sc_law_told (fun vs H Q E h=>?_) (fun f cdv A outer s H vs Q E hr h=>?_)
 ·obtain ⟨_,_,_,_,_,rfl,_⟩:=h
  rfl
 ·obtain ⟨lf,ld,tf,td,fs,rfl,hF,hf,hD,hd,l100,k⟩:=h
  refine ⟨_,(ae (aC (PW.pt (cE (cY (aJ (am (eX (c:=.type "list")) (by rfl) T.z_isinstance PyProof.Rows.boot_isinstance (aa (pv 0) (aa (fb (v:=.ty "list") (by rfl) T.z_list PyProof.Rows.boot_list rfl) ac))))) (du (ax op_ne (am a0 (by rfl) T.z_len PySem.boot_len (aa (pv 0) ac)) (am a0 (by rfl) T.z_len PySem.boot_len (aa (pv 1) ac)) (aD _))))) (ai (aw fu)) al)
   (ae (bu PassesOwn.never rfl (bo rfl T.z_range (aa (am a0 (by rfl) T.z_len PySem.boot_len (aa (pv 1) ac)) ac)) (aA (i:=2) sc_law_told.nd rfl (Or.inl rfl)) (ai (aC (PW.pt (cE (cY (aJ (am (eX (c:=.type "tuple")) (by rfl) T.z_isinstance PyProof.Rows.boot_isinstance (aa (au ay (pv 0) (pv 2) (fun _ _=>rfl)) (aa (fb (v:=.ty "tuple") (by rfl) T.z_tuple PyProof.Rows.boot_tuple rfl) ac))))) (cE (ax op_ne (am a0 (by rfl) T.z_len PySem.boot_len (aa (au ay (pv 0) (pv 2) (fun _ _=>rfl)) ac)) af (aD _)) (du (ax (op_neT hr.units0) (au ay (pv 0) (pv 2) (fun _ _=>rfl)) (au ay (pv 1) (pv 2) (fun _ _=>rfl)) (aD _)))))) (ai (aw fu)) al)))
   (ai (aw fu)))),?_⟩
  try dsimp only [aS,Cx.nox,Cx.wish]
  have e1:tf.length=fs.length:=hf.1
  have e2:td.length=fs.length:=hd.1
  refine ⟨_,rfl,_,_,_,_,rfl,(fun u h=>h),TyOf.lst hF,T.k_list_list,_,rfl,iteF ?_⟩
  refine ⟨_,rfl,lf,_,rfl,.inl (SqL.of hF),_,rfl,ld,_,rfl,.inl hD,rfl,_,rfl,?_⟩
  rw [e1,e2]
  refine iteNS rfl ?_
  refine ⟨_,rfl,ld,_,rfl,.inl hD,_,rfl,by omega,by omega,dA (n:=td.length) (fun i σ H2=>∃ z2,σ=[some (.ref lf),some (.ref ld),z2]∧H2=H) ⟨_,rfl,rfl⟩ ?_ ?_⟩
  ·rintro i σ H2 hi ⟨z2,rfl,rfl⟩
   have ef:fs[i]?=some (fs[i]'(by omega)):=List.getElem?_eq_getElem (by omega)
   generalize fs[i]'(by omega)=x at ef
   obtain ⟨v1,ev1,t1,rfl,ht1⟩:=hf.get' ef
   obtain ⟨v2,ev2,t2,rfl,ht2⟩:=hd.get' ef
   have a1:atI tf (0+(i:Int))=some (.ref t1):=by rw [Int.zero_add];exact atI_nat ev1
   have a2:atI td (0+(i:Int))=some (.ref t2):=by rw [Int.zero_add];exact atI_nat ev2
   refine ⟨_,rfl,_,rfl,lf,_,_,_,rfl,rfl,SqL.of hF,a1,_,_,_,_,rfl,(fun u h=>h),TyOf.tup ht1,T.k_tuple_tuple,_,rfl,iteF ?_⟩
   refine ⟨_,rfl,_,rfl,lf,_,_,_,rfl,rfl,SqL.of hF,a1,t1,_,rfl,.inr (SqT.of ht1),rfl,_,rfl,?_⟩
   refine iteNS rfl ?_
   refine ⟨_,rfl,_,rfl,lf,_,_,_,rfl,rfl,SqL.of hF,a1,_,rfl,_,rfl,ld,_,_,_,rfl,rfl,hD,a2,t1,t2,_,_,rfl,rfl,SqT.of ht1,SqT.of ht2,rfl,rfl,_,rfl,c6 ?_ ⟨_,rfl,rfl⟩⟩
   show (!eqVs ([x.1,x.2].map V.str) ([x.1,x.2].map V.str))=false
   rw [eqVs_strs]
   rfl
  ·rintro σ H2 ⟨z2,rfl,rfl⟩
   exact k
def KindIs (a:Ad) (H:Hp) (x:Addr) (t:Str):Prop:=(t = "NoWay"∧∃ fs,XAtD H x a.NoWay fs)∨(t = "OverBound"∧∃ fs,XAtD H x a.OverBound fs)∨(t = "Short"∧∃ fs,XAtD H x a.Short fs)
inductive IspKinds (a:Ad) (vs:List V) (H:Hp) (Q:VK):Prop
 | mk (x:Addr) (t:Str) (h1:vs=[.ref x]) (h2:KindIs a H x t) (h3:∀ l H',H l=none→Same H H'→H' l=some (.lst [.str t])→Q (.ref l) H'):IspKinds a vs H Q
def spKinds (a:Ad):Sp:=fun vs H Q _=>IspKinds a vs H Q
theorem ok_law_kinds (T:TX K mg a):FnB P w K mg base CX0 "_law_kinds" 1 ["_law_e"] (spKinds a):=by
 refine T.d_law_kinds.ok sc_law_kinds (fun vs H Q E h=>?_) (fun f cdv A outer s H vs Q E hr h=>?_)
 ·obtain ⟨x,t,rfl,_⟩:=h
  rfl
 obtain ⟨x,t,rfl,hc,k⟩:=h
 rcases hc with hc | hc | hc
 ·obtain ⟨rfl,fs,hx⟩:=hc
  refine ⟨_,(ae (ar (i:=1) sc_law_kinds.nd rfl (Or.inl rfl) (cB ac))
   (ae (aC (aJ (am (az (c:=.ref a.NoNumber)) (by rfl) T.z_isinstance PyProof.Rows.boot_isinstance (aa (pv 0) (aa (aM (v:=.ref a.NoNumber) (by rfl) T.mg_NoNumber rfl) ac)))) (ai (aI (bf PySem.F.plainAttrs_list PySem.F.slot_list_append PySem.F.type_list_append aF (pv 1) (aa aK ac)))) al)
   (ae (aC (aJ (am (az (c:=.ref a.TooMany)) (by rfl) T.z_isinstance PyProof.Rows.boot_isinstance (aa (pv 0) (aa (aM (v:=.ref a.TooMany) (by rfl) T.mg_TooMany rfl) ac)))) (ai (aI (bf PySem.F.plainAttrs_list PySem.F.slot_list_append PySem.F.type_list_append aF (pv 1) (aa aK ac)))) al)
   (ae (aC (PW.pt (cE (aJ (am (az (c:=.ref a.NoRing)) (by rfl) T.z_isinstance PyProof.Rows.boot_isinstance (aa (pv 0) (aa (aM (v:=.ref a.NoRing) (by rfl) T.mg_NoRing rfl) ac)))) (cE (aJ (am (az (c:=.ref a.NoStrand)) (by rfl) T.z_isinstance PyProof.Rows.boot_isinstance (aa (pv 0) (aa (aM (v:=.ref a.NoStrand) (by rfl) T.mg_NoStrand rfl) ac)))) (du (aJ (am (az (c:=.ref a.NoExchange)) (by rfl) T.z_isinstance PyProof.Rows.boot_isinstance (aa (pv 0) (aa (aM (v:=.ref a.NoExchange) (by rfl) T.mg_NoExchange rfl) ac)))))))) (ai (aI (bf PySem.F.plainAttrs_list PySem.F.slot_list_append PySem.F.type_list_append aF (pv 1) (aa aK ac)))) al)
   (ae (aC (PW.pt (cE (aJ (am (az (c:=.ref a.NoText)) (by rfl) T.z_isinstance PyProof.Rows.boot_isinstance (aa (pv 0) (aa (aM (v:=.ref a.NoText) (by rfl) T.mg_NoText rfl) ac)))) (cE (aJ (am (az (c:=.ref a.NoRow)) (by rfl) T.z_isinstance PyProof.Rows.boot_isinstance (aa (pv 0) (aa (aM (v:=.ref a.NoRow) (by rfl) T.mg_NoRow rfl) ac)))) (du (aJ (am (az (c:=.ref a.Broken)) (by rfl) T.z_isinstance PyProof.Rows.boot_isinstance (aa (pv 0) (aa (aM (v:=.ref a.Broken) (by rfl) T.mg_Broken rfl) ac)))))))) (ai (aI (bf PySem.F.plainAttrs_list PySem.F.slot_list_append PySem.F.type_list_append aF (pv 1) (aa aK ac)))) al)
   (ae (aC (aJ (am (az (c:=.ref a.NoWay)) (by rfl) T.z_isinstance PyProof.Rows.boot_isinstance (aa (pv 0) (aa (aM (v:=.ref a.NoWay) (by rfl) T.mg_NoWay rfl) ac)))) (ai (aI (bf PySem.F.plainAttrs_list PySem.F.slot_list_append PySem.F.type_list_append aF (pv 1) (aa aK ac)))) al)
   (ae (aC (aJ (am (az (c:=.ref a.Twice)) (by rfl) T.z_isinstance PyProof.Rows.boot_isinstance (aa (pv 0) (aa (aM (v:=.ref a.Twice) (by rfl) T.mg_Twice rfl) ac)))) (ai (aI (bf PySem.F.plainAttrs_list PySem.F.slot_list_append PySem.F.type_list_append aF (pv 1) (aa aK ac)))) al)
   (ae (aC (aJ (am (az (c:=.ref a.NoPlace)) (by rfl) T.z_isinstance PyProof.Rows.boot_isinstance (aa (pv 0) (aa (aM (v:=.ref a.NoPlace) (by rfl) T.mg_NoPlace rfl) ac)))) (ai (aI (bf PySem.F.plainAttrs_list PySem.F.slot_list_append PySem.F.type_list_append aF (pv 1) (aa aK ac)))) al)
   (ae (aC (aJ (am (az (c:=.ref a.OverBound)) (by rfl) T.z_isinstance PyProof.Rows.boot_isinstance (aa (pv 0) (aa (aM (v:=.ref a.OverBound) (by rfl) T.mg_OverBound rfl) ac)))) (ai (aI (bf PySem.F.plainAttrs_list PySem.F.slot_list_append PySem.F.type_list_append aF (pv 1) (aa aK ac)))) al)
   (ae (aC (aJ (am (az (c:=.ref a.Short)) (by rfl) T.z_isinstance PyProof.Rows.boot_isinstance (aa (pv 0) (aa (aM (v:=.ref a.Short) (by rfl) T.mg_Short rfl) ac)))) (ai (aI (bf PySem.F.plainAttrs_list PySem.F.slot_list_append PySem.F.type_list_append aF (pv 1) (aa aK ac)))) al)
   (ae (aC (cY (aJ (am (az (c:=.type "ValueError")) (by rfl) T.z_isinstance PyProof.Rows.boot_isinstance (aa (pv 0) (aa (fb (v:=.ty "ValueError") (by rfl) T.z_ValueError dI rfl) ac))))) (ai (aI (bf PySem.F.plainAttrs_list PySem.F.slot_list_append PySem.F.type_list_append aF (pv 1) (aa aK ac)))) al)
   (ai (aw (pv 1)))))))))))))),?_⟩
  try dsimp only [aS,Cx.nox,Cx.wish]
  have ea:=T.exa_NoWay
  refine ⟨by decide,fun l nl=>?_⟩
  have h1:XAtD (upd H l (.lst [])) x a.NoWay fs:=hx.mono (aj nl)
  have h2:XAtD (upd (upd H l (.lst [])) l (.lst ([]++[V.str "NoWay"]))) x a.NoWay fs:=by
   rw [cW]
   exact hx.mono (aj nl)
  walk_at "rd"
  refine ⟨.inl ⟨rfl,_,SqL.of ad⟩,?_⟩
  refine ⟨_,_,_,rfl,rfl,ad,by decide,?_⟩
  walk_at "rd"
  rw [cW]
  exact k l _ nl (aj nl) ad
 ·obtain ⟨rfl,fs,hx⟩:=hc
  refine ⟨_,(ae (ar (i:=1) sc_law_kinds.nd rfl (Or.inl rfl) (cB ac))
   (ae (aC (aJ (am (az (c:=.ref a.NoNumber)) (by rfl) T.z_isinstance PyProof.Rows.boot_isinstance (aa (pv 0) (aa (aM (v:=.ref a.NoNumber) (by rfl) T.mg_NoNumber rfl) ac)))) (ai (aI (bf PySem.F.plainAttrs_list PySem.F.slot_list_append PySem.F.type_list_append aF (pv 1) (aa aK ac)))) al)
   (ae (aC (aJ (am (az (c:=.ref a.TooMany)) (by rfl) T.z_isinstance PyProof.Rows.boot_isinstance (aa (pv 0) (aa (aM (v:=.ref a.TooMany) (by rfl) T.mg_TooMany rfl) ac)))) (ai (aI (bf PySem.F.plainAttrs_list PySem.F.slot_list_append PySem.F.type_list_append aF (pv 1) (aa aK ac)))) al)
   (ae (aC (PW.pt (cE (aJ (am (az (c:=.ref a.NoRing)) (by rfl) T.z_isinstance PyProof.Rows.boot_isinstance (aa (pv 0) (aa (aM (v:=.ref a.NoRing) (by rfl) T.mg_NoRing rfl) ac)))) (cE (aJ (am (az (c:=.ref a.NoStrand)) (by rfl) T.z_isinstance PyProof.Rows.boot_isinstance (aa (pv 0) (aa (aM (v:=.ref a.NoStrand) (by rfl) T.mg_NoStrand rfl) ac)))) (du (aJ (am (az (c:=.ref a.NoExchange)) (by rfl) T.z_isinstance PyProof.Rows.boot_isinstance (aa (pv 0) (aa (aM (v:=.ref a.NoExchange) (by rfl) T.mg_NoExchange rfl) ac)))))))) (ai (aI (bf PySem.F.plainAttrs_list PySem.F.slot_list_append PySem.F.type_list_append aF (pv 1) (aa aK ac)))) al)
   (ae (aC (PW.pt (cE (aJ (am (az (c:=.ref a.NoText)) (by rfl) T.z_isinstance PyProof.Rows.boot_isinstance (aa (pv 0) (aa (aM (v:=.ref a.NoText) (by rfl) T.mg_NoText rfl) ac)))) (cE (aJ (am (az (c:=.ref a.NoRow)) (by rfl) T.z_isinstance PyProof.Rows.boot_isinstance (aa (pv 0) (aa (aM (v:=.ref a.NoRow) (by rfl) T.mg_NoRow rfl) ac)))) (du (aJ (am (az (c:=.ref a.Broken)) (by rfl) T.z_isinstance PyProof.Rows.boot_isinstance (aa (pv 0) (aa (aM (v:=.ref a.Broken) (by rfl) T.mg_Broken rfl) ac)))))))) (ai (aI (bf PySem.F.plainAttrs_list PySem.F.slot_list_append PySem.F.type_list_append aF (pv 1) (aa aK ac)))) al)
   (ae (aC (aJ (am (az (c:=.ref a.NoWay)) (by rfl) T.z_isinstance PyProof.Rows.boot_isinstance (aa (pv 0) (aa (aM (v:=.ref a.NoWay) (by rfl) T.mg_NoWay rfl) ac)))) (ai (aI (bf PySem.F.plainAttrs_list PySem.F.slot_list_append PySem.F.type_list_append aF (pv 1) (aa aK ac)))) al)
   (ae (aC (aJ (am (az (c:=.ref a.Twice)) (by rfl) T.z_isinstance PyProof.Rows.boot_isinstance (aa (pv 0) (aa (aM (v:=.ref a.Twice) (by rfl) T.mg_Twice rfl) ac)))) (ai (aI (bf PySem.F.plainAttrs_list PySem.F.slot_list_append PySem.F.type_list_append aF (pv 1) (aa aK ac)))) al)
   (ae (aC (aJ (am (az (c:=.ref a.NoPlace)) (by rfl) T.z_isinstance PyProof.Rows.boot_isinstance (aa (pv 0) (aa (aM (v:=.ref a.NoPlace) (by rfl) T.mg_NoPlace rfl) ac)))) (ai (aI (bf PySem.F.plainAttrs_list PySem.F.slot_list_append PySem.F.type_list_append aF (pv 1) (aa aK ac)))) al)
   (ae (aC (aJ (am (az (c:=.ref a.OverBound)) (by rfl) T.z_isinstance PyProof.Rows.boot_isinstance (aa (pv 0) (aa (aM (v:=.ref a.OverBound) (by rfl) T.mg_OverBound rfl) ac)))) (ai (aI (bf PySem.F.plainAttrs_list PySem.F.slot_list_append PySem.F.type_list_append aF (pv 1) (aa aK ac)))) al)
   (ae (aC (aJ (am (az (c:=.ref a.Short)) (by rfl) T.z_isinstance PyProof.Rows.boot_isinstance (aa (pv 0) (aa (aM (v:=.ref a.Short) (by rfl) T.mg_Short rfl) ac)))) (ai (aI (bf PySem.F.plainAttrs_list PySem.F.slot_list_append PySem.F.type_list_append aF (pv 1) (aa aK ac)))) al)
   (ae (aC (cY (aJ (am (az (c:=.type "ValueError")) (by rfl) T.z_isinstance PyProof.Rows.boot_isinstance (aa (pv 0) (aa (fb (v:=.ty "ValueError") (by rfl) T.z_ValueError dI rfl) ac))))) (ai (aI (bf PySem.F.plainAttrs_list PySem.F.slot_list_append PySem.F.type_list_append aF (pv 1) (aa aK ac)))) al)
   (ai (aw (pv 1)))))))))))))),?_⟩
  try dsimp only [aS,Cx.nox,Cx.wish]
  have ea:=T.exa_OverBound
  refine ⟨by decide,fun l nl=>?_⟩
  have h1:XAtD (upd H l (.lst [])) x a.OverBound fs:=hx.mono (aj nl)
  have h2:XAtD (upd (upd H l (.lst [])) l (.lst ([]++[V.str "OverBound"]))) x a.OverBound fs:=by
   rw [cW]
   exact hx.mono (aj nl)
  walk_at "rd"
  refine ⟨.inl ⟨rfl,_,SqL.of ad⟩,?_⟩
  refine ⟨_,_,_,rfl,rfl,ad,by decide,?_⟩
  walk_at "rd"
  rw [cW]
  exact k l _ nl (aj nl) ad
 ·obtain ⟨rfl,fs,hx⟩:=hc
  refine ⟨_,(ae (ar (i:=1) sc_law_kinds.nd rfl (Or.inl rfl) (cB ac))
   (ae (aC (aJ (am (az (c:=.ref a.NoNumber)) (by rfl) T.z_isinstance PyProof.Rows.boot_isinstance (aa (pv 0) (aa (aM (v:=.ref a.NoNumber) (by rfl) T.mg_NoNumber rfl) ac)))) (ai (aI (bf PySem.F.plainAttrs_list PySem.F.slot_list_append PySem.F.type_list_append aF (pv 1) (aa aK ac)))) al)
   (ae (aC (aJ (am (az (c:=.ref a.TooMany)) (by rfl) T.z_isinstance PyProof.Rows.boot_isinstance (aa (pv 0) (aa (aM (v:=.ref a.TooMany) (by rfl) T.mg_TooMany rfl) ac)))) (ai (aI (bf PySem.F.plainAttrs_list PySem.F.slot_list_append PySem.F.type_list_append aF (pv 1) (aa aK ac)))) al)
   (ae (aC (PW.pt (cE (aJ (am (az (c:=.ref a.NoRing)) (by rfl) T.z_isinstance PyProof.Rows.boot_isinstance (aa (pv 0) (aa (aM (v:=.ref a.NoRing) (by rfl) T.mg_NoRing rfl) ac)))) (cE (aJ (am (az (c:=.ref a.NoStrand)) (by rfl) T.z_isinstance PyProof.Rows.boot_isinstance (aa (pv 0) (aa (aM (v:=.ref a.NoStrand) (by rfl) T.mg_NoStrand rfl) ac)))) (du (aJ (am (az (c:=.ref a.NoExchange)) (by rfl) T.z_isinstance PyProof.Rows.boot_isinstance (aa (pv 0) (aa (aM (v:=.ref a.NoExchange) (by rfl) T.mg_NoExchange rfl) ac)))))))) (ai (aI (bf PySem.F.plainAttrs_list PySem.F.slot_list_append PySem.F.type_list_append aF (pv 1) (aa aK ac)))) al)
   (ae (aC (PW.pt (cE (aJ (am (az (c:=.ref a.NoText)) (by rfl) T.z_isinstance PyProof.Rows.boot_isinstance (aa (pv 0) (aa (aM (v:=.ref a.NoText) (by rfl) T.mg_NoText rfl) ac)))) (cE (aJ (am (az (c:=.ref a.NoRow)) (by rfl) T.z_isinstance PyProof.Rows.boot_isinstance (aa (pv 0) (aa (aM (v:=.ref a.NoRow) (by rfl) T.mg_NoRow rfl) ac)))) (du (aJ (am (az (c:=.ref a.Broken)) (by rfl) T.z_isinstance PyProof.Rows.boot_isinstance (aa (pv 0) (aa (aM (v:=.ref a.Broken) (by rfl) T.mg_Broken rfl) ac)))))))) (ai (aI (bf PySem.F.plainAttrs_list PySem.F.slot_list_append PySem.F.type_list_append aF (pv 1) (aa aK ac)))) al)
   (ae (aC (aJ (am (az (c:=.ref a.NoWay)) (by rfl) T.z_isinstance PyProof.Rows.boot_isinstance (aa (pv 0) (aa (aM (v:=.ref a.NoWay) (by rfl) T.mg_NoWay rfl) ac)))) (ai (aI (bf PySem.F.plainAttrs_list PySem.F.slot_list_append PySem.F.type_list_append aF (pv 1) (aa aK ac)))) al)
   (ae (aC (aJ (am (az (c:=.ref a.Twice)) (by rfl) T.z_isinstance PyProof.Rows.boot_isinstance (aa (pv 0) (aa (aM (v:=.ref a.Twice) (by rfl) T.mg_Twice rfl) ac)))) (ai (aI (bf PySem.F.plainAttrs_list PySem.F.slot_list_append PySem.F.type_list_append aF (pv 1) (aa aK ac)))) al)
   (ae (aC (aJ (am (az (c:=.ref a.NoPlace)) (by rfl) T.z_isinstance PyProof.Rows.boot_isinstance (aa (pv 0) (aa (aM (v:=.ref a.NoPlace) (by rfl) T.mg_NoPlace rfl) ac)))) (ai (aI (bf PySem.F.plainAttrs_list PySem.F.slot_list_append PySem.F.type_list_append aF (pv 1) (aa aK ac)))) al)
   (ae (aC (aJ (am (az (c:=.ref a.OverBound)) (by rfl) T.z_isinstance PyProof.Rows.boot_isinstance (aa (pv 0) (aa (aM (v:=.ref a.OverBound) (by rfl) T.mg_OverBound rfl) ac)))) (ai (aI (bf PySem.F.plainAttrs_list PySem.F.slot_list_append PySem.F.type_list_append aF (pv 1) (aa aK ac)))) al)
   (ae (aC (aJ (am (az (c:=.ref a.Short)) (by rfl) T.z_isinstance PyProof.Rows.boot_isinstance (aa (pv 0) (aa (aM (v:=.ref a.Short) (by rfl) T.mg_Short rfl) ac)))) (ai (aI (bf PySem.F.plainAttrs_list PySem.F.slot_list_append PySem.F.type_list_append aF (pv 1) (aa aK ac)))) al)
   (ae (aC (cY (aJ (am (az (c:=.type "ValueError")) (by rfl) T.z_isinstance PyProof.Rows.boot_isinstance (aa (pv 0) (aa (fb (v:=.ty "ValueError") (by rfl) T.z_ValueError dI rfl) ac))))) (ai (aI (bf PySem.F.plainAttrs_list PySem.F.slot_list_append PySem.F.type_list_append aF (pv 1) (aa aK ac)))) al)
   (ai (aw (pv 1)))))))))))))),?_⟩
  try dsimp only [aS,Cx.nox,Cx.wish]
  have ea:=T.exa_Short
  refine ⟨by decide,fun l nl=>?_⟩
  have h1:XAtD (upd H l (.lst [])) x a.Short fs:=hx.mono (aj nl)
  have h2:XAtD (upd (upd H l (.lst [])) l (.lst ([]++[V.str "Short"]))) x a.Short fs:=by
   rw [cW]
   exact hx.mono (aj nl)
  walk_at "rd"
  refine ⟨.inl ⟨rfl,_,SqL.of ad⟩,?_⟩
  refine ⟨_,_,_,rfl,rfl,ad,by decide,?_⟩
  walk_at "rd"
  rw [cW]
  exact k l _ nl (aj nl) ad
inductive DueE (a:Ad) (H:Hp) (ps:List (Str × Rat)) (ds:List WD) (A:Str→Rat) (W:Rat):List (Str × Str)→Str→Str→V→Prop
 | way (n:Str) (rest:List (Str × Str)):DueE a H ps ds A W (("way",n)::rest) "NoWay" n .non
 | bound (n:Str) (rest:List (Str × Str)) (v:V) (c:Int × Int) (y:WD):y∈ds→y.nm=n→dF y.hi (A n)=true→DueIs H v c→WB c→vC c=bndB y.hi (A n)→DueE a H ps ds A W (("bound",n)::rest) "OverBound" n v
 | place (n:Str) (rest:List (Str × Str)) (v:V) (c:Int × Int) (i:Nat) (x:Rat):ps[i]?=some (n,x)→DueIs H v c→c.1.natAbs≤2 ^ 900→1≤c.2→c.2.natAbs≤2 ^ 900→vC c=x-cD A ds n→DueE a H ps ds A W (("place",n)::rest) "Short" n v
 | worth (v:V) (c:Int × Int):DueIs H v c→WB c→vC c=W→DueE a H ps ds A W [] "worth" "" v
structure FRel2 (rs:List R7) (ds:List WD) (A:Str→Rat):Prop where
 bn:∀ (k:Nat) (d:WD) (r:R7) (c:Int × Int),ds[k]?=some d→rs[k]?=some r→eu r=some c→vC c=bndB d.hi (A d.nm)
def rowW (r:R7):Rat:=match r.put with | none=>0 | some c=>Rat.divInt c.1 c.2*Rat.divInt r.co.1 r.co.2
theorem others_nil {ds:List WD} {xs:List Str} (h:∀ n∈xs,n∈ds.map (·.nm)):aO ds xs=[]:=by
 unfold aO
 rw [List.filter_eq_nil_iff]
 intro n hn z
 exact of_decide_eq_true z (h n hn)
theorem gZ {ds:List WD}:∀ {xs:List Str} {i:Nat} {n:Str},xs[i]?=some n→¬ n∈ds.map (·.nm)→(∀ (j:Nat) (m:Str),j<i→xs[j]?=some m→m∈ds.map (·.nm))→∃ rest,aO ds xs=n::rest
 | [],i,n,h,_,_=>by simp at h
 | x::xs,0,n,h,hn,_=>by
  cases h
  exact ⟨_,by unfold aO;rw [List.filter_cons_of_pos (by simpa using hn)]⟩
 | x::xs,i+1,n,h,hn,ah=>by
  obtain ⟨rest,e⟩:=gZ (xs:=xs) (i:=i) h hn fun j m hj hm=>ah (j+1) m (by omega) hm
  refine ⟨rest,?_⟩
  have hx:=ah 0 x (by omega) rfl
  unfold aO at e ⊢
  rw [List.filter_cons_of_neg (by simpa using hx)]
  exact e
theorem bounds_nil {A:Str→Rat} {ds:List WD} (h:∀ (j:Nat) (d:WD),ds[j]?=some d→dF d.hi (A d.nm)=false):a7 A ds=[]:=by
 unfold a7
 rw [List.map_eq_nil_iff,List.filter_eq_nil_iff]
 intro d hd z
 obtain ⟨j,hj⟩:=List.mem_iff_getElem?.mp hd
 rw [h j d hj] at z
 cases z
theorem ia {A:Str→Rat}:∀ {ds:List WD} {i:Nat} {d:WD},ds[i]?=some d→dF d.hi (A d.nm)=true→(∀ (j:Nat) (e:WD),j<i→ds[j]?=some e→dF e.hi (A e.nm)=false)→∃ rest,a7 A ds=(("bound":Str),d.nm)::rest
 | [],i,n,h,_,_=>by simp at h
 | x::xs,0,n,h,hn,_=>by
  cases h
  exact ⟨_,by unfold a7;rw [List.filter_cons_of_pos (by simpa using hn)];rfl⟩
 | x::xs,i+1,n,h,hn,ah=>by
  obtain ⟨rest,e⟩:=ia (ds:=xs) (i:=i) h hn fun j m hj hm=>ah (j+1) m (by omega) hm
  refine ⟨rest,?_⟩
  have hx:=ah 0 x (by omega) rfl
  unfold a7 at e ⊢
  rw [List.filter_cons_of_neg (by rw [hx];decide)]
  exact e
theorem places_nil {F:Str→Rat} {ps:List (Str × Rat)} (h:∀ (j:Nat) (z:Str × Rat),ps[j]?=some z→¬ F z.1<z.2):bv F ps=[]:=by
 unfold bv
 rw [List.map_eq_nil_iff,List.filter_eq_nil_iff]
 intro d hd z
 obtain ⟨j,hj⟩:=List.mem_iff_getElem?.mp hd
 exact h j d hj (of_decide_eq_true z)
theorem gX {F:Str→Rat}:∀ {ps:List (Str × Rat)} {i:Nat} {z:Str × Rat},ps[i]?=some z→F z.1<z.2→(∀ (j:Nat) (e:Str × Rat),j<i→ps[j]?=some e→¬ F e.1<e.2)→∃ rest,bv F ps=(("place":Str),z.1)::rest
 | [],i,n,h,_,_=>by simp at h
 | x::xs,0,n,h,hn,_=>by
  cases h
  exact ⟨_,by unfold bv;rw [List.filter_cons_of_pos (by simpa using hn)];rfl⟩
 | x::xs,i+1,n,h,hn,ah=>by
  obtain ⟨rest,e⟩:=gX (ps:=xs) (i:=i) h hn fun j m hj hm=>ah (j+1) m (by omega) hm
  refine ⟨rest,?_⟩
  have hx:=ah 0 x (by omega) rfl
  unfold bv at e ⊢
  rw [List.filter_cons_of_neg (by simpa using hx)]
  exact e
inductive IspLD (K:PySem.W.Frag) (a:Ad) (vs:List V) (H:Hp) (Q:VK):Prop
 | mk (le lr lw ln lq:Addr) (te us tq:List V) (es:List Ent) (rs:List R7) (wn sp:List Str) (ws:List (Int × Int)) (ps:List (Str × Rat)) (ds:List WD) (A:Str→Rat) (h1:vs=[.ref le,.ref lr,.ref lw,.ref ln,.ref lq]) (h2:SqL K H le te) (h3:RowAt EntIs H te es) (h4:es.length≤26) (h5:SqL K H lr us) (h6:RowAt R7Is H us rs) (h7:(∀ r∈rs,R7Ok sp.length r)) (h8:rs.length≤24) (h9:SqL K H lw (wn.map V.str)) (h10:rs.length=wn.length) (h11:SqL K H ln (sp.map V.str)) (h12:sp.length≤12) (h13:SqL K H lq tq) (h14:RowAt DueIs H tq ws) (h15:ws.length=sp.length) (h16:(∀ c∈ws,WB c)) (h17:FRel wn sp rs ws ps ds A) (h18:FRel2 rs ds A) (h19:∀ l H' w n v,H l=none→Same H H'→H' l=some (.lst [.str w,.str n,v])→DueE a H' ps ds A (rs.map rowW).sum (aZ (es.map (·.1)) A ps ds) w n v→Q (.ref l) H'):IspLD K a vs H Q
def spLD (K:PySem.W.Frag) (a:Ad):Sp:=fun vs H Q _=>IspLD K a vs H Q
theorem worth_bits {t d m e:Int} {i:Nat} (h1:t.natAbs≤2 ^ (160+6*i)) (h2:d.natAbs≤2 ^ (6*i)) (h3:m.natAbs≤2 ^ 158) (h4:e.natAbs≤2 ^ 5):(t*e+m*d).natAbs≤2 ^ (160+6*(i+1))∧(d*e).natAbs≤2 ^ (6*(i+1)):=by
 have a1:(t*e).natAbs≤2 ^ (160+6*i+5):=by
  rw [Int.natAbs_mul,Nat.pow_add]
  exact Nat.mul_le_mul h1 h4
 have a2:(m*d).natAbs≤2 ^ (160+6*i+5):=by
  rw [Int.natAbs_mul]
  refine Nat.le_trans (Nat.mul_le_mul h3 h2) ?_
  rw [← Nat.pow_add]
  exact aV (by omega)
 refine ⟨Nat.le_trans (Int.natAbs_add_le _ _) ?_,?_⟩
 ·have:2 ^ (160+6*(i+1))=2 ^ (160+6*i+5)*2:=by rw [show 160+6*(i+1)=160+6*i+5+1 by omega,Nat.pow_succ]
  omega
 ·rw [Int.natAbs_mul]
  refine Nat.le_trans (Nat.mul_le_mul h2 h4) ?_
  rw [← Nat.pow_add]
  exact aV (by omega)
theorem worth_eq {t d x y u v:Int} (hd:d≠0) (hy:y≠0) (hv:v≠0):Rat.divInt (t*(y*v)+x*u*d) (d*(y*v))=Rat.divInt t d+Rat.divInt x y*Rat.divInt u v:=by
 rw [Rat.divInt_mul_divInt,Rat.divInt_add_divInt _ _ hd (Int.mul_ne_zero hy hv)]
theorem WB.over {r:R7} {n:Nat} (ok:R7Ok n r) {c:Int × Int} (h:eu r=some c):WB c:=by
 unfold eu at h
 cases ho:r.put with
 | none=>rw [ho] at h;cases h
 | some x=>
  rw [ho] at h
  have h:(if x.1<0 then some ((0:Int),(1:Int)) else match r.hi with | none=>none | some y=>if y.1*x.2<x.1*y.2 then some y else none)=some c:=h
  split at h
  ·cases h
   exact ⟨Nat.zero_le _,by decide,Nat.one_le_two_pow⟩
  ·cases eh:r.hi with
   | none=>rw [eh] at h;cases h
   | some y=>
    rw [eh] at h
    have h:(if y.1*x.2<x.1*y.2 then some y else none)=some c:=h
    split at h
    ·obtain rfl:y=c:=Option.some.inj h
     obtain ⟨_,h1,h2,h3⟩:=ok.hi y eh
     exact ⟨Nat.le_trans h1 (aV (by decide)),h2,Nat.le_trans (show y.2.natAbs≤100 by omega) (Nat.le_trans (show 100≤2 ^ 7 by decide) (aV (by decide)))⟩
    ·cases h
theorem ok_law_due (T:TX K mg a):FnB P w K mg base CX0 "_law_due" 3 ["_law_entries_here","_law_rows","_law_ways","_law_names","_law_wants_here"] (spLD K a):=by
 refine T.d_law_due.ok sc_law_due (fun vs H Q E h=>?_) (fun f cdv A' outer s H vs Q E hr h=>?_)
 ·obtain ⟨_,_,_,_,_,_,_,_,_,_,_,_,_,_,_,_,rfl,_⟩:=h
  rfl
 ·obtain ⟨le,lr,lw,ln,lq,te,us,tq,es,rs,wn,sp,ws,ps,ds,A,rfl,hE,hes,l26,hR,hr7,ok,l24,hW,lrw,hN,l12,hQ,hws,lws,wok,fr,fr2,k⟩:=h
  refine ⟨_,(ae (bu PassesOwn.never rfl (bH (pv 0)) (gv rfl (aQ (aA (i:=5) sc_law_due.nd rfl (Or.inl rfl)) (aQ (aA (i:=6) sc_law_due.nd rfl (Or.inl rfl)) dN))) (ai (aC (ax g5 (pv 5) (pv 2) (by with_unfolding_all rfl)) (ai (aw (cB (aa aK (aa (pv 5) (aa br ac)))))) al)))
   (ae (bu PassesOwn.never rfl (bo rfl T.z_range (aa (am a0 (by rfl) T.z_len PySem.boot_len (aa (pv 1) ac)) ac)) (aA (i:=7) sc_law_due.nd rfl (Or.inl rfl)) (ai (aC (ax cF (aG (ok_law_over T) hr aq (aa (au ay (pv 1) (pv 7) (fun _ _=>rfl)) ac)) br (aD _)) (ai (aw (cB (aa aK (aa (au ay (pv 2) (pv 7) (fun _ _=>rfl)) (aa (aG (ok_law_over T) hr aq (aa (au ay (pv 1) (pv 7) (fun _ _=>rfl)) ac)) ac)))))) al)))
   (ae (ar (i:=8) sc_law_due.nd rfl (Or.inl rfl) (aG (eC T) hr aq (aa (pv 1) (aa (am a0 (by rfl) T.z_len PySem.boot_len (aa (pv 3) ac)) ac))))
   (ae (bu PassesOwn.never rfl (bo rfl T.z_range (aa (am a0 (by rfl) T.z_len PySem.boot_len (aa (pv 3) ac)) ac)) (aA (i:=7) sc_law_due.nd rfl (Or.inl rfl)) (ae (ar (i:=9) sc_law_due.nd rfl (Or.inl rfl) (aG (cR T) hr aq (aa (au ay (pv 4) (pv 7) (fun _ _=>rfl)) (aa (aR (aa (ao fL af (au aB (au ay (pv 8) (pv 7) (fun _ _=>rfl)) af (fun _ _=>rfl))) (aa (au aB (au ay (pv 8) (pv 7) (fun _ _=>rfl)) af (fun _ _=>rfl)) ac))) ac))))
   (ai (aC (ax op_gt (au aB (pv 9) af (fun _ _=>rfl)) af (aD _)) (ai (aw (cB (aa aK (aa (au ay (pv 3) (pv 7) (fun _ _=>rfl)) (aa (pv 9) ac)))))) al))))
   (ae (ar (i:=10) sc_law_due.nd rfl (Or.inl rfl) (aR (aa af (aa af ac))))
   (ae (bu PassesOwn.never rfl (bH (pv 1)) (aA (i:=11) sc_law_due.nd rfl (Or.inl rfl)) (ai (aC (ax cF (au aB (pv 11) af (fun _ _=>rfl)) br (aD _)) (ai (ar (i:=10) sc_law_due.nd rfl (Or.inl rfl) (aG (cR T) hr aq (aa (pv 10) (aa (aG (g7 T) hr aq (aa (au aB (pv 11) af (fun _ _=>rfl)) (aa (au aB (pv 11) af (fun _ _=>rfl)) ac))) ac))))) al)))
   (ai (aw (cB (aa aK (aa aK (aa (pv 10) ac)))))))))))),?_⟩
  try dsimp only [aS,Cx.nox,Cx.wish]
  have lus:us.length=rs.length:=hr7.1
  have lds:ds.length=wn.length:=by rw [← fr.nm,List.length_map]
  refine ⟨_,rfl,le,rfl,⟨_,hE⟩,bO (K:=K) (a:=le) (xs:=te) (fun i σ H2=>i≤es.length∧∃ z5 z6,σ=[some (.ref le),some (.ref lr),some (.ref lw),some (.ref ln),some (.ref lq),z5,z6,none,none,none,none,none]∧H2=H∧∀ (j:Nat) (m:Str),j<i→(es.map (·.1))[j]?=some m→m∈ds.map (·.nm)) ⟨Nat.zero_le _,_,_,rfl,rfl,fun j m h=>absurd h (Nat.not_lt_zero _)⟩ (fun i σ H2 _ ⟨_,_,_,_,e,_⟩=>by rw [e];exact hE) ?_ ?_⟩
  ·rintro i x σ H2 hx ⟨_,z5,z6,rfl,rfl,ah⟩
   obtain ⟨e,ee,t',vp,rfl,h1,p,rfl,hp⟩:=hes.get hx
   have hi:i<es.length:=(List.getElem?_eq_some_iff.mp ee).1
   have en:(es.map (·.1))[i]?=some e.1:=by rw [List.getElem?_map,ee];rfl
   refine ⟨t',[.str e.1,.ref p],rfl,SqT.of h1,rfl,.str e.1,[.ref p],rfl,⟨.ref p,[],rfl,⟨rfl,?_⟩⟩⟩
   refine ⟨_,rfl,_,rfl,lw,_,rfl,.inl hW,rfl,eU _,_,rfl,?_⟩
   by_cases hin:e.1∈wn
   ·refine c6 (show (!inV _ _)=false by rw [fe,decide_eq_true hin];rfl) ?_
    refine ⟨hi,_,_,rfl,rfl,fun j m hj hm=>?_⟩
    by_cases e0:j=i
    ·subst e0
     rw [en] at hm
     cases hm
     rw [fr.nm]
     exact hin
    ·exact ah j m (by omega) hm
   ·refine fA (show (!inV _ _)=true by rw [fe,decide_eq_false hin];rfl) ?_
    refine ⟨_,rfl,by show 3≤sizeLine;decide,fun l nl=>?_⟩
    obtain ⟨rest,er⟩:=gZ en (by rw [fr.nm];exact hin) ah
    refine k l _ "NoWay" e.1 .non nl (aj nl) ad ?_
    unfold aZ
    rw [er]
    exact .way _ _
  rintro σ H2 ⟨_,z5,z6,rfl,rfl,ah⟩
  have o1:aO ds (es.map (·.1))=[]:=others_nil fun n hn=>by
   obtain ⟨j,hj⟩:=List.mem_iff_getElem?.mp hn
   exact ah j n (by have:=(List.getElem?_eq_some_iff.mp hj).1;rw [hes.1];rw [List.length_map] at this;exact this) hj
  have ef:aZ (es.map (·.1)) A ps ds=a7 A ds++bv (cD A ds) ps:=by unfold aZ;rw [o1];rfl
  rw [ef] at k
  refine ⟨_,rfl,lr,_,rfl,.inl hR,_,rfl,by omega,by omega,dA (n:=us.length) (fun i σ H3=>i≤rs.length∧∃ z7,σ=[some (.ref le),some (.ref lr),some (.ref lw),some (.ref ln),some (.ref lq),z5,z6,z7,none,none,none,none]∧Same H2 H3∧∀ (j:Nat) (d:WD),j<i→ds[j]?=some d→dF d.hi (A d.nm)=false) ⟨Nat.zero_le _,_,rfl,Same.refl _,fun j m h=>absurd h (Nat.not_lt_zero _)⟩ ?_ ?_⟩
  ·rintro i σ H3 hi ⟨_,z7,rfl,s3,bh⟩
   have hi':i<rs.length:=by omega
   have er:rs[i]?=some rs[i]:=List.getElem?_eq_getElem hi'
   have ed:ds[i]?=some (ds[i]'(by omega)):=List.getElem?_eq_getElem (by omega)
   generalize rs[i]=r at er
   generalize ds[i]'(by omega)=dd at ed
   have okr:=ok r (List.mem_of_getElem? er)
   have ew:wn[i]?=some dd.nm:=by rw [← fr.nm,List.getElem?_map,ed];rfl
   have ov:=fr.ov i dd r ed er
   obtain ⟨tv,etv,htv⟩:=hr7.get' er
   have a1:atI us (0+(i:Int))=some tv:=by rw [Int.zero_add];exact atI_nat etv
   have a2:atI (wn.map V.str) (0+(i:Int))=some (.str dd.nm):=by rw [Int.zero_add];exact eJ ew
   refine ⟨_,rfl,_,rfl,lr,_,_,_,rfl,rfl,s3.seq hR,a1,tv,r,sp.length,rfl,htv.mono s3,okr,fun v H4 s4 hv=>?_⟩
   cases eo:eu r with
   | none=>
    rw [eo] at hv ov
    obtain rfl:v=.non:=hv
    refine ⟨rfl,_,rfl,iteF ?_⟩
    refine ⟨hi',_,rfl,s3.trans s4,fun j e hj he=>?_⟩
    by_cases e0:j=i
    ·subst e0
     rw [ed] at he
     cases he
     exact ov
    ·exact bh j e (by omega) he
   | some c=>
    rw [eo] at hv ov
    obtain ⟨pv,rfl,hpv⟩:=hv
    refine ⟨rfl,_,rfl,iteT ?_⟩
    have s24:=s3.trans s4
    refine ⟨_,rfl,_,rfl,lw,_,_,_,rfl,rfl,s24.seq hW,a2,_,rfl,_,rfl,lr,_,_,_,rfl,rfl,s24.seq hR,a1,tv,r,sp.length,rfl,htv.mono s24,okr,fun v2 H5 s5 hv2=>?_⟩
    rw [eo] at hv2
    refine ⟨by show 3≤sizeLine;decide,fun l nl=>?_⟩
    obtain ⟨rest,e1⟩:=ia ed ov bh
    have s25:=s24.trans s5
    have s6:=aj (o:=.lst [.str "OverBound",.str dd.nm,v2]) nl
    refine k l _ "OverBound" dd.nm v2 (s25.free nl) (s25.trans s6) ad ?_
    rw [e1]
    exact .bound _ _ v2 c dd (List.mem_of_getElem? ed) rfl ov (DueIs.mono hv2 s6) (WB.over okr eo) (fr2.bn i dd r c ed er eo)
  rintro σ H3 ⟨_,z7,rfl,s3,bh⟩
  have o2:a7 A ds=[]:=bounds_nil fun j d hj=>bh j d (by have:=(List.getElem?_eq_some_iff.mp hj).1;omega) hj
  rw [o2,List.nil_append] at k
  have eN:((sp.map V.str).length:Nat)=sp.length:=List.length_map ..
  refine ⟨_,rfl,_,rfl,ln,_,rfl,.inl (s3.seq hN),lr,(sp.map V.str).length,us,rs,rfl,by rw [eN];exact l12,s3.seq hR,hr7.mono (fun v x z=>z.mono s3),by rw [eN];exact ok,l24,fun pf H4 tf cs npf s4 hpf hcs lcs hcv=>?_⟩
  rw [eN] at lcs
  have s24:=s3.trans s4
  refine ⟨_,rfl,ln,_,rfl,.inl (s24.seq hN),_,rfl,by omega,by omega,dA (n:=(sp.map V.str).length) (fun i σ H5=>i≤sp.length∧∃ z7 z9,σ=[some (.ref le),some (.ref lr),some (.ref lw),some (.ref ln),some (.ref lq),z5,z6,z7,some (.ref pf),z9,none,none]∧Same H4 H5∧∀ (j:Nat) (e:Str × Rat),j<i→ps[j]?=some e→¬ cD A ds e.1<e.2) ⟨Nat.zero_le _,_,_,rfl,Same.refl _,fun j m h=>absurd h (Nat.not_lt_zero _)⟩ ?_ ?_⟩
  ·rintro i σ H5 hi ⟨_,z7',z9,rfl,s5,ph⟩
   have hi':i<sp.length:=by omega
   have e1:sp[i]?=some sp[i]:=List.getElem?_eq_getElem hi'
   have e2:ws[i]?=some (ws[i]'(by omega)):=List.getElem?_eq_getElem (by omega)
   have e3:cs[i]?=some (cs[i]'(by omega)):=List.getElem?_eq_getElem (by omega)
   generalize sp[i]=y at e1
   generalize ws[i]'(by omega)=x at e2
   generalize cs[i]'(by omega)=c at e3
   have ep:ps[i]?=some (y,vC x):=by rw [fr.ps,List.getElem?_zip_eq_some];exact ⟨e1,by rw [List.getElem?_map,e2];rfl⟩
   obtain ⟨u1,eu1,p1,rfl,hp1⟩:=hcs.get' e3
   obtain ⟨u2,eu2,p2,rfl,hp2⟩:=hws.get' e2
   obtain ⟨c1,c2,c3,c4⟩:=hcv i c e3
   have wx:=wok x (List.mem_of_getElem? e2)
   have a1:atI tf (0+(i:Int))=some (.ref p1):=by rw [Int.zero_add];exact atI_nat eu1
   have a2:atI tq (0+(i:Int))=some (.ref p2):=by rw [Int.zero_add];exact atI_nat eu2
   have a3:atI (sp.map V.str) (0+(i:Int))=some (.str y):=by rw [Int.zero_add];exact eJ e1
   have s25:=s24.trans s5
   have hp15:=s5 _ _ hp1
   refine ⟨_,rfl,_,rfl,lq,_,_,_,rfl,rfl,s25.seq hQ,a2,_,rfl,_,rfl,pf,_,_,_,rfl,rfl,SqL.of (s5 _ _ hpf),a1,p1,_,_,_,rfl,rfl,SqT.of hp15,rfl,_,_,rfl,rfl,_,rfl,_,rfl,pf,_,_,_,rfl,rfl,SqL.of (s5 _ _ hpf),a1,p1,_,_,_,rfl,rfl,SqT.of hp15,rfl,by show 2≤sizeLine;decide,fun t nt=>?_⟩
   have s6:=aj (o:=.tup [.int (0-c.1),.int c.2]) nt
   have ht:upd H5 t (.tup [.int (0-c.1),.int c.2]) t=some (.tup [.int (0-c.1),.int c.2]):=ad
   generalize upd H5 t (.tup [.int (0-c.1),.int c.2])=H6 at s6 ht ⊢
   have nc:(0-c.1).natAbs≤2 ^ 400:=by rw [Int.zero_sub,Int.natAbs_neg];exact c1
   refine ⟨p2,t,_,_,_,_,rfl,(s25.trans s6) _ _ hp2,ht,wx.sm.1,wx.sm.2,Sm.of_le nc (by decide),Sm.of_le c2 (by decide),fun q nq=>?_⟩
   have s7:=aj (o:=.tup [.int (x.1*c.2+(0-c.1)*x.2),.int (x.2*c.2)]) nq
   have hq:upd H6 q (.tup [.int (x.1*c.2+(0-c.1)*x.2),.int (x.2*c.2)]) q=some (.tup [.int (x.1*c.2+(0-c.1)*x.2),.int (x.2*c.2)]):=ad
   generalize upd H6 q (.tup [.int (x.1*c.2+(0-c.1)*x.2),.int (x.2*c.2)])=H7 at s7 hq ⊢
   have s57:=s6.trans s7
   have s27:=s25.trans s57
   have xb:=wx.b2
   have eM:(0-c.1)*x.2 = -(c.1*x.2):=by rw [Int.sub_mul,Int.zero_mul,Int.zero_sub]
   have lt:cD A ds y<vC x↔0<x.1*c.2+(0-c.1)*x.2:=by
    rw [fr.su i y e1,← c4,eM]
    refine (lt_div (by omega) (by omega)).trans ?_
    omega
   refine ⟨_,rfl,q,_,_,_,rfl,rfl,SqT.of hq,rfl,_,_,rfl,rfl,_,rfl,ifB (fun h1=>?_) (fun h1=>?_)⟩
   ·refine ⟨_,rfl,_,rfl,ln,_,_,_,rfl,rfl,s27.seq hN,a3,_,rfl,by show 3≤sizeLine;decide,fun l nl=>?_⟩
    obtain ⟨rest,er⟩:=gX ep (lt.mpr h1) ph
    have s8:=aj (o:=.lst [.str "Short",.str y,.ref q]) nl
    refine k l _ "Short" y (.ref q) (s27.free nl) (s27.trans s8) ad ?_
    rw [er]
    refine .place _ _ _ (x.1*c.2+(0-c.1)*x.2,x.2*c.2) i (vC x) ep ⟨q,rfl,s8 _ _ hq⟩ ?_ (Int.mul_pos (by omega) (by omega)) ?_ ?_
    ·have m1:(x.1*c.2).natAbs≤2 ^ (420+400):=by rw [Int.natAbs_mul,Nat.pow_add];exact Nat.mul_le_mul wx.b1 c2
     have m2:((0-c.1)*x.2).natAbs≤2 ^ (400+420):=by rw [Int.natAbs_mul,Nat.pow_add];exact Nat.mul_le_mul nc wx.b3
     refine Nat.le_trans (Int.natAbs_add_le _ _) (Nat.le_trans (Nat.add_le_add m1 m2) ?_)
     exact Nat.le_trans (show 2 ^ 820+2 ^ 820≤2 ^ 821 by rw [show 2 ^ 821=2 ^ 820*2 from Nat.pow_add 2 820 1];omega) (aV (by decide))
    ·rw [Int.natAbs_mul]
     exact Nat.le_trans (Nat.mul_le_mul wx.b3 c2) (by rw [← Nat.pow_add];exact aV (by decide))
    ·rw [fr.su i y e1,← c4,eM]
     show Rat.divInt _ _=Rat.divInt _ _-Rat.divInt _ _
     rw [Rat.divInt_sub_divInt _ _ (by omega) (by omega)]
     rfl
   ·refine ⟨hi',_,_,rfl,s5.trans s57,fun j e hj he=>?_⟩
    by_cases e0:j=i
    ·subst e0
     rw [ep] at he
     cases he
     exact fun z=>h1 (lt.mp z)
    ·exact ph j e (by omega) he
  rintro σ H5 ⟨_,z7',z9,rfl,s5,ph⟩
  have o3:bv (cD A ds) ps=[]:=places_nil fun j e hj=>ph j e (by
   have:=(List.getElem?_eq_some_iff.mp hj).1
   rw [fr.ps,List.length_zip,List.length_map] at this
   omega) hj
  rw [o3] at k
  have s25:=s24.trans s5
  refine ⟨by show 2≤sizeLine;decide,fun t0 n0=>?_⟩
  have s6:=aj (o:=.tup [.int 0,.int 1]) n0
  have h0:upd H5 t0 (.tup [.int 0,.int 1]) t0=some (.tup [.int 0,.int 1]):=ad
  generalize upd H5 t0 (.tup [.int 0,.int 1])=H6 at s6 h0 ⊢
  have s26:=s25.trans s6
  refine ⟨_,rfl,lr,rfl,⟨_,s26.seq hR⟩,bO (K:=K) (a:=lr) (xs:=us) (fun i σ H7=>i≤rs.length∧∃ (t:Addr) (c:Int × Int) (z11:Option V),σ=[some (.ref le),some (.ref lr),some (.ref lw),some (.ref ln),some (.ref lq),z5,z6,z7',some (.ref pf),z9,some (.ref t),z11]∧Same H2 H7∧H7 t=some (.tup [.int c.1,.int c.2])∧c.1.natAbs≤2 ^ (160+6*i)∧c.2.natAbs≤2 ^ (6*i)∧1≤c.2∧Rat.divInt c.1 c.2=((rs.take i).map rowW).sum) ⟨Nat.zero_le _,t0,(0,1),_,rfl,s26,h0,Nat.zero_le _,by show (1:Int).natAbs≤_;decide,by show (1:Int)≤1;decide,by show Rat.divInt 0 1=_;rw [Rat.zero_divInt];rfl⟩ (fun i σ H7 _ ⟨_,_,_,_,_,s7,_⟩=>s7.seq hR) ?_ ?_⟩
  ·rintro i x σ H7 hx ⟨_,t,c,z11,rfl,s7,ht,b1,b2,b3,eq⟩
   obtain ⟨r,er,hr1⟩:=hr7.get hx
   have hi:=(List.getElem?_eq_some_iff.mp er).1
   have okr:=ok r (List.mem_of_getElem? er)
   have tk:rs.take (i+1)=rs.take i++[r]:=by rw [List.take_add_one,er];rfl
   obtain ⟨p,vg,vp,vh,vc,rfl,hp,_,hpt,_,⟨pc,rfl,hc⟩⟩:=hr1.mono s7
   have sq:=SqT.of (K:=K) hp
   cases ho:r.put with
   | none=>
    rw [ho] at hpt
    obtain rfl:vp=.non:=hpt
    refine ⟨_,rfl,p,_,_,_,rfl,rfl,sq,rfl,rfl,_,rfl,iteF ?_⟩
    refine ⟨hi,t,c,_,rfl,s7,ht,Nat.le_trans b1 (aV (by omega)),Nat.le_trans b2 (aV (by omega)),b3,?_⟩
    rw [tk,List.map_append,List.map_cons,List.map_nil,sum_snocR,eq]
    have:rowW r=0:=by unfold rowW;rw [ho]
    rw [this]
    grind
   | some q=>
    rw [ho] at hpt
    obtain ⟨pq,rfl,hq⟩:=hpt
    obtain ⟨q1,q2,q3⟩:=okr.pt q ho
    obtain ⟨c1,c2,c3⟩:=okr.co
    refine ⟨_,rfl,p,_,_,_,rfl,rfl,sq,rfl,rfl,_,rfl,iteT ?_⟩
    have m1:(q.1*r.co.1).natAbs≤2 ^ 158:=by
     rw [Int.natAbs_mul]
     refine Nat.le_trans (Nat.mul_le_mul q1 (Nat.le_trans c3 (show 100≤2 ^ 7 by decide))) ?_
     rw [← Nat.pow_add]
     exact aV (by decide)
    have m2:(q.2*r.co.2).natAbs≤2 ^ 5:=by
     rw [Int.natAbs_mul]
     refine Nat.le_trans (Nat.mul_le_mul (show q.2.natAbs≤6 by omega) (show r.co.2.natAbs≤4 by omega)) (by decide)
    have m3:1≤q.2*r.co.2:=Int.mul_pos (by omega) (by omega)
    refine ⟨_,rfl,_,rfl,p,_,_,_,rfl,rfl,sq,rfl,_,rfl,p,_,_,_,rfl,rfl,sq,rfl,pq,pc,_,_,_,_,rfl,hq,hc,Sm.of_le q1 (by decide),Sm.of_le (n:=10) (by omega) (by decide),Sm.of_le (n:=10) (by omega) (by decide),Sm.of_le (n:=10) (by omega) (by decide),fun u nu=>?_⟩
    have s8:=aj (o:=.tup [.int (q.1*r.co.1),.int (q.2*r.co.2)]) nu
    have hu:upd H7 u (.tup [.int (q.1*r.co.1),.int (q.2*r.co.2)]) u=some (.tup [.int (q.1*r.co.1),.int (q.2*r.co.2)]):=ad
    generalize upd H7 u (.tup [.int (q.1*r.co.1),.int (q.2*r.co.2)])=H8 at s8 hu ⊢
    refine ⟨t,u,_,_,_,_,rfl,s8 _ _ ht,hu,Sm.of_le b1 (by omega),Sm.of_le b2 (by omega),Sm.of_le m1 (by decide),Sm.of_le m2 (by decide),fun v nv=>?_⟩
    obtain ⟨w1,w2⟩:=worth_bits b1 b2 m1 m2
    refine ⟨hi,v,(c.1*(q.2*r.co.2)+q.1*r.co.1*c.2,c.2*(q.2*r.co.2)),_,rfl,(s7.trans s8).trans (aj nv),ad,w1,w2,Int.mul_pos (by omega) (by omega),?_⟩
    rw [tk,List.map_append,List.map_cons,List.map_nil,sum_snocR,← eq]
    have:rowW r=Rat.divInt q.1 q.2*Rat.divInt r.co.1 r.co.2:=by unfold rowW;rw [ho]
    rw [this]
    exact worth_eq (by omega) (by omega) (by omega)
  ·rintro σ H7 ⟨_,t,c,z11,rfl,s7,ht,b1,b2,b3,eq⟩
   rw [hr7.1] at b1 b2 eq
   rw [List.take_length] at eq
   refine ⟨_,rfl,by show 3≤sizeLine;decide,fun l nl=>?_⟩
   have s8:=aj (o:=.lst [.str "worth",.str "",.ref t]) nl
   exact k l _ "worth" "" (.ref t) (s7.free nl) (s7.trans s8) ad (.worth _ c ⟨t,rfl,s8 _ _ ht⟩ ⟨Nat.le_trans b1 (aV (by omega)),b3,Nat.le_trans b2 (aV (by omega))⟩ eq)
theorem gc {ds:List WD} {ks:List Str} (h:aO ds ks=[]):∀ m∈ks,m∈ds.map (·.nm):=fun m hm=>by
 unfold aO at h
 rw [List.filter_eq_nil_iff] at h
 have:=h m hm
 simpa using this
theorem sub_of_place {ds:List WD} {ks:List Str} {A:Str→Rat} {ps:List (Str × Rat)} {n:Str} {rest:List (Str × Str)} (h:aZ ks A ps ds=(("place":Str),n)::rest):∀ m∈ks,m∈ds.map (·.nm):=by
 refine gc ?_
 unfold aZ at h
 cases e:aO ds ks with
 | nil=>rfl
 | cons x r=>
  rw [e] at h
  have:(("way":Str),x)=(("place":Str),n):=(List.cons.inj h).1
  exact absurd (congrArg Prod.fst this) (show ¬ (("way":Str) = "place") by decide)
theorem sub_of_nil {ds:List WD} {ks:List Str} {A:Str→Rat} {ps:List (Str × Rat)} (h:aZ ks A ps ds=[]):∀ m∈ks,m∈ds.map (·.nm):=by
 refine gc ?_
 unfold aZ at h
 cases e:aO ds ks with
 | nil=>rfl
 | cons x r=>rw [e] at h;cases h
theorem bd_pair {c:Int × Int} {n:Nat} (h1:c.1.natAbs≤2 ^ n) (h3:c.2.natAbs≤2 ^ n) (hn:n<9000):SmR (vC c)∧Sm c.1∧Sm c.2:=⟨(Bd.divInt h1 h3).smr hn,Sm.of_le h1 hn,Sm.of_le h3 hn⟩
inductive IspMeets (a:Ad) (vs:List V) (H:Hp) (Q:VK):Prop
 | mk (np d ld:Addr) (ps:List (Str × Rat)) (ds:List WD) (kvs:List (Key × V)) (ks:List Str) (f co:Str→Rat) (N:Nat) (W:Rat) (t n:Str) (v:V) (h1:vs=[.ref np,.ref d,.ref ld]) (h2:FltOk a H np d ps ds kvs ks f) (h3:H ld=some (.lst [.str t,.str n,v])) (h4:DueE a H ps ds (cb ks f) W (aZ ks (cb ks f) ps ds) t n v) (h5:n.length≤1000) (h6:(∀ x∈ds,x.co=co x.nm)) (h7:(aZ ks (cb ks f) ps ds=[]→(∀ n∈ks,SmR (f n)∧SmR (co n))∧BdS (ks.map fun n=>co n*f n) N∧W=(ks.map fun n=>co n*f n).sum)) (h8:N<9000) (h9:∀ H',Same H H'→Q (.bl true) H'):IspMeets a vs H Q
def spMeets (a:Ad):Sp:=fun vs H Q _=>IspMeets a vs H Q
theorem ok_law_meets (T:TX K mg a):FnB P w K mg base CX0 "_law_meets" 15 ["_law_net","_law_plan_here","_law_due_here"] (spMeets a):=by
 refine T.d_law_meets.ok sc_law_meets (fun vs H Q E h=>?_) (fun f cdv A' outer s₀ H vs Q E hr h=>?_)
 ·obtain ⟨_,_,_,_,_,_,_,_,_,_,_,_,_,_,rfl,_⟩:=h
  rfl
 ·obtain ⟨np,d,ld,ps,ds,kvs,ks,f,co,N,W,t,n,v,rfl,ok,hld,due,ln,hco,hw,hN,k⟩:=h
  refine ⟨_,(ae (ar (i:=3) sc_law_meets.nd rfl (Or.inl rfl) br)
   (ae (ar (i:=4) sc_law_meets.nd rfl (Or.inl rfl) br)
   (aN (ps_try (pssx_one (psx_set (i:=4) sc_law_meets.nd rfl (Or.inl rfl) (px_or (px_fn (ok_checkedX T) hr (aa (pv 0) (aa (pv 1) ac))) (px_fn (ok_checked T) hr (aa (pv 0) (aa (pv 1) ac)))))) (ph_as (i:=5) (by rfl) T.mg_GainError ⟨T.ca1_GainError,T.ca2_GainError,T.ca3_GainError⟩ sc_law_meets.nd rfl rfl (fun x=>(ai (ar (i:=3) sc_law_meets.nd rfl (Or.inl rfl) (pv 5)))) ph_never))
   (ae (aC (ax op_isN (pv 3) br (aD _)) (ai (aw (gx (e9 cA (au ay (pv 2) af (fun _ _=>rfl)) aK (aD _)) (pe_one (aG (fW T) hr aq (aa (pv 4) (aa (au aB (au ay (pv 2) af (fun _ _=>rfl)) af (fun _ _=>rfl)) (aa (au aB (au ay (pv 2) af (fun _ _=>rfl)) af (fun _ _=>rfl)) ac)))))))) al)
   (ae (aC (ax (op_neL hr.units0) (aG (ok_law_kinds T) hr aq (aa (pv 3) ac)) (cB (aa (au ay (pv 2) af (fun _ _=>rfl)) ac)) (aD _)) (ai (aw fu)) al)
   (ae (aC (ax cA (au ay (pv 2) af (fun _ _=>rfl)) aK (aD _)) (ai (aw (e9 cA (gY (pv 3) rfl) (au ay (pv 2) af (fun _ _=>rfl)) (aD _)))) al)
   (ae (aC (ax cA (au ay (pv 2) af (fun _ _=>rfl)) aK (aD _)) (ai (aw (gx (e9 cA (gY (pv 3) rfl) (au ay (pv 2) af (fun _ _=>rfl)) (aD _)) (pe_one (aG (fW T) hr aq (aa (gY (pv 3) rfl) (aa (au aB (au ay (pv 2) af (fun _ _=>rfl)) af (fun _ _=>rfl)) (aa (au aB (au ay (pv 2) af (fun _ _=>rfl)) af (fun _ _=>rfl)) ac)))))))) al)
   (ai (aw (gx (e9 cA (au ay (pv 2) af (fun _ _=>rfl)) aK (aD _)) (gx (e9 cA (gY (pv 3) rfl) (au ay (pv 2) af (fun _ _=>rfl)) (aD _)) (pe_one (aG (fW T) hr aq (aa (gY (pv 3) rfl) (aa (au aB (au ay (pv 2) af (fun _ _=>rfl)) af (fun _ _=>rfl)) (aa (au aB (au ay (pv 2) af (fun _ _=>rfl)) af (fun _ _=>rfl)) ac)))))))))))))))),?_⟩
  try dsimp only [aS,Cx.nox,Cx.wish]
  generalize hA:cb ks f=A at due hw
  generalize hF:aZ ks A ps ds=F at due hw
  cases due with
  | way n rest=>
   refine ⟨fun σ' H'=>∃ x dx,σ'=[some (.ref np),some (.ref d),some (.ref ld),some (.ref x),some .non,none]∧Same H H'∧H' x=some (XO x a.NoWay (some dx))∧H' dx=some (.xd [("name",.str n)]),?_,?_⟩
   ·refine .inl ⟨_,rfl,_,rfl,np,d,ps,ds,kvs,ks,f,"way",n,rest,rfl,ok,by rw [hA];exact hF,ln,.inl ⟨rfl,fun H1 dx s1 hdx=>?_⟩⟩
    refine ⟨_,_,rfl,T.su_NoWay_GainError,iteT fun x nx=>?_⟩
    exact ⟨_,rfl,x,dx,rfl,s1.trans (aj nx),ad,aj nx _ _ hdx⟩
   rintro σ' H1 ⟨x,dx,rfl,s1,hx,hdx⟩
   have hl1:=s1 _ _ hld
   refine ⟨_,rfl,rfl,_,rfl,iteF ?_⟩
   refine ⟨_,rfl,x,"NoWay",rfl,.inl ⟨rfl,_,dx,hx,hdx⟩,fun l2 H2 nl2 s2 hl2=>?_⟩
   refine ⟨_,rfl,ld,_,_,_,rfl,rfl,SqL.of (s2 _ _ hl1),rfl,by show 1≤sizeLine;decide,fun l3 nl3=>?_⟩
   have s3:=aj (o:=.lst [.str "NoWay"]) nl3
   have hl3:upd H2 l3 (.lst [.str "NoWay"]) l3=some (.lst [.str "NoWay"]):=ad
   generalize upd H2 l3 (.lst [.str "NoWay"])=H3 at s3 hl3 ⊢
   have s23:=s2.trans s3
   refine ⟨l2,l3,_,_,rfl,rfl,SqL.of (s3 _ _ hl2),SqL.of hl3,rfl,rfl,_,rfl,c6 (by decide) ?_⟩
   refine ⟨_,rfl,ld,_,_,_,rfl,rfl,SqL.of (s23 _ _ hl1),rfl,rfl,_,rfl,fA (by decide) ?_⟩
   refine ⟨_,rfl,x,a.NoWay,dx,_,.str n,rfl,s23 _ _ hx,s23 _ _ hdx,T.exa_NoWay,T.hd_NoWay,T.na_NoWay_name,rfl,_,rfl,ld,_,_,_,rfl,rfl,SqL.of (s23 _ _ hl1),rfl,rfl,?_⟩
   show Q (.bl (decide (V.str n=V.str n))) _
   rw [decide_eq_true rfl]
   exact k _ (s1.trans s23)
  | bound n rest v c y my ey ov hv wb ev=>
   refine ⟨fun σ' H'=>∃ x dx q,σ'=[some (.ref np),some (.ref d),some (.ref ld),some (.ref x),some .non,none]∧Same H H'∧H' x=some (XO x a.OverBound (some dx))∧H' dx=some (.xd [("bound",.ref q),("name",.str n)])∧FrAt a.Fraction H' q (vC c),?_,?_⟩
   ·refine .inl ⟨_,rfl,_,rfl,np,d,ps,ds,kvs,ks,f,"bound",n,rest,rfl,ok,by rw [hA];exact hF,ln,.inr (.inl ⟨rfl,y,my,ey,by rw [hA];exact ov,fun H1 dx q s1 hq hdx=>?_⟩)⟩
    refine ⟨_,_,rfl,T.su_OverBound_GainError,iteT fun x nx=>?_⟩
    refine ⟨_,rfl,x,dx,q,rfl,s1.trans (aj nx),ad,aj nx _ _ hdx,?_⟩
    rw [ev,← hA]
    exact hq.mono (aj nx)
   rintro σ' H1 ⟨x,dx,q,rfl,s1,hx,hdx,hq⟩
   have hl1:=s1 _ _ hld
   obtain ⟨pv,rfl,hpv⟩:=hv
   obtain ⟨sr,sa,sb⟩:=bd_pair wb.b1 wb.b3 (by decide)
   have c0:c.2≠0:=by have:=wb.b2;omega
   refine ⟨_,rfl,rfl,_,rfl,iteF ?_⟩
   refine ⟨_,rfl,x,"OverBound",rfl,.inr (.inl ⟨rfl,_,dx,hx,hdx⟩),fun l2 H2 nl2 s2 hl2=>?_⟩
   refine ⟨_,rfl,ld,_,_,_,rfl,rfl,SqL.of (s2 _ _ hl1),rfl,by show 1≤sizeLine;decide,fun l3 nl3=>?_⟩
   have s3:=aj (o:=.lst [.str "OverBound"]) nl3
   have hl3:upd H2 l3 (.lst [.str "OverBound"]) l3=some (.lst [.str "OverBound"]):=ad
   generalize upd H2 l3 (.lst [.str "OverBound"])=H3 at s3 hl3 ⊢
   have s23:=s2.trans s3
   have hl4:=s23 _ _ hl1
   have sqv:=SqT.of (K:=K) (s23 _ _ (s1 _ _ hpv))
   refine ⟨l2,l3,_,_,rfl,rfl,SqL.of (s3 _ _ hl2),SqL.of hl3,rfl,rfl,_,rfl,c6 (by decide) ?_⟩
   refine ⟨_,rfl,ld,_,_,_,rfl,rfl,SqL.of hl4,rfl,rfl,_,rfl,c6 (by decide) ?_⟩
   refine ⟨_,rfl,ld,_,_,_,rfl,rfl,SqL.of hl4,rfl,rfl,_,rfl,fA (by decide) ?_⟩
   refine ⟨_,rfl,x,a.OverBound,dx,_,.str n,rfl,s23 _ _ hx,s23 _ _ hdx,T.exa_OverBound,T.hd_OverBound,T.na_OverBound_name,rfl,_,rfl,ld,_,_,_,rfl,rfl,SqL.of hl4,rfl,rfl,_,rfl,fA (decide_eq_true rfl) ?_⟩
   refine ⟨_,rfl,x,a.OverBound,dx,_,.ref q,rfl,s23 _ _ hx,s23 _ _ hdx,T.exa_OverBound,T.hd_OverBound,T.na_OverBound_bound,rfl,_,rfl,ld,_,_,_,rfl,rfl,SqL.of hl4,rfl,pv,_,_,_,rfl,rfl,sqv,rfl,_,rfl,ld,_,_,_,rfl,rfl,SqL.of hl4,rfl,pv,_,_,_,rfl,rfl,sqv,rfl,q,vC c,c.1,c.2,rfl,hq.mono s23,sr,sa,sb,c0,rfl,k _ (s1.trans s23)⟩
  | place n rest v c i x hi hv c1 c2 c3 ev=>
   refine ⟨fun σ' H'=>∃ x dx q,σ'=[some (.ref np),some (.ref d),some (.ref ld),some (.ref x),some .non,none]∧Same H H'∧H' x=some (XO x a.Short (some dx))∧H' dx=some (.xd [("lacking",.ref q),("place",.str n)])∧FrAt a.Fraction H' q (vC c),?_,?_⟩
   ·refine .inl ⟨_,rfl,_,rfl,np,d,ps,ds,kvs,ks,f,"place",n,rest,rfl,ok,by rw [hA];exact hF,ln,.inr (.inr ⟨rfl,sub_of_place hF,i,x,hi,fun H1 dx q s1 hq hdx=>?_⟩)⟩
    refine ⟨_,_,rfl,T.su_Short_GainError,iteT fun x nx=>?_⟩
    refine ⟨_,rfl,x,dx,q,rfl,s1.trans (aj nx),ad,aj nx _ _ hdx,?_⟩
    rw [ev,← hA]
    exact hq.mono (aj nx)
   rintro σ' H1 ⟨x,dx,q,rfl,s1,hx,hdx,hq⟩
   have hl1:=s1 _ _ hld
   obtain ⟨pv,rfl,hpv⟩:=hv
   obtain ⟨sr,sa,sb⟩:=bd_pair c1 c3 (by decide)
   have c0:c.2≠0:=by have:=c2;omega
   refine ⟨_,rfl,rfl,_,rfl,iteF ?_⟩
   refine ⟨_,rfl,x,"Short",rfl,.inr (.inr ⟨rfl,_,dx,hx,hdx⟩),fun l2 H2 nl2 s2 hl2=>?_⟩
   refine ⟨_,rfl,ld,_,_,_,rfl,rfl,SqL.of (s2 _ _ hl1),rfl,by show 1≤sizeLine;decide,fun l3 nl3=>?_⟩
   have s3:=aj (o:=.lst [.str "Short"]) nl3
   have hl3:upd H2 l3 (.lst [.str "Short"]) l3=some (.lst [.str "Short"]):=ad
   generalize upd H2 l3 (.lst [.str "Short"])=H3 at s3 hl3 ⊢
   have s23:=s2.trans s3
   have hl4:=s23 _ _ hl1
   have sqv:=SqT.of (K:=K) (s23 _ _ (s1 _ _ hpv))
   refine ⟨l2,l3,_,_,rfl,rfl,SqL.of (s3 _ _ hl2),SqL.of hl3,rfl,rfl,_,rfl,c6 (by decide) ?_⟩
   refine ⟨_,rfl,ld,_,_,_,rfl,rfl,SqL.of hl4,rfl,rfl,_,rfl,c6 (by decide) ?_⟩
   refine ⟨_,rfl,ld,_,_,_,rfl,rfl,SqL.of hl4,rfl,rfl,_,rfl,c6 (by decide) ?_⟩
   refine ⟨_,rfl,ld,_,_,_,rfl,rfl,SqL.of hl4,rfl,rfl,_,rfl,fA (by decide) ?_⟩
   refine ⟨_,rfl,x,a.Short,dx,_,.str n,rfl,s23 _ _ hx,s23 _ _ hdx,T.exa_Short,T.hd_Short,T.na_Short_place,rfl,_,rfl,ld,_,_,_,rfl,rfl,SqL.of hl4,rfl,rfl,_,rfl,fA (decide_eq_true rfl) ?_⟩
   refine ⟨_,rfl,x,a.Short,dx,_,.ref q,rfl,s23 _ _ hx,s23 _ _ hdx,T.exa_Short,T.hd_Short,T.na_Short_lacking,rfl,_,rfl,ld,_,_,_,rfl,rfl,SqL.of hl4,rfl,pv,_,_,_,rfl,rfl,sqv,rfl,_,rfl,ld,_,_,_,rfl,rfl,SqL.of hl4,rfl,pv,_,_,_,rfl,rfl,sqv,rfl,q,vC c,c.1,c.2,rfl,hq.mono s23,sr,sa,sb,c0,rfl,k _ (s1.trans s23)⟩
  | worth v c hv wb ev=>
   obtain ⟨sm,bN,eW⟩:=hw rfl
   obtain ⟨pv,rfl,hpv⟩:=hv
   obtain ⟨sr,sa,sb⟩:=bd_pair wb.b1 wb.b3 (show 420<9000 by decide)
   have c0:c.2≠0:=by have:=wb.b2;omega
   refine ⟨fun σ' H'=>∃ r,σ'=[some (.ref np),some (.ref d),some (.ref ld),some .non,some (.ref r),none]∧Same H H'∧FrAt a.Fraction H' r (vC c),?_,?_⟩
   ·refine .inr ⟨_,rfl,_,rfl,np,d,ps,ds,kvs,ks,f,co,N,rfl,ok,by rw [hA];exact hF,sub_of_nil hF,hco,sm,bN,hN,fun r H1 nr s1 hr1=>?_⟩
    exact ⟨r,rfl,s1,by rw [ev,eW];exact hr1⟩
   rintro σ' H1 ⟨r,rfl,s1,hr1⟩
   have hl1:=s1 _ _ hld
   have sqv:=SqT.of (K:=K) (s1 _ _ hpv)
   refine ⟨_,rfl,rfl,_,rfl,iteT ?_⟩
   refine ⟨_,rfl,ld,_,_,_,rfl,rfl,SqL.of hl1,rfl,rfl,_,rfl,fA (by decide) ?_⟩
   exact ⟨_,rfl,_,rfl,ld,_,_,_,rfl,rfl,SqL.of hl1,rfl,pv,_,_,_,rfl,rfl,sqv,rfl,_,rfl,ld,_,_,_,rfl,rfl,SqL.of hl1,rfl,pv,_,_,_,rfl,rfl,sqv,rfl,r,vC c,c.1,c.2,rfl,hr1,sr,sa,sb,c0,rfl,k _ s1⟩
structure Lk (K:PySem.W.Frag) (a:Ad) (H:Hp) (np le lr lw ln lq:Addr) (te us tq:List V) (es:List Ent) (rs:List R7) (wn sp:List Str) (ws:List (Int × Int)) (ps:List (Str × Rat)) (ds:List WD) (co:Str→Rat) (N:Nat):Prop where
 net:NetAt a H np ps ds
 nd:(ds.map (·.nm)).Nodup
 ld:ds.length≤100
 lp:ps.length≤100
 so:SumOk (bx es) ps ds
 hi:∀ y∈ds,∀ h,y.hi=some h→SmR h
 wa:∀ z∈ps,SmR z.2
 hE:SqL K H le te
 hes:RowAt EntIs H te es
 l26:es.length≤26
 en:(es.map (·.1)).Nodup
 epb:∀ e∈es,PB e.2
 hR:SqL K H lr us
 hrs:RowAt R7Is H us rs
 rok:∀ r∈rs,R7Ok sp.length r
 l24:rs.length≤24
 hW:SqL K H lw (wn.map V.str)
 lrw:rs.length=wn.length
 hN:SqL K H ln (sp.map V.str)
 l12:sp.length≤12
 hQ:SqL K H lq tq
 hws:RowAt DueIs H tq ws
 lws:ws.length=sp.length
 wb:∀ c∈ws,WB c
 fr:FRel wn sp rs ws ps ds (bx es)
 fr2:FRel2 rs ds (bx es)
 fl:(aZ (es.map (·.1)) (bx es) ps ds).length≤99
 nl:∀ w n rest,aZ (es.map (·.1)) (bx es) ps ds=(w,n)::rest→n.length≤1000
 cos:∀ x∈ds,x.co=co x.nm
 wo:aZ (es.map (·.1)) (bx es) ps ds=[]→(∀ n∈es.map (·.1),SmR (bx es n)∧SmR (co n))∧BdS ((es.map (·.1)).map fun n=>co n*bx es n) N∧(rs.map rowW).sum=((es.map (·.1)).map fun n=>co n*bx es n).sum
 n9:N<9000
theorem DueE.mono {H H':Hp} {ps:List (Str × Rat)} {ds:List WD} {A:Str→Rat} {W:Rat} {F:List (Str × Str)} {t n:Str} {v:V} (h:DueE a H ps ds A W F t n v) (s:Same H H'):DueE a H' ps ds A W F t n v:=by
 cases h with
 | way n rest=>exact .way _ _
 | bound n rest v c y my ey ov hv wb ev=>exact .bound _ _ v c y my ey ov (hv.mono s) wb ev
 | place n rest v c i x hi hv c1 c2 c3 ev=>exact .place _ _ v c i x hi (hv.mono s) c1 c2 c3 ev
 | worth v c hv wb ev=>exact .worth v c (hv.mono s) wb ev
inductive IspLooked (K:PySem.W.Frag) (a:Ad) (vs:List V) (H:Hp) (Q:VK):Prop
 | mk (np le lr lw ln lq:Addr) (te us tq:List V) (es:List Ent) (rs:List R7) (wn sp:List Str) (ws:List (Int × Int)) (ps:List (Str × Rat)) (ds:List WD) (co:Str→Rat) (N:Nat) (h1:vs=[.ref np,.ref le,.ref lr,.ref lw,.ref ln,.ref lq]) (h2:Lk K a H np le lr lw ln lq te us tq es rs wn sp ws ps ds co N) (h3:∀ H',Same H H'→Q (.bl true) H'):IspLooked K a vs H Q
def spLooked (K:PySem.W.Frag) (a:Ad):Sp:=fun vs H Q _=>IspLooked K a vs H Q
theorem eI (T:TX K mg a):FnB P w K mg base CX0 "_law_looked" 16 ["_law_net","_law_entries_here","_law_rows","_law_ways","_law_names","_law_wants_here"] (spLooked K a):=by
 refine T.d_law_looked.ok sc_law_looked (fun vs H Q E h=>?_) (fun f cdv A' outer s₀ H vs Q E hr h=>?_)
 ·obtain ⟨_,_,_,_,_,_,_,_,_,_,_,_,_,_,_,_,_,_,rfl,_⟩:=h
  rfl
 ·obtain ⟨np,le,lr,lw,ln,lq,te,us,tq,es,rs,wn,sp,ws,ps,ds,co,N,rfl,D,k⟩:=h
  refine ⟨_,(ae (ar (i:=6) sc_law_looked.nd rfl (Or.inl rfl) (aG (ok_law_plan T) hr aq (aa (pv 1) ac)))
   (ae (ar (i:=7) sc_law_looked.nd rfl (Or.inl rfl) (aG (ok_law_faults T) hr aq (aa (pv 1) (aa (pv 2) (aa (pv 3) (aa (pv 4) (aa (pv 5) ac)))))))
   (ae (ar (i:=8) sc_law_looked.nd rfl (Or.inl rfl) (aG (ok_law_due T) hr aq (aa (pv 1) (aa (pv 2) (aa (pv 3) (aa (pv 4) (aa (pv 5) ac)))))))
   (ae (ar (i:=9) sc_law_looked.nd rfl (Or.inl rfl) (aG (fX T) hr aq (aa (pv 0) (aa (pv 6) ac))))
   (ae (aC (cY (aJ (aG (ok_law_told T) hr aq (aa (pv 9) (aa (pv 7) ac))))) (ai (aw fu)) al)
   (ae (aI (bf PySem.F.plainAttrs_list PySem.F.slot_list_append PySem.F.type_list_append aF (pv 9) (aa (aR (aa aK (aa aK ac))) ac)))
   (ai (aw (gx (aG (ok_law_told T) hr aq (aa (aG (fX T) hr aq (aa (pv 0) (aa (pv 6) ac))) (aa (pv 7) ac))) (gx (aG (ok_law_meets T) hr aq (aa (pv 0) (aa (pv 6) (aa (pv 8) ac)))) (pe_one (aG (ok_law_stays T) hr aq (aa (pv 6) (aa (pv 1) ac)))))))))))))),?_⟩
  try dsimp only [aS,Cx.nox,Cx.wish]
  refine ⟨_,rfl,le,te,es,rfl,D.hE,D.hes,D.en,D.l26,D.epb,fun d H1 kvs nd s1 hd tb=>?_⟩
  have up:∀ {H':Hp},Same H H'→SqL K H' le te∧RowAt EntIs H' te es∧SqL K H' lr us∧RowAt R7Is H' us rs∧SqL K H' lw (wn.map V.str)∧SqL K H' ln (sp.map V.str)∧SqL K H' lq tq∧RowAt DueIs H' tq ws:=fun s=>⟨s.seq D.hE,D.hes.mono fun _ _ z=>z.mono s,s.seq D.hR,D.hrs.mono fun _ _ z=>z.mono s,s.seq D.hW,s.seq D.hN,s.seq D.hQ,D.hws.mono fun _ _ z=>DueIs.mono z s⟩
  obtain ⟨u1,u2,u3,u4,u5,u6,u7,u8⟩:=up s1
  refine ⟨_,rfl,_,rfl,_,rfl,_,rfl,_,rfl,le,lr,lw,ln,lq,te,us,tq,es,rs,wn,sp,ws,ps,ds,bx es,rfl,u1,u2,D.l26,u3,u4,D.rok,D.l24,u5,D.lrw,u6,D.l12,u7,u8,D.lws,D.wb,D.fr,fun l2 H2 t2 nl2 s2 hl2 ht2=>?_⟩
  have s02:=s1.trans s2
  obtain ⟨u1,u2,u3,u4,u5,u6,u7,u8⟩:=up s02
  refine ⟨_,rfl,_,rfl,_,rfl,_,rfl,_,rfl,le,lr,lw,ln,lq,te,us,tq,es,rs,wn,sp,ws,ps,ds,bx es,rfl,u1,u2,D.l26,u3,u4,D.rok,D.l24,u5,D.lrw,u6,D.l12,u7,u8,D.lws,D.wb,D.fr,D.fr2,fun l3 H3 w3 n3 v3 nl3 s3 hl3 due=>?_⟩
  have s03:=s02.trans s3
  have s13:=s2.trans s3
  have ok:∀ {H':Hp},Same H1 H'→FltOk a H' np d ps ds kvs (es.map (·.1)) (bx es):=fun s=>⟨⟨H,D.net,s1.trans s,nd⟩,D.nd,D.ld,s _ _ hd,tb.mono fun v x z=>FrIs.mono z s,D.en,by rw [List.length_map];have:=D.l26;omega,D.lp,by rw [amt_valE];exact D.so,D.hi,D.wa⟩
  have eA:cb (es.map (·.1)) (bx es)=bx es:=amt_valE es
  refine ⟨_,rfl,_,rfl,np,d,ps,ds,kvs,es.map (·.1),bx es,rfl,ok s13,fun l4 H4 t4 nl4 s4 hl4 ht4=>?_⟩
  rw [eA] at ht4
  have fl:=D.fl
  have nlen:n3.length≤1000:=by
   have nl:=D.nl
   generalize aZ (es.map (·.1)) (bx es) ps ds=F at due nl
   cases due with
   | way n rest=>exact nl _ _ _ rfl
   | bound n rest v c y my ey ov hv wb ev=>exact nl _ _ _ rfl
   | place n rest v c i x hi hv c1 c2 c3 ev=>exact nl _ _ _ rfl
   | worth v c hv wb ev=>exact Nat.zero_le _
  have s24:=s3.trans s4
  refine ⟨_,rfl,_,rfl,l4,l2,t4,t2,_,rfl,hl4,ht4,SqL.of (s24 _ _ hl2),ht2.mono (fun _ _ z=>FtIs.mono z s24),by omega,_,rfl,iteF ?_⟩
  have lt4:t4.length≤99:=by rw [ht4.1];exact fl
  refine ⟨_,rfl,.inl ⟨rfl,_,SqL.of hl4⟩,by show 2≤sizeLine;decide,fun tq' ntq=>?_⟩
  have s5:=aj (o:=.tup [.str "way",.str "q"]) ntq
  refine ⟨l4,_,_,rfl,rfl,s5 _ _ hl4,aL (by omega),?_⟩
  have s35:Same H3 (upd (upd H4 tq' (.tup [.str "way",.str "q"])) l4 (.lst (t4++[.ref tq']))):=aP nl4 (s4.trans s5)
  generalize upd (upd H4 tq' (.tup [.str "way",.str "q"])) l4 (.lst (t4++[.ref tq']))=H5 at s35 ⊢
  have s15:=s13.trans s35
  refine ⟨_,rfl,_,rfl,np,d,ps,ds,kvs,es.map (·.1),bx es,rfl,ok s15,fun l6 H6 t6 nl6 s6 hl6 ht6=>?_⟩
  rw [eA] at ht6
  have s36:=s35.trans s6
  have s26:=s3.trans s36
  have s16:=s15.trans s6
  refine ⟨_,rfl,l6,l2,t6,t2,_,rfl,hl6,ht6,SqL.of (s26 _ _ hl2),ht2.mono (fun _ _ z=>FtIs.mono z s26),by omega,_,rfl,iteT ?_⟩
  refine ⟨_,rfl,_,rfl,_,rfl,np,d,l3,ps,ds,kvs,es.map (·.1),bx es,co,N,(rs.map rowW).sum,w3,n3,v3,rfl,ok s16,s36 _ _ hl3,by rw [eA];exact due.mono s36,nlen,D.cos,by rw [eA];exact D.wo,D.n9,fun H7 s7=>⟨_,rfl,iteT ?_⟩⟩
  have s17:=s16.trans s7
  obtain ⟨u1,u2,_⟩:=up (s1.trans s17)
  exact ⟨_,rfl,_,rfl,d,le,kvs,te,es,rfl,s17 _ _ hd,tb.mono (fun v x z=>FrIs.mono z s17),u1,u2,D.en,D.l26,D.epb,fun H8 s8=>k H8 (s1.trans (s17.trans s8))⟩
theorem lim189:2 ^ 180*420≤2 ^ 189:=Nat.le_trans (Nat.mul_le_mul_left _ (show 420≤2 ^ 9 by decide)) (by rw [← Nat.pow_add];exact Nat.le_refl _)
theorem AOk.one {zs:List ZR} {A:Str→Rat} (h:∀ z∈zs,Over 151200 (2 ^ 180) (A z.1)∧Over 151200 (2 ^ 180) (A z.1*Rat.divInt z.2.gain.1 z.2.gain.2)):AOk zs A:=fun z hz=>
 ⟨((h z hz).1.lift (by decide)).mono (Nat.le_trans lim189 (aV (by decide))),((h z hz).2.lift (by decide)).mono (Nat.le_trans lim189 (aV (by decide)))⟩
def rowsW (rs:List R7):Rat:=(rs.map rowW).sum
structure Ent13 (zs:List ZR) (es:List Ent):Prop where
 nd:(es.map (·.1)).Nodup
 len:es.length≤26
 pb:∀ e∈es,PB e.2
 ln:∀ e∈es,e.1.length≤1000
 at1:∀ z∈zs,∀ c,z.2.put=some c→(z.1,c)∈es
 at0:∀ z∈zs,z.2.put=none→¬ z.1∈es.map (·.1)
def putQ (r:R7):Rat:=match r.put with | none=>0 | some c=>gm c
theorem Ent13.val {zs:List ZR} {es:List Ent} (h:Ent13 zs es) {z:ZR} (hz:z∈zs):bx es z.1=putQ z.2:=by
 unfold putQ
 cases e:z.2.put with
 | none=>exact valE_none (h.at0 z hz e)
 | some c=>exact gL h.nd (h.at1 z hz c e)
theorem Ent13.aok {sp:List Str} {zs:List ZR} {es:List Ent} (h:Ent13 zs es) (zok:ZsOk sp zs):AOk zs (bx es):=AOk.one fun z hz=>by
 rw [h.val hz]
 unfold putQ
 cases e:z.2.put with
 | none=>exact ⟨Over.zero,by rw [Rat.zero_mul];exact Over.zero⟩
 | some c=>exact ent_over (h.pb _ (h.at1 z hz c e)) (zok.all z hz)
theorem Ent13.sums {sp:List Str} {zs:List ZR} {es:List Ent} (h:Ent13 zs es) (zok:ZsOk sp zs) {k:Nat} (hk:k<sp.length):cD (bx es) (zs.map (zd sp)) (sp.getD k "")=rowsS (zs.map (·.2)) k:=by
 have go:∀ us:List ZR,(∀ z∈us,z∈zs)→cD (bx es) (us.map (zd sp)) (sp.getD k "")=rowsS (us.map (·.2)) k:=by
  refine snoc_ind (fun _=>rfl) fun us u ih hu=>?_
  have mu:=hu u (by simp)
  have ok:=zok.all u mu
  rw [List.map_append,List.map_append,List.map_cons,List.map_nil,List.map_cons,List.map_nil,sumF_snoc,sumStep_con (zok.in_ mu).2.2,ih fun z hz=>hu z (List.mem_append_left _ hz),gq]
  congr 1
  have e1:(zd sp u).nm=u.1:=R7.d_nm _ _ _
  have e2:cZ (zd sp u).kd (zd sp u).x=Rat.divInt u.2.gain.1 u.2.gain.2:=R7.d_gain ok _ _
  have e3:(zd sp u).st=sp.getD u.2.st "":=R7.d_st _ _ _
  have e4:(zd sp u).go=sp.getD u.2.go "":=R7.d_go _ _ _
  rw [e1,h.val mu]
  unfold con putQ rowS
  rw [e2,e3,e4]
  have j1:(sp.getD k ""=sp.getD u.2.go "")↔k=u.2.go:=⟨getD_inj zok.np hk ok.go,fun e=>by rw [e]⟩
  have j2:(sp.getD k ""=sp.getD u.2.st "")↔k=u.2.st:=⟨getD_inj zok.np hk ok.st,fun e=>by rw [e]⟩
  cases u.2.put with
  | none=>
   show (if _ then (0:Rat)*_ else if _ then -0 else 0)=0
   split
   ·exact Rat.zero_mul _
   ·split <;> rfl
  | some c=>
   show (if _ then gm c*_ else if _ then -(gm c) else 0)=if _ then _ else if _ then _ else _
   by_cases h1:k=u.2.go
   ·rw [if_pos (j1.mpr h1),if_pos h1]
    rfl
   ·rw [if_neg fun z=>h1 (j1.mp z),if_neg h1]
    by_cases h2:k=u.2.st
    ·rw [if_pos (j2.mpr h2),if_pos h2]
     rfl
    ·rw [if_neg fun z=>h2 (j2.mp z),if_neg h2]
 exact go zs fun z hz=>hz
theorem Ent13.worth {sp:List Str} {zs:List ZR} {es:List Ent} (h:Ent13 zs es) (zok:ZsOk sp zs):wSum (coOf zs) (bx es) (zs.map (·.1))=rowsW (zs.map (·.2)):=by
 unfold wSum rowsW
 rw [List.map_map,List.map_map]
 congr 1
 refine List.map_congr_left fun z hz=>?_
 show coOf zs z.1*bx es z.1=rowW z.2
 rw [coOf_at zok.nd hz,h.val hz]
 unfold putQ rowW
 cases z.2.put with
 | none=>exact Rat.mul_zero _
 | some c=>exact Rat.mul_comm _ _
theorem fJ {c:Int × Int} (h:1≤c.2):gm c<0↔c.1<0:=by
 have e:(0:Rat)=Rat.divInt 0 1:=(Rat.zero_divInt 1).symm
 unfold gm
 rw [e]
 refine (lt_div (by omega) (by decide)).trans ?_
 omega
theorem frel_ov {sp:List Str} {zs:List ZR} {es:List Ent} (zok:ZsOk sp zs) (eok:Ent13 zs es) {z:ZR} (hz:z∈zs):dF (zd sp z).hi (bx es (zd sp z).nm)=(eu z.2).isSome:=by
 have ok:=zok.all z hz
 have e1:(zd sp z).nm=z.1:=R7.d_nm _ _ _
 have e2:(zd sp z).hi=z.2.hi.map vC:=R7.d_hi _ _ _
 rw [e1,e2,eok.val hz]
 unfold dF putQ eu
 cases hp:z.2.put with
 | none=>
  cases hh:z.2.hi with
  | none=>rfl
  | some h=>
   obtain ⟨h0,hb1,hb2,hb3⟩:=ok.hi h hh
   show (decide ((0:Rat)<0) || decide (vC h<0))=false
   rw [decide_eq_false (by decide),decide_eq_false (fun z=>by have:=(fJ hb2).mp z;omega)]
   rfl
 | some c=>
  obtain ⟨q1,q2,q3⟩:=ok.pt c hp
  show (decide (gm c<0) || _)=(if c.1<0 then some (0,1) else _).isSome
  by_cases n0:c.1<0
  ·rw [if_pos n0,decide_eq_true ((fJ q2).mpr n0)]
   rfl
  ·rw [if_neg n0,decide_eq_false (fun z=>n0 ((fJ q2).mp z))]
   cases hh:z.2.hi with
   | none=>rfl
   | some h=>
    obtain ⟨h0,hb1,hb2,hb3⟩:=ok.hi h hh
    show (false || decide (vC h<gm c))=(if h.1*c.2<c.1*h.2 then some h else none).isSome
    have:vC h<gm c↔h.1*c.2<c.1*h.2:=lt_div (by omega) (by omega)
    by_cases g:h.1*c.2<c.1*h.2
    ·rw [if_pos g,decide_eq_true (this.mpr g)]
     rfl
    ·rw [if_neg g,decide_eq_false (fun z=>g (this.mp z))]
     rfl
theorem frel_bn {sp:List Str} {zs:List ZR} {es:List Ent} (zok:ZsOk sp zs) (eok:Ent13 zs es) {z:ZR} (hz:z∈zs) {c:Int × Int} (ho:eu z.2=some c):vC c=bndB (zd sp z).hi (bx es (zd sp z).nm):=by
 have ok:=zok.all z hz
 have e1:(zd sp z).nm=z.1:=R7.d_nm _ _ _
 have e2:(zd sp z).hi=z.2.hi.map vC:=R7.d_hi _ _ _
 rw [e1,e2,eok.val hz]
 unfold eu at ho
 unfold bndB putQ
 cases hp:z.2.put with
 | none=>rw [hp] at ho;cases ho
 | some d=>
  rw [hp] at ho
  obtain ⟨q1,q2,q3⟩:=ok.pt d hp
  have ho:(if d.1<0 then some ((0:Int),(1:Int)) else match z.2.hi with | none=>none | some h=>if h.1*d.2<d.1*h.2 then some h else none)=some c:=ho
  show vC c=if gm d<0 then 0 else _
  by_cases n0:d.1<0
  ·rw [if_pos n0] at ho
   cases ho
   rw [if_pos ((fJ q2).mpr n0)]
   exact Rat.zero_divInt 1
  ·rw [if_neg n0] at ho
   rw [if_neg (fun z=>n0 ((fJ q2).mp z))]
   cases hh:z.2.hi with
   | none=>rw [hh] at ho;cases ho
   | some h=>
    rw [hh] at ho
    have ho:(if h.1*d.2<d.1*h.2 then some h else none)=some c:=ho
    split at ho
    ·cases ho
     rfl
    ·cases ho
theorem frel {sp wn:List Str} {rs:List R7} {ws:List (Int × Int)} {es:List Ent} (zok:ZsOk sp (wn.zip rs)) (eok:Ent13 (wn.zip rs) es) (lw:rs.length=wn.length):FRel wn sp rs ws (sp.zip (ws.map vC)) ((wn.zip rs).map (zd sp)) (bx es)∧FRel2 rs ((wn.zip rs).map (zd sp)) (bx es):=by
 have z1:(wn.zip rs).map (·.1)=wn:=List.map_fst_zip (by omega)
 have z2:(wn.zip rs).map (·.2)=rs:=List.map_snd_zip (by omega)
 have get:∀ (k:Nat) (d:WD) (r:R7),((wn.zip rs).map (zd sp))[k]?=some d→rs[k]?=some r→∃ z∈wn.zip rs,d=zd sp z∧r=z.2:=fun k d r h1 h2=>by
  rw [List.getElem?_map] at h1
  cases e:(wn.zip rs)[k]? with
  | none=>rw [e] at h1;cases h1
  | some z=>
   rw [e] at h1
   cases h1
   have:=(List.getElem?_zip_eq_some.mp e).2
   rw [h2] at this
   cases this
   exact ⟨z,List.mem_of_getElem? e,rfl,rfl⟩
 refine ⟨⟨by rw [gJ];exact z1,fun k d r h1 h2=>?_,rfl,fun k y hy=>?_⟩,⟨fun k d r c h1 h2 ho=>?_⟩⟩
 ·obtain ⟨z,hz,rfl,rfl⟩:=get k d r h1 h2
  exact frel_ov zok eok hz
 ·have hk:k<sp.length:=(List.getElem?_eq_some_iff.mp hy).1
  have ey:sp.getD k ""=y:=by rw [List.getD_eq_getElem?_getD,hy];rfl
  have:=eok.sums zok hk
  rw [ey,z2] at this
  exact this
 ·obtain ⟨z,hz,rfl,rfl⟩:=get k d r h1 h2
  exact frel_bn zok eok hz ho
theorem map_inr (ps:List (Str × Rat)):(ps.map fun p=>(Sum.inr p.1:Key))=(ps.map (·.1)).map fun n=>(Sum.inr n:Key):=by rw [List.map_map];rfl
def newP (ks:List Str) (f:Str→Rat) (ps:List (Str × Rat)):List (Str × Rat):=ps.map fun x=>(x.1,if x.1∈ks then f x.1 else x.2)
theorem newP_1 (ks:List Str) (f:Str→Rat) (ps:List (Str × Rat)):(newP ks f ps).map (·.1)=ps.map (·.1):=by unfold newP;rw [List.map_map];rfl
inductive IspWanting (a:Ad) (vs:List V) (H:Hp) (Q:VK):Prop
 | mk (p d:Addr) (ps:List (Str × Rat)) (ds:List WD) (kvs:List (Key × V)) (ks:List Str) (f:Str→Rat) (h1:vs=[.ref p,.ref d]) (h2:NetOff a H p d ps ds) (h3:NetOk ps ds) (h4:H d=some (.dK kvs)) (h5:Tab (FrIs a) H kvs ks f) (h6:ks.Nodup) (h7:(∀ n∈ks,n∈ps.map (·.1))) (h8:∀ q H',H q=none→Same H H'→NetAt a H' q (newP ks f ps) ds→Q (.ref q) H'):IspWanting a vs H Q
def spWanting (a:Ad):Sp:=fun vs H Q _=>IspWanting a vs H Q
theorem ok_Net_wanting (T:TX K mg a):MtB P w K mg base CX0 a.Net "wanting" 7 ["self","wants"] (spWanting a):=by
 refine T.m_Net_wanting.ok sc_Net_wanting (fun vs H Q E h=>?_) (fun f cdv A outer s H vs Q E hr h=>?_)
 ·obtain ⟨_,_,_,_,_,_,_,rfl,_⟩:=h
  rfl
 ·obtain ⟨p,d,ps,ds,kvs,ks,f,rfl,hn,ok,hd,tb,ndk,sub,k⟩:=h
  refine ⟨_,(aN (ps_thaw (bu PassesOwn.never rfl (pi_dict (pv 1)) (aA (i:=2) sc_Net_wanting.nd rfl (Or.inl rfl)) (ai (aC (gu (eT (cm hr) (pv 2) (bc (pv 0) rfl))) (ai bX) al))))
   (aN (ps_thaw (d5 (i:=3) (xs:=["name","want"]) (rest:=["wants"]) sc_Net_wanting.nd rfl rfl rfl (pi_items (bc (pv 0) rfl))
   (fun pins fp C' s' H'=>by exact (pg_tupK (K:=K) (n:=2) rfl rfl (aQ (aA (i:=0) (show (["name","want","wants"]:List Str).Nodup by decide +kernel) rfl (Or.inl rfl)) (aQ (aA (i:=1) (show (["name","want","wants"]:List Str).Nodup by decide +kernel) rfl (Or.inl rfl)) dN)))) (fun pins fp C' s' H'=>by exact dC)
   (fun pins fp C' s' H'=>by exact (aR (aa (pv 0) (aa (pe_dget2 (cm hr) (pv 2) (pv 0) (pv 1) ⟨rfl,rfl,rfl,rfl⟩) ac))))
   (Clos.many (ys:=["wants"]) rfl ⟨rfl,True.intro⟩ rfl (by decide +kernel)) (Reads.many (ys:=["wants"]) (js:=[1]) ⟨⟨rfl,rfl,rfl⟩,True.intro⟩)))
   (ai (aw (pe_mk (mk_Net T) hr T.mg_Net aq (aa (pv 3) (aa (et (CX:=CX0) (pv 0) hr aq) ac))))))),?_⟩
  try dsimp only [aS,Cx.nox,Cx.wish]
  refine ⟨fun σ' H'=>∃ z,σ'=[some (.ref p),some (.ref d),z,none]∧Same H H',?_,?_⟩
  ·refine ⟨d,.dK kvs,hd,(by intro o z e;cases e),_,rfl,d,kvs,rfl,hd,fun o=>?_⟩
   refine for_dict (a:=d) (o:=o) (kvs:=kvs) (fun i σ H2=>∃ z,σ=[some (.ref p),some (.ref d),z,none]∧H2 d=some (.frz o (.dK kvs))∧∀ b ob,H b=some ob→b≠d→H2 b=some ob)
    ⟨_,rfl,ad,fun b ob e ne=>by rw [ak ne];exact e⟩ (fun i σ H2 _ ⟨_,_,h,_⟩=>h) ?_ ?_
   ·rintro i kv σ H2 hkv ⟨z,rfl,hf,k2⟩
    obtain ⟨n,en,e1,ev,_⟩:=tb.at_ ndk hkv
    have ekv:kV kv.1=.str n:=by rw [e1];rfl
    rw [ekv]
    obtain ⟨dx,dw,dy,hp,⟨kw,w1,w2,w3⟩,hy⟩:=(hn.but k2).at_
    obtain ⟨u,hu⟩:=val_some (kvs:=kw) (k:=(Sum.inr n:Key)) (by rw [w2,map_inr];exact inr_in.mpr (sub n (List.mem_of_getElem? en)))
    refine ⟨_,rfl,_,rfl,p,_,dx,_,_,rfl,hp,T.cl_Net,T.na_Net_wants,fsN_w _ _,dw,_,rfl,DGet.k (k:=Sum.inr n) w1,_,rfl,?_⟩
    rw [hu]
    exact iteF ⟨_,rfl,hf,k2⟩
   ·rintro σ H2 ⟨z,rfl,hf,k2⟩
    refine ⟨o,hf,_,rfl,fun b ob e=>?_⟩
    by_cases hb:b=d
    ·subst hb
     rw [ad,← hd,e]
    ·rw [ak hb]
     exact k2 _ _ e hb
  rintro σ' H1 ⟨z,rfl,s1⟩
  have hd1:=s1 _ _ hd
  have tb1:=tb.mono fun v x z=>z.mono s1
  have hnet1:=hn.at_.mono s1
  obtain ⟨dx,dw,dy,hp,hw,hy⟩:=id hnet1
  obtain ⟨kw,w1,w2,w3⟩:=id hw
  have dne:dw≠d:=by
   obtain ⟨H0,⟨dx0,dw0,dy0,hp0,⟨kw0,w10,_⟩,_⟩,s0,e0⟩:=hn
   have:=(s1 _ _ (s0 _ _ hp0)).symm.trans hp
   have e5:=Option.some.inj this
   have e6:fsN dw0 dy0=fsN dw dy:=(HO.ins.inj e5).2.2
   have e7:dw0=dw:=by
    have:=congrArg (fun l=>List.lookup ("wants":Str) l) e6
    rw [fsN_w,fsN_w] at this
    cases this
    rfl
   rw [← e7]
   exact fun z=>by rw [z,e0] at w10;cases w10
  refine ⟨fun σ' H'=>∃ z l ts,σ'=[some (.ref p),some (.ref d),z,some (.ref l)]∧Same H1 H'∧H' l=some (.lst ts)∧RowAt (PlIs a) H' ts (newP ks f ps),?_,?_⟩
  ·refine ⟨dw,.dK kw,w1,(by intro o z e;cases e),_,rfl,p,_,dx,_,_,rfl,hp,T.cl_Net,T.na_Net_wants,fsN_w _ _,dw,kw,rfl,w1,fun o l nl=>?_⟩
   have ndl:dw≠l:=fun z=>by rw [z,ad] at nl;cases nl
   have nl':H1 l=none:=by rw [ak ndl.symm] at nl;exact nl
   have lkw:kw.length=ps.length:=by have:=congrArg List.length w2;rwa [List.length_map,List.length_map] at this
   refine compG_items (a:=dw) (o:=o) (kvs:=kw) (fun i H2=>i≤ps.length∧H2 dw=some (.frz o (.dK kw))∧(∀ b ob,H1 b=some ob→b≠dw→H2 b=some ob)∧∃ ts,H2 l=some (.lst ts)∧RowAt (PlIs a) H2 ts (newP ks f (ps.take i)))
    ⟨Nat.zero_le _,by rw [ak ndl,ad],(fun b ob e ne=>by rw [ak (aE e nl'),ak ne];exact e),[],ad,RowAt.nil⟩ (fun i H2 ⟨_,h,_⟩=>h) ?_ ?_
   ·rintro i kv t H2 hkv nt ⟨_,hf,k2,ts,hl2,hv⟩ zs hz
    have hi:i<ps.length:=by rw [← lkw];exact (List.getElem?_eq_some_iff.mp hkv).1
    obtain ⟨x,ex⟩:∃ x,ps[i]?=some x:=⟨_,List.getElem?_eq_getElem hi⟩
    have ek:kv.1=Sum.inr x.1:=by
     have g1:(kw.map (·.1))[i]?=some kv.1:=by rw [List.getElem?_map,hkv];rfl
     rw [w2,List.getElem?_map,ex] at g1
     exact (Option.some.inj g1).symm
    obtain ⟨q,eq,fq⟩:=w3.2 i kv.2 x.2 (by rw [List.getElem?_map,hkv];rfl) (by rw [List.getElem?_map,ex];rfl)
    have ekv:kV kv.1=.str x.1:=by rw [ek];rfl
    rw [ekv,eq]
    have s3:=aj (o:=.tup [.str x.1,.ref q]) nt
    have ht:upd H2 t (.tup [.str x.1,.ref q]) t=some (.tup [.str x.1,.ref q]):=ad
    generalize upd H2 t (.tup [.str x.1,.ref q])=H3 at s3 ht ⊢
    have kp:∀ b ob,H1 b=some ob→b≠dw→H3 b=some ob:=fun b ob e ne=>s3 _ _ (k2 _ _ e ne)
    have keepF:∀ {v:V} {y:Rat},FrIs a H1 v y→FrIs a H3 v y:=fun ⟨r,e,dr,g⟩=>⟨r,e,dr,kp _ _ g (cS g w1 (by intro z;cases z))⟩
    match zs,hz with
    | [z1,z2],_=>
     refine ⟨t,[.str x.1,.ref q],rfl,SqT.of ht,rfl,.str x.1,[.ref q],rfl,⟨.ref q,[],rfl,⟨rfl,⟨[_,_],rfl,rfl⟩,yes ?_⟩⟩⟩
     have hd3:=kp _ _ hd1 (Ne.symm dne)
     obtain ⟨r,er,fr⟩:∃ r,(bP kvs (Sum.inr x.1)).getD (.ref q)=.ref r∧FrAt a.Fraction H3 r (if x.1∈ks then f x.1 else x.2):=by
      by_cases hx:x.1∈ks
      ·obtain ⟨v,ev,hv'⟩:=tb1.vals x.1 hx
       obtain ⟨r,rfl,g⟩:=keepF hv'
       rw [ev,if_pos hx]
       exact ⟨r,rfl,g⟩
      ·rw [tb1.none hx,if_neg hx]
       obtain ⟨r,e,g⟩:=keepF (⟨q,rfl,fq⟩:FrIs a H1 (.ref q) x.2)
       cases e
       exact ⟨q,rfl,g⟩
     refine ⟨_,rfl,_,rfl,d,rfl,.inl ⟨kvs,.inl hd3⟩,_,rfl,_,rfl,bP kvs (Sum.inr x.1),.inl ⟨kvs,Sum.inr x.1,.inl hd3,rfl,rfl⟩,?_⟩
     rw [er]
     refine ⟨by show 2≤sizeLine;decide,fun t2 nt2=>?_⟩
     have s4:=aj (o:=.tup [.str x.1,.ref r]) nt2
     have ht2:upd H3 t2 (.tup [.str x.1,.ref r]) t2=some (.tup [.str x.1,.ref r]):=ad
     generalize upd H3 t2 (.tup [.str x.1,.ref r])=H4 at s4 ht2 ⊢
     have hl4:=s4 _ _ (s3 _ _ hl2)
     have lts:ts.length=i:=by rw [hv.1];unfold newP;rw [List.length_map,List.length_take];omega
     have keep:∀ v x,PlIs a H4 v x→PlIs a (upd H4 l (.lst (ts++[.ref t2]))) v x:=fun v x ⟨t',q',e,h1,dq,f⟩=>⟨t',q',e,by rw [ak (cS h1 hl4 (by intro z;cases z))];exact h1,dq,by rw [ak (cS f hl4 (by intro z;cases z))];exact f⟩
     refine ⟨_,hl4,aL (by have:=ok.lp;omega),c7 (by rw [lkw];exact hi) ⟨hi,by rw [ak ndl];exact s4 _ _ (s3 _ _ hf),(fun b ob e ne=>by rw [ak (aE e nl')];exact s4 _ _ (kp _ _ e ne)),_,ad,?_⟩⟩
     rw [List.take_add_one,ex,Option.toList_some]
     unfold newP
     rw [List.map_append]
     exact RowAt.snoc (hv.mono fun v x z=>keep v x (z.mono (s3.trans s4))) (keep _ _ ⟨t2,r,rfl,ht2,fr.mono s4⟩)
   ·rintro H2 ⟨_,hf,k2,ts,hl2,hv⟩
    rw [lkw,List.take_length] at hv
    refine ⟨o,hf,_,l,ts,rfl,fun b ob e=>?_,by rw [ak ndl.symm];exact hl2,hv.mono fun v x ⟨t',q',e,h1,dq,f⟩=>⟨t',q',e,by rw [ak (cS h1 hf (by intro z;cases z))];exact h1,dq,by rw [ak (cS f hf (by intro z;cases z))];exact f⟩⟩
    by_cases hb:b=dw
    ·subst hb
     rw [ad,← w1,e]
    ·rw [ak hb]
     exact k2 _ _ e hb
  rintro σ' H2 ⟨z,l,ts,rfl,s2,hl2,hv⟩
  have hnet2:=hnet1.mono s2
  have noa:=dH dw dy (m:="all_ways") (by decide +kernel) (by decide +kernel)
  refine ⟨_,rfl,_,rfl,p,a.Net,dx,_,1,["self"],spNAll a,rfl,s2 _ _ hp,noa,T.cl_Net,by decide,cG T,p,ps,ds,rfl,hnet2,fun lw H3 tw nlw s3 hlw hvw=>?_⟩
  refine fun p' dx' h1 h2 h3=>?_
  have ss:=fG (C:=a.Net) h1 h2
  have s13:=(s1.trans s2).trans s3
  refine ⟨p',dx',l,lw,ts,tw,newP ks f ps,ds,rfl,ad,ss.seq (SqL.of (s3 _ _ hl2)),hv.mono (fun v x z=>z.mono (s3.trans ss)),ss.seq (SqL.of hlw),hvw.mono (fun v x z=>z.mono ss),⟨by rw [newP_1];exact ok.np,by unfold newP;rw [List.length_map];exact ok.lp,ok.nd,ok.ld,by rw [newP_1];exact ok.io⟩,fun H' hs hn'=>⟨rfl,k p' H' (s13.free h1) (s13.trans (fH h1 h2 hs)) ?_⟩⟩
  exact hn'
theorem ps16 {sp:List Str} {ws:List (Int × Int)} (h:ws.length=sp.length):(sp.zip (ws.map vC)).map (·.1)=sp:=List.map_fst_zip (by rw [List.length_map];omega)
theorem net16 {sp:List Str} {zs:List ZR} {ws:List (Int × Int)} (zok:ZsOk sp zs) (lws:ws.length=sp.length):NetOk (sp.zip (ws.map vC)) (zs.map (zd sp)):=by
 have:=zok.net
 have e:=ps16 lws
 refine ⟨by rw [e];exact zok.np,?_,this.nd,this.ld,?_⟩
 ·rw [← List.length_map (f:=(·.1)),e];exact zok.lp
 ·rw [e]
  have:=this.io
  rwa [fM] at this
theorem own16 {zs:List ZR} {wn:List Str} {es:List Ent} (h:Ent13 zs es) (z1:zs.map (·.1)=wn):Ent13 zs (es.filter fun e=>decide (e.1∈wn)):=by
 have sl:(es.filter fun e=>decide (e.1∈wn)).Sublist es:=List.filter_sublist
 refine ⟨(sl.map _).nodup h.nd,Nat.le_trans sl.length_le h.len,fun e he=>h.pb e (sl.subset he),fun e he=>h.ln e (sl.subset he),fun z hz c hc=>?_,fun z hz hc m=>?_⟩
 ·refine List.mem_filter.mpr ⟨h.at1 z hz c hc,decide_eq_true ?_⟩
  rw [← z1]
  exact List.mem_map.mpr ⟨z,hz,rfl⟩
 ·exact h.at0 z hz hc ((sl.map _).subset m)
theorem lk16 {H:Hp} {np le lr lw ln lq:Addr} {te us tq:List V} {es:List Ent} {rs:List R7} {wn sp:List Str} {ws:List (Int × Int)}
  (zok:ZsOk sp (wn.zip rs)) (eok:Ent13 (wn.zip rs) es) (lrw:rs.length=wn.length) (net:NetAt a H np (sp.zip (ws.map vC)) ((wn.zip rs).map (zd sp)))
  (hE:SqL K H le te) (hes:RowAt EntIs H te es) (hR:SqL K H lr us) (hrs:RowAt R7Is H us rs) (rok:∀ r∈rs,R7Ok sp.length r) (hW:SqL K H lw (wn.map V.str)) (hN:SqL K H ln (sp.map V.str)) (hQ:SqL K H lq tq) (hws:RowAt DueIs H tq ws)
  (lws:ws.length=sp.length) (wb:∀ c∈ws,WB c) (spl:∀ x∈sp,x.length≤1000) (wnl:∀ x∈wn,x.length≤1000) :
  ∃ N,Lk K a H np le lr lw ln lq te us tq es rs wn sp ws (sp.zip (ws.map vC)) ((wn.zip rs).map (zd sp)) (coOf (wn.zip rs)) N:=by
 have z1:(wn.zip rs).map (·.1)=wn:=List.map_fst_zip (by omega)
 have z2:(wn.zip rs).map (·.2)=rs:=List.map_snd_zip (by omega)
 have aok:=eok.aok zok
 have so:=(zok.sumA aok).1
 have nok:=net16 zok lws
 have fr:=frel (ws:=ws) zok eok lrw
 have dn:((wn.zip rs).map (zd sp)).map (·.nm)=wn:=by rw [gJ];exact z1
 have l12:sp.length≤12:=zok.lp
 have l26:=eok.len
 have lz:=zok.len
 have lzz:(wn.zip rs).length=rs.length:=by rw [List.length_zip];omega
 have l24:rs.length≤24:=by omega
 have lps:(sp.zip (ws.map vC)).length=sp.length:=by rw [List.length_zip,List.length_map];omega
 refine ⟨((es.map (·.1)).map fun n=>coOf (wn.zip rs) n*bx es n).length*(220+1),⟨net,by rw [dn,← z1];exact zok.nd,by rw [List.length_map];omega,by omega,⟨nok.np,Nat.le_trans nok.lp (by decide),nok.io,so.ne,so.sx,so.sa,so.sf⟩,fun y hy h hh=>?_,fun z hz=>?_,hE,hes,l26,eok.nd,eok.pb,hR,hrs,rok,l24,hW,lrw,hN,l12,hQ,hws,lws,wb,fr.1,fr.2,?_,fun wd n rest hf=>?_,fun x hx=>?_,fun hf=>?_,?_⟩⟩
 ·obtain ⟨z,hz,rfl⟩:=List.mem_map.mp hy
  rw [show (zd sp z).hi=z.2.hi.map vC from R7.d_hi _ _ _] at hh
  cases e:z.2.hi with
  | none=>rw [e] at hh;cases hh
  | some c=>
   rw [e] at hh
   cases hh
   obtain ⟨h0,h1,h2,h3⟩:=(zok.all z hz).hi c e
   exact (Bd.divInt (n:=200) h1 (Nat.le_trans (show c.2.natAbs≤100 by omega) (Nat.le_trans (show 100≤2 ^ 7 by decide) (aV (by decide))))).smr (by decide)
 ·obtain ⟨c,hc,e⟩:=List.mem_map.mp (List.of_mem_zip (show (z.1,z.2)∈sp.zip (ws.map vC) from hz)).2
  have wc:=wb c hc
  rw [← e]
  exact (Bd.divInt (n:=420) wc.b1 wc.b3).smr (by decide)
 ·unfold aZ aO a7 bv
  rw [List.length_append,List.length_append,List.length_map,List.length_map,List.length_map]
  have h1:=List.length_filter_le (fun n=>decide (¬ n∈((wn.zip rs).map (zd sp)).map (·.nm))) (es.map (·.1))
  have h2:=List.length_filter_le (fun y:WD=>dF y.hi (bx es y.nm)) ((wn.zip rs).map (zd sp))
  have h3:=List.length_filter_le (fun z:Str × Rat=>decide (cD (bx es) ((wn.zip rs).map (zd sp)) z.1<z.2)) (sp.zip (ws.map vC))
  rw [List.length_map] at h1 h2
  omega
 ·have m:(wd,n)∈aZ (es.map (·.1)) (bx es) (sp.zip (ws.map vC)) ((wn.zip rs).map (zd sp)):=by rw [hf];exact List.mem_cons_self
  unfold aZ aO a7 bv at m
  rcases List.mem_append.mp m with m | m
  ·rcases List.mem_append.mp m with m | m
   ·obtain ⟨x,hx,e⟩:=List.mem_map.mp m
    cases e
    obtain ⟨y,hy,rfl⟩:=List.mem_map.mp (List.mem_filter.mp hx).1
    exact eok.ln y hy
   ·obtain ⟨x,hx,e⟩:=List.mem_map.mp m
    cases e
    refine wnl _ ?_
    rw [← dn]
    exact List.mem_map.mpr ⟨x,(List.mem_filter.mp hx).1,rfl⟩
  ·obtain ⟨x,hx,e⟩:=List.mem_map.mp m
   cases e
   exact spl _ (List.of_mem_zip (show (x.1,x.2)∈sp.zip (ws.map vC) from (List.mem_filter.mp hx).1)).1
 ·obtain ⟨z,hz,rfl⟩:=List.mem_map.mp hx
  rw [show (zd sp z).nm=z.1 from R7.d_nm _ _ _,coOf_at zok.nd hz]
  exact R7.d_co _ _ _
 ·have sub:∀ n∈es.map (·.1),n∈(wn.zip rs).map (·.1):=fun n hn=>by
   have:=sub_of_nil hf n hn
   rw [gJ] at this
   exact this
  have all:∀ n∈es.map (·.1),Bd 220 (coOf (wn.zip rs) n*bx es n)∧SmR (bx es n)∧SmR (coOf (wn.zip rs) n):=fun n hn=>by
   obtain ⟨z,hz,rfl⟩:=List.mem_map.mp (sub n hn)
   obtain ⟨o1,o2,o3⟩:=co_over zok aok hz
   obtain ⟨j,e,b⟩:=o1
   exact ⟨by rw [e];exact Bd.divInt b (by decide),o3,o2⟩
  refine ⟨fun n hn=>(all n hn).2,BdS.of _ fun x hx=>?_,?_⟩
  ·obtain ⟨n,hn,rfl⟩:=List.mem_map.mp hx
   exact (all n hn).1
  ·rw [worth_sum zok.nd eok.nd sub,amt_valE,eok.worth zok,z2]
   rfl
 ·rw [List.length_map,List.length_map]
  omega
theorem new16 {sp:List Str} {ws cs:List (Int × Int)} (nd:sp.Nodup) (l1:ws.length=sp.length) (l2:cs.length=sp.length):newP sp (bx (sp.zip cs)) (sp.zip (ws.map vC))=sp.zip (cs.map vC):=by
 have e1:(sp.zip cs).map (·.1)=sp:=List.map_fst_zip (by omega)
 refine List.ext_getElem? fun i=>?_
 unfold newP
 rw [List.getElem?_map]
 cases h:(sp.zip (ws.map vC))[i]? with
 | none=>
  have:sp.length≤i:=by
   have:=List.getElem?_eq_none_iff.mp h
   rw [List.length_zip,List.length_map] at this
   omega
  exact (List.getElem?_eq_none_iff.mpr (by rw [List.length_zip,List.length_map];omega)).symm
 | some x=>
  obtain ⟨h1,h2⟩:=List.getElem?_zip_eq_some.mp h
  have hi:=(List.getElem?_eq_some_iff.mp h1).1
  obtain ⟨c,hc⟩:∃ c,cs[i]?=some c:=⟨_,List.getElem?_eq_getElem (by omega)⟩
  have m:(x.1,c)∈sp.zip cs:=List.mem_of_getElem? (List.getElem?_zip_eq_some.mpr ⟨h1,hc⟩)
  have v:bx (sp.zip cs) x.1=gm c:=gL (e:=(x.1,c)) (by rw [e1];exact nd) m
  refine Eq.trans ?_ (List.getElem?_zip_eq_some.mpr (show sp[i]?=some (x.1,vC c).1∧(cs.map vC)[i]?=some (x.1,vC c).2 from ⟨h1,by rw [List.getElem?_map,hc];rfl⟩)).symm
  rw [Option.map_some,if_pos (List.mem_of_getElem? h1),v]
  rfl
structure Bt (i:Int):Prop where
 le:Builtin.Int.intBits i≤2 ^ 20
inductive IspLaw (K:PySem.W.Frag) (vs:List V) (H:Hp) (Q:VK):Prop
 | mk (l:Addr) (ns:List Int) (h1:vs=[.ref l]) (h2:SqL K H l (ns.map V.int)) (h3:ns.length≤63) (h4:(∀ i∈ns,Bt i)) (h5:∀ H',Q (.bl true) H'):IspLaw K vs H Q
def spLaw (K:PySem.W.Frag):Sp:=fun vs H Q _=>IspLaw K vs H Q
theorem hG (k c:Int):aT k c≠"0q0q":=fun h=>by
 have h:=congrArg (fun u:Str=>u.cps.toList) h
 have e:("0q0q":Str).cps.toList=[48,113,48,113]:=by decide +kernel
 have h:(aT k c).cps.toList=[48,113,48,113]:=h.trans e
 unfold aT at h
 split at h
 ·rw [dO] at h
  have h1:=List.eq_of_mem_replicate (show 48∈List.replicate _ _ by rw [h];simp)
  have h2:=List.eq_of_mem_replicate (show 113∈List.replicate _ _ by rw [h];simp)
  omega
 ·rw [fY,fY,show ("x":Str)=⟨#[120]⟩ from by decide +kernel,dO,dO] at h
  have h:List.replicate (c / 3 % 25).toNat 120++[sgAt (eK k c)]++List.replicate (c / 75 % 25).toNat 120=[48,113,48,113]:=h
  generalize (c / 3 % 25).toNat=m at h
  generalize (c / 75 % 25).toNat=n at h
  cases m with
  | zero=>
   cases n with
   | zero=>exact absurd (congrArg List.length h) (by simp)
   | succ n=>simp [List.replicate_succ] at h
  | succ m=>simp [List.replicate_succ] at h
structure BadOk (wn bad:List Str):Prop where
 nd:bad.Nodup
 len:bad.length≤2
 no:∀ b∈bad,¬ b∈wn
 ln:∀ b∈bad,b.length≤1000
 nq:∀ b∈bad,b≠"0q0q"
theorem not_names {c i:Int} {n:Nat} (hn:n≤24) (h0:24≤i) (h1:i<37):¬ aT i c∈aU c n:=fun h=>by
 unfold aU at h
 obtain ⟨j,hj,e⟩:=List.mem_map.mp h
 have hj:=List.mem_range.mp hj
 have:=gC (show (0:Int)≤j by omega) (by omega) (by omega) h1 e
 omega
theorem badOk0 (wn:List Str):BadOk wn []:=⟨List.nodup_nil,Nat.zero_le _,fun b h=>absurd h List.not_mem_nil,fun b h=>absurd h List.not_mem_nil,fun b h=>absurd h List.not_mem_nil⟩
theorem badOk1 {c i:Int} {n:Nat} (hn:n≤24) (h0:24≤i) (h1:i<37):BadOk (aU c n) [aT i c]:=
 ⟨by simp,by show 1≤2;decide,fun b h=>by rw [List.mem_singleton.mp h];exact not_names hn h0 h1,fun b h=>by rw [List.mem_singleton.mp h];exact Nat.le_trans (d7 _ _) (by decide),fun b h=>by rw [List.mem_singleton.mp h];exact hG _ _⟩
theorem badOk2 {c i j:Int} {n:Nat} (hn:n≤24) (h0:24≤i) (h1:i<37) (h2:24≤j) (h3:j<37) (ne:i≠j):BadOk (aU c n) [aT i c,aT j c]:=by
 refine ⟨?_,Nat.le_refl 2,fun b h=>?_,fun b h=>?_,fun b h=>?_⟩
 ·refine List.nodup_cons.mpr ⟨fun z=>ne (gC (by omega) h1 (by omega) h3 (List.mem_singleton.mp z)),by simp⟩
 ·rcases List.mem_cons.mp h with z | z
  ·rw [z];exact not_names hn h0 h1
  ·rw [List.mem_singleton.mp z];exact not_names hn h2 h3
 ·rcases List.mem_cons.mp h with z | z
  ·rw [z];exact Nat.le_trans (d7 _ _) (by decide)
  ·rw [List.mem_singleton.mp z];exact Nat.le_trans (d7 _ _) (by decide)
 ·rcases List.mem_cons.mp h with z | z
  ·rw [z];exact hG _ _
  ·rw [List.mem_singleton.mp z];exact hG _ _
theorem namesOf_ln {c:Int} {n:Nat} {x:Str} (h:x∈aU c n):x.length≤1000:=by
 unfold aU at h
 obtain ⟨j,_,rfl⟩:=List.mem_map.mp h
 exact Nat.le_trans (d7 _ _) (by decide)
theorem namesOf_q {c:Int} {n:Nat} {x:Str} (h:x∈aU c n):x≠"0q0q":=by
 unfold aU at h
 obtain ⟨j,_,rfl⟩:=List.mem_map.mp h
 exact hG _ _
theorem ent13 {wn bad:List Str} {rs:List R7} {es:List Ent} (h:EntsP wn (rs.map (·.put)) bad es) (b:BadOk wn bad) (nd:wn.Nodup) (lw:rs.length=wn.length) (ln:∀ x∈wn,x.length≤1000):Ent13 (wn.zip rs) es:=by
 refine ⟨h.nd,by have:=h.len;have:=b.len;omega,h.pb,fun e he=>(h.in_ e he).elim (ln _) (b.ln _),fun z hz c hc=>?_,fun z hz hn m=>?_⟩
 ·obtain ⟨i,hi⟩:=List.mem_iff_getElem?.mp hz
  rw [List.getElem?_zip_eq_some] at hi
  refine (h.own (z.1,c) (List.mem_of_getElem? hi.1)).mpr (ent_mem.mpr ⟨i,hi.1,?_⟩)
  rw [List.getElem?_map,hi.2,Option.map_some,hc]
 ·obtain ⟨i,hi⟩:=List.mem_iff_getElem?.mp hz
  rw [List.getElem?_zip_eq_some] at hi
  obtain ⟨e,he,ee⟩:=List.mem_map.mp m
  have hw:e.1∈wn:=by rw [ee];exact List.mem_of_getElem? hi.1
  obtain ⟨j,h1,h2⟩:=ent_mem.mp ((h.own e hw).mp he)
  rw [ee] at h1
  have ij:=(List.getElem?_inj (List.getElem?_eq_some_iff.mp h1).1 nd).mp (h1.trans hi.1.symm)
  subst ij
  rw [List.getElem?_map,hi.2,Option.map_some,hn] at h2
  cases h2
theorem ok_law {f:Addr} {fd:FuncData} (N:Fun K "law" "law" ge f fd) (T:TX K mg a):FnOk P w K mg base CX0 18 f fd ["_law_script"] (spLaw K):=by
 refine N.ok sc_law (fun vs H Q E h=>?_) (fun cdv A outer s₀ H vs Q E hr h=>?_)
 ·obtain ⟨l,ns,rfl,_⟩:=h
  rfl
 ·obtain ⟨l,ns,rfl,hS,hlen,hbt,k⟩:=h
  refine ⟨_,(ae (ar (i:=1) sc_law.nd rfl (Or.inr rfl) (ao aW (aG (bi T) hr aq (aa (pv 0) (aa af ac))) af))
   (aN (ar (i:=2) sc_law.nd rfl (Or.inr rfl) (ao aW (aG (bi T) hr aq (aa (pv 0) (aa af ac))) af))
   (aN (ar (i:=3) sc_law.nd rfl (Or.inr rfl) (au ay (cB (aa af (aa af (aa af (aa (ao bY (ao op_pow af af) af) ac))))) (ao aW (ao bp (aG (bi T) hr aq (aa (pv 0) (aa af ac))) af) af) (fun _ _=>rfl)))
   (aN (ar (i:=4) sc_law.nd rfl (Or.inr rfl) (d6 (xs:=["_law_k"]) (rest:=["_law_script"]) rfl (bo rfl T.z_range (aa (pv 1) ac))
   (fun pins fp C' s' H'=>(aA (i:=0) (show (["_law_k","_law_script"]:List Str).Nodup by decide +kernel) rfl (Or.inl rfl))) (fun pins fp C' s' H'=>dC)
   (fun pins fp C' s' H'=>(aG (eD T) hr aq (aa (pv 0) (aa (aG (bi T) hr aq (aa (pv 1) (aa af ac))) ac))))
   (Clos.many (ys:=["_law_script"]) rfl ⟨rfl,True.intro⟩ rfl (by decide +kernel)) (Reads.many (ys:=["_law_script"]) (js:=[0]) ⟨⟨rfl,rfl,rfl⟩,True.intro⟩)))
   (aN (ar (i:=5) sc_law.nd rfl (Or.inr rfl) (aG (bi T) hr aq (aa (pv 0) (aa af ac))))
   (aN (ar (i:=6) sc_law.nd rfl (Or.inr rfl) (d6 (xs:=["_law_k"]) (rest:=["_law_far","_law_mode","_law_n","_law_script"]) rfl (bo rfl T.z_range (aa (aG (ok_law_many T) hr aq (aa (aG (bi T) hr aq (aa (pv 0) (aa af ac))) (aa (pv 1) ac))) ac))
   (fun pins fp C' s' H'=>(aA (i:=0) (show (["_law_k","_law_far","_law_mode","_law_n","_law_script"]:List Str).Nodup by decide +kernel) rfl (Or.inl rfl))) (fun pins fp C' s' H'=>dC)
   (fun pins fp C' s' H'=>(aG (ok_law_row T) hr aq (aa (aG (gA T) hr aq (aa (pv 4) (aa (ao bY af (pv 0)) ac))) (aa (pv 3) (aa (pv 2) (aa (pv 1) ac))))))
   (Clos.many (ys:=["_law_script","_law_n","_law_mode","_law_far"]) rfl ⟨rfl,rfl,rfl,rfl,True.intro⟩ rfl (by decide +kernel)) (Reads.many (ys:=["_law_far","_law_mode","_law_n","_law_script"]) (js:=[3,2,1,0]) ⟨⟨rfl,rfl,rfl⟩,⟨rfl,rfl,rfl⟩,⟨rfl,rfl,rfl⟩,⟨rfl,rfl,rfl⟩,True.intro⟩)))
   (aN (ar (i:=7) sc_law.nd rfl (Or.inr rfl) (d6 (xs:=["_law_k"]) (rest:=["_law_shape"]) rfl (bo rfl T.z_range (aa (am a0 (by rfl) T.z_len PySem.boot_len (aa (pv 6) ac)) ac))
   (fun pins fp C' s' H'=>(aA (i:=0) (show (["_law_k","_law_shape"]:List Str).Nodup by decide +kernel) rfl (Or.inl rfl))) (fun pins fp C' s' H'=>dC)
   (fun pins fp C' s' H'=>(aG (eD T) hr aq (aa (pv 0) (aa (pv 1) ac))))
   (Clos.many (ys:=["_law_shape"]) rfl ⟨rfl,True.intro⟩ rfl (by decide +kernel)) (Reads.many (ys:=["_law_shape"]) (js:=[5]) ⟨⟨rfl,rfl,rfl⟩,True.intro⟩)))
   (aN (ar (i:=8) sc_law.nd rfl (Or.inr rfl) (aG (ok_law_wants T) hr aq (aa (pv 0) (aa (pv 1) (aa (pv 2) (aa (pv 6) ac))))))
   (aN (d5 (i:=9) (xs:=["_law_k"]) (rest:=["_law_names","_law_wants_here"]) sc_law.nd rfl rfl rfl (bo rfl T.z_range (aa (pv 1) ac))
   (fun pins fp C' s' H'=>(aA (i:=0) (show (["_law_k","_law_names","_law_wants_here"]:List Str).Nodup by decide +kernel) rfl (Or.inl rfl))) (fun pins fp C' s' H'=>dC)
   (fun pins fp C' s' H'=>(aR (aa (au (r:=rIxL K) ay (pv 1) (pv 0) (fun _ _=>rfl)) (aa (b7 (mk2 T) hr T.mg_Fraction aq (aa (au (r:=rIxT K) aB (au (r:=rIxL K) ay (pv 2) (pv 0) (fun _ _=>rfl)) af (fun _ _=>rfl)) (aa (au (r:=rIxT K) aB (au (r:=rIxL K) ay (pv 2) (pv 0) (fun _ _=>rfl)) af (fun _ _=>rfl)) ac))) ac))))
   (Clos.many (ys:=["_law_wants_here","_law_names"]) rfl ⟨rfl,rfl,True.intro⟩ rfl (by decide +kernel)) (Reads.many (ys:=["_law_names","_law_wants_here"]) (js:=[4,8]) ⟨⟨rfl,rfl,rfl⟩,⟨rfl,rfl,rfl⟩,True.intro⟩))
   (aN (ar (i:=10) sc_law.nd rfl (Or.inl rfl) (pe_mk (mk_Net T) hr T.mg_Net aq (aa (pv 9) (aa (d6 (xs:=["_law_k"]) (rest:=["_law_names","_law_rows","_law_ways"]) rfl (bo rfl T.z_range (aa (am a0 (by rfl) T.z_len PySem.boot_len (aa (pv 6) ac)) ac))
   (fun pins fp C' s' H'=>(aA (i:=0) (show (["_law_k","_law_names","_law_rows","_law_ways"]:List Str).Nodup by decide +kernel) rfl (Or.inl rfl))) (fun pins fp C' s' H'=>dC)
   (fun pins fp C' s' H'=>(aG (ok_law_way T) hr aq (aa (au (r:=rIxL K) ay (pv 2) (pv 0) (fun _ _=>rfl)) (aa (au (r:=rIxL K) ay (pv 3) (pv 0) (fun _ _=>rfl)) (aa (pv 1) ac)))))
   (Clos.many (ys:=["_law_ways","_law_rows","_law_names"]) rfl ⟨rfl,rfl,rfl,True.intro⟩ rfl (by decide +kernel)) (Reads.many (ys:=["_law_names","_law_rows","_law_ways"]) (js:=[4,6,7]) ⟨⟨rfl,rfl,rfl⟩,⟨rfl,rfl,rfl⟩,⟨rfl,rfl,rfl⟩,True.intro⟩)) ac))))
   (ae (ar (i:=11) sc_law.nd rfl (Or.inl rfl) (cB ac))
   (aN (aC (ax cA (pv 2) af (aD _)) (ai (ar (i:=11) sc_law.nd rfl (Or.inl rfl) (fK gP (cB (aa (aG (eD T) hr aq (aa af (aa (pv 5) ac))) (aa (aG (eD T) hr aq (aa af (aa (pv 5) ac))) ac))) gW (gU (ao bY af (ao aW (aG (bi T) hr aq (aa (pv 0) (aa af ac))) af)))))) al)
   (aN (ar (i:=12) sc_law.nd rfl (Or.inl rfl) (aG (ok_law_entries T) hr aq (aa (pv 6) (aa (pv 7) (aa (pv 11) (aa (aG (gA T) hr aq (aa (pv 0) (aa af ac))) ac))))))
   (aN (d5 (i:=13) (xs:=["_law_entry"]) (rest:=["_law_ways"]) sc_law.nd rfl rfl rfl (bH (pv 12))
   (fun pins fp C' s' H'=>(aA (i:=0) (show (["_law_entry","_law_ways"]:List Str).Nodup by decide +kernel) rfl (Or.inl rfl))) (fun pins fp C' s' H'=>(pts_one (ax (op_inK (K:=K) rfl) (au (r:=rIxT K) aB (pv 0) af (fun _ _=>rfl)) (pv 1) (by with_unfolding_all rfl))))
   (fun pins fp C' s' H'=>(pv 0))
   (Clos.many (ys:=["_law_ways"]) rfl ⟨rfl,True.intro⟩ rfl (by decide +kernel)) (Reads.many (ys:=["_law_ways"]) (js:=[7]) ⟨⟨rfl,rfl,rfl⟩,True.intro⟩))
   (ae (aC (PW.pt (cE (cY (aJ (aG (eI T) hr aq (aa (pv 10) (aa (pv 12) (aa (pv 6) (aa (pv 7) (aa (pv 4) (aa (pv 8) ac))))))))) (du (cY (aJ (aG (eI T) hr aq (aa (pv 10) (aa (pv 13) (aa (pv 6) (aa (pv 7) (aa (pv 4) (aa (pv 8) ac)))))))))))) (ai (aw fu)) al)
   (aN (ar (i:=8) sc_law.nd rfl (Or.inr rfl) (aG (eC T) hr aq (aa (pv 6) (aa (pv 1) ac))))
   (ae (ar (i:=14) sc_law.nd rfl (Or.inl rfl) eS)
   (aN (bu PassesOwn.never rfl (bo rfl T.z_range (aa (pv 1) ac)) (aA (i:=15) sc_law.nd rfl (Or.inl rfl)) (ai (d9 (cm hr) (pv 14) (au ay (pv 4) (pv 15) (fun _ _=>rfl)) (b7 (mk2 T) hr T.mg_Fraction aq (aa (au aB (au ay (pv 8) (pv 15) (fun _ _=>rfl)) af (fun _ _=>rfl)) (aa (au aB (au ay (pv 8) (pv 15) (fun _ _=>rfl)) af (fun _ _=>rfl)) ac))) rfl)))
   (ai (aw (aG (eI T) hr aq (aa (gw (CX:=CX0) (pv 10) hr aq (aa (pv 14) ac)) (aa (pv 12) (aa (pv 6) (aa (pv 7) (aa (pv 4) (aa (pv 8) ac))))))))))))))))))))))))))),?_⟩
  try dsimp only [aS,Cx.nox,Cx.wish]
  obtain ⟨n0,n1⟩:=bq (cx ns 0) (show (0:Int)<13 by decide)
  obtain ⟨n,hn⟩:=Int.eq_ofNat_of_zero_le n0
  have n12:n≤12:=by omega
  obtain ⟨mode,hmode⟩:∃ m:Int,cx ns 1 % 4=m:=⟨_,rfl⟩
  refine ⟨_,rfl,l,ns,0,rfl,hS,_,_,rfl,rfl,by show (0:Int)<13;decide,?_⟩
  refine ⟨fun σ' H'=>σ'=[some (.ref l),some (.int n),some (.int mode),none,none,none,none,none,none,none,none,none,none,none,none,none]∧H'=H,?_,?_⟩
  ·refine ⟨_,rfl,l,ns,1,rfl,hS,_,_,rfl,rfl,by show (0:Int)<4;decide,?_,rfl⟩
   rw [← hmode,← hn]
   rfl
  rintro σ' H' ⟨rfl,eH⟩
  rw [eH]
  clear eH
  refine ⟨fun σ' H'=>∃ far:Int,σ'=[some (.ref l),some (.int n),some (.int mode),some (.int far),none,none,none,none,none,none,none,none,none,none,none,none]∧Same H H'∧far.natAbs≤2 ^ 140,?_,?_⟩
  ·refine ⟨_,_,rfl,rfl,⟨by decide,by decide,by decide⟩,_,_,rfl,rfl,by show 4≤sizeLine;decide,fun q nq=>?_⟩
   have ml:upd H q (.lst [.int 1,.int 1,.int 1,.int (10 ^ 40+7)]) q=some (.lst [.int 1,.int 1,.int 1,.int (10 ^ 40+7)]):=ad
   have s1:=aj (o:=.lst [.int 1,.int 1,.int 1,.int (10 ^ 40+7)]) nq
   obtain ⟨e0,e1⟩:=bq (cx ns 1 / 4) (show (0:Int)<4 by decide)
   obtain ⟨j,hj⟩:=Int.eq_ofNat_of_zero_le e0
   have ex:∃ far:Int,atI [V.int 1,.int 1,.int 1,.int (10 ^ 40+7)] (cx ns 1 / 4 % 4)=some (.int far)∧far.natAbs≤2 ^ 140:=by
    rw [hj]
    match j,hj with
    | 0,_=>exact ⟨1,rfl,by decide⟩
    | 1,_=>exact ⟨1,rfl,by decide⟩
    | 2,_=>exact ⟨1,rfl,by decide⟩
    | 3,_=>exact ⟨10 ^ 40+7,rfl,by decide⟩
    | j+4,hj=>omega
   obtain ⟨far,a4,hf⟩:=ex
   exact ⟨_,rfl,l,ns,1,rfl,s1.seq hS,_,_,rfl,rfl,⟨by decide,by decide⟩,_,_,rfl,rfl,by show (0:Int)<4;decide,q,_,_,_,rfl,rfl,SqL.of ml,a4,far,rfl,s1,hf⟩
  rintro σ' H2 ⟨far,rfl,s2,hfar⟩
  generalize hc0:cx ns 2=cn
  refine ⟨fun σ' H'=>∃ ln:Addr,σ'=[some (.ref l),some (.int n),some (.int mode),some (.int far),some (.ref ln),none,none,none,none,none,none,none,none,none,none,none]∧Same H H'∧H' ln=some (.lst ((aU cn n).map V.str)),?_,?_⟩
  ·refine ⟨_,rfl,(n:Int),rfl,by omega,by omega,fun ln nln=>?_⟩
   refine cv (fun i H3=>i≤n∧Same H2 H3∧H3 ln=some (.lst ((aU cn i).map V.str))) ⟨Nat.zero_le _,aj nln,ad⟩ ?_ ?_
   ·rintro i H3 hi ⟨_,s3,h3⟩
    refine g1 ⟨⟨[_],rfl,rfl⟩,yes ?_⟩
    have hi':i<n:=by simpa using hi
    refine ⟨_,rfl,_,rfl,l,ns,2,rfl,(s2.trans s3).seq hS,_,_,rfl,by omega,by omega,?_⟩
    refine ⟨_,h3,aL (by rw [List.length_map,eE];omega),c7 (by simpa using hi) ⟨hi',aP nln s3,?_⟩⟩
    rw [ad,g9,List.map_append,Int.zero_add,hc0]
    rfl
   ·rintro H3 ⟨_,s3,h3⟩
    exact ⟨ln,rfl,s2.trans s3,by simpa using h3⟩
  rintro σ' H4 ⟨ln,rfl,s14,hln⟩
  have spn:(aU cn n).Nodup:=namesOf_nd (by omega)
  have spl:(aU cn n).length=n:=eE _ _
  have splen:∀ x∈aU cn n,x.length≤1000:=fun x hx=>namesOf_ln hx
  generalize aU cn n=sp at hln spn spl splen
  refine ⟨fun σ' H'=>∃ cw:Int,σ'=[some (.ref l),some (.int n),some (.int mode),some (.int far),some (.ref ln),some (.int cw),none,none,none,none,none,none,none,none,none,none]∧H'=H4∧cw=cx ns 3,?_,?_⟩
  ·exact ⟨_,rfl,l,ns,3,rfl,s14.seq hS,_,rfl,rfl,rfl⟩
  rintro σ' H4' ⟨cw,rfl,eH4,_⟩
  rw [eH4]
  clear eH4
  refine ⟨fun σ' H'=>∃ (lr:Addr) (ts:List V) (rs:List R7),σ'=[some (.ref l),some (.int n),some (.int mode),some (.int far),some (.ref ln),some (.int cw),some (.ref lr),none,none,none,none,none,none,none,none,none]∧Same H4 H'∧H' lr=some (.lst ts)∧RowAt R7Is H' ts rs∧rs.length≤24∧∀ r∈rs,R7Ok n r,?_,?_⟩
  ·refine ⟨_,rfl,l,ns,4,rfl,s14.seq hS,_,rfl,_,_,rfl,fun m m24 m0=>?_⟩
   refine ⟨(m:Int),rfl,by omega,by omega,fun lr nlr=>?_⟩
   refine cv (n:=(m:Int).toNat) (fun i H5=>i≤m∧Same H4 H5∧∃ (ts:List V) (rs:List R7),H5 lr=some (.lst ts)∧RowAt R7Is H5 ts rs∧rs.length=i∧∀ r∈rs,R7Ok n r) ⟨Nat.zero_le _,aj nlr,[],[],ad,RowAt.nil,rfl,fun r hr=>absurd hr List.not_mem_nil⟩ ?_ ?_
   ·rintro i H5 hi ⟨_,s5,ts,rs,h5,hv,lrs,hok⟩
    refine g1 ⟨⟨[_],rfl,rfl⟩,yes ?_⟩
    have hi':i<m:=by simpa using hi
    refine ⟨_,rfl,_,rfl,_,_,rfl,rfl,l,ns,6+i,by show [V.ref l,V.int (6+(0+(i:Int)))]=[V.ref l,V.int ((6+i:Nat):Int)];rw [show 6+(0+(i:Int))=((6+i:Nat):Int) by omega],(s14.trans s5).seq hS,by omega,fun c=>?_⟩
    refine ⟨_,rfl,_,rfl,_,rfl,c,mode,far,n,rfl,(by omega),by omega,hfar,fun v r H6 s6 h6 ok6=>?_⟩
    have h56:=s6 _ _ h5
    have lts:ts.length=i:=by rw [hv.1,lrs]
    refine ⟨_,h56,aL (by omega),c7 (by simpa using hi) ⟨hi',aP nlr (s5.trans s6),_,rs++[r],ad,?_,by simp [lrs],fun x hx=>?_⟩⟩
    ·exact RowAt.snoc (hv.mono fun v x z=>(z.mono s6).ko (.lst h56)) (h6.ko (.lst h56))
    ·rcases List.mem_append.mp hx with z | z
     ·exact hok x z
     ·rw [List.mem_singleton.mp z]
      exact ok6
   ·rintro H5 ⟨_,s5,ts,rs,h5,hv,lrs,hok⟩
    have lrm:rs.length=m:=by simpa using lrs
    exact ⟨lr,ts,rs,rfl,s5,h5,hv,by omega,hok⟩
  rintro σ' H5 ⟨lr,ts,rs,rfl,s5,hlr,hrs,l24,rok⟩
  have s15:=s14.trans s5
  obtain ⟨m,hm⟩:∃ m,rs.length=m:=⟨_,rfl⟩
  have m24:m≤24:=by omega
  have lts:ts.length=m:=by rw [hrs.1,hm]
  have lnt:((ts.length:Nat):Int).toNat=m:=by rw [lts];rfl
  refine ⟨fun σ' H'=>∃ lw:Addr,σ'=[some (.ref l),some (.int n),some (.int mode),some (.int far),some (.ref ln),some (.int cw),some (.ref lr),some (.ref lw),none,none,none,none,none,none,none,none]∧Same H5 H'∧H' lw=some (.lst ((aU cw m).map V.str)),?_,?_⟩
  ·refine ⟨_,rfl,lr,_,rfl,.inl (SqL.of hlr),_,rfl,by omega,by omega,fun lw nlw=>?_⟩
   refine cv (n:=((ts.length:Nat):Int).toNat) (fun i H6=>i≤m∧Same H5 H6∧H6 lw=some (.lst ((aU cw i).map V.str))) ⟨Nat.zero_le _,aj nlw,ad⟩ ?_ ?_
   ·rintro i H6 hi ⟨_,s6,h6⟩
    refine g1 ⟨⟨[_],rfl,rfl⟩,yes ?_⟩
    have hi':i<m:=by rw [← lnt];exact hi
    refine ⟨_,rfl,_,rfl,_,_,rfl,by omega,by omega,?_⟩
    refine ⟨_,h6,aL (by rw [List.length_map,eE];omega),c7 hi ⟨hi',aP nlw s6,?_⟩⟩
    rw [ad,g9,List.map_append,Int.zero_add]
    rfl
   ·rintro H6 ⟨_,s6,h6⟩
    rw [lnt] at h6
    exact ⟨lw,rfl,s6,h6⟩
  rintro σ' H6 ⟨lw,rfl,s6,hlw⟩
  have wnd:(aU cw m).Nodup:=namesOf_nd (by omega)
  have wln:(aU cw m).length=m:=eE _ _
  have wnl:∀ x∈aU cw m,x.length≤1000:=fun x hx=>namesOf_ln hx
  have wnq:∀ x∈aU cw m,x≠"0q0q":=fun x hx=>namesOf_q hx
  have bo1:BadOk (aU cw m) [aT 30 cw]:=badOk1 m24 (by decide) (by decide)
  have bo2:BadOk (aU cw m) [aT 30 cw,aT 31 cw]:=badOk2 m24 (by decide) (by decide) (by decide) (by decide) (by decide)
  generalize aU cw m=wn at hlw wnd wln wnl wnq bo1 bo2
  have z1:(wn.zip rs).map (·.1)=wn:=List.map_fst_zip (by omega)
  have zok:ZsOk sp (wn.zip rs):=⟨fun z hz=>by rw [spl];exact rok _ (List.of_mem_zip hz).2,by rw [z1];exact wnd,by rw [List.length_zip];omega,spn,by omega⟩
  have s16:=s15.trans s6
  have hln6:=(s5.trans s6) _ _ hln
  have hlr6:=s6 _ _ hlr
  have hrs6:=hrs.mono fun v x z=>z.mono s6
  have zat:∀ i x r,wn[i]?=some x→rs[i]?=some r→(wn.zip rs)[i]?=some (x,r):=fun i x r h1 h2=>by rw [List.getElem?_zip_eq_some];exact ⟨h1,h2⟩
  refine ⟨fun σ' H'=>∃ (lq:Addr) (tq:List V) (ws:List (Int × Int)),σ'=[some (.ref l),some (.int n),some (.int mode),some (.int far),some (.ref ln),some (.int cw),some (.ref lr),some (.ref lw),some (.ref lq),none,none,none,none,none,none,none]∧Same H6 H'∧H' lq=some (.lst tq)∧RowAt DueIs H' tq ws∧ws.length=n∧∀ c∈ws,WB c,?_,?_⟩
  ·refine ⟨_,rfl,_,rfl,_,rfl,_,rfl,l,lr,n,mode,ns,ts,rs,rfl,n12,s16.seq hS,SqL.of hlr6,hrs6,rok,l24,fun lq H7 tq ws nlq s7 hlq htq lws wb=>?_⟩
   exact ⟨lq,tq,ws,rfl,s7,hlq,htq,lws,wb⟩
  rintro σ' H7 ⟨lq,tq,ws,rfl,s7,hlq,htq,lws,wb⟩
  refine ⟨fun σ' H'=>∃ (lp:Addr) (tp:List V),σ'=[some (.ref l),some (.int n),some (.int mode),some (.int far),some (.ref ln),some (.int cw),some (.ref lr),some (.ref lw),some (.ref lq),some (.ref lp),none,none,none,none,none,none]∧Same H7 H'∧H' lp=some (.lst tp)∧RowAt (PlIs a) H' tp (sp.zip (ws.map vC)),?_,?_⟩
  ·have hln7:=(s5.trans (s6.trans s7)) _ _ hln
   refine ⟨_,rfl,(n:Int),rfl,by omega,by omega,fun lp nlp=>?_⟩
   refine cv (fun i H8=>i≤n∧Same H7 H8∧∃ tp,H8 lp=some (.lst tp)∧RowAt (PlIs a) H8 tp ((sp.zip (ws.map vC)).take i)) ⟨Nat.zero_le _,aj nlp,[],ad,RowAt.nil⟩ ?_ ?_
   ·rintro i H8 hi ⟨_,s8,tp,h8,hv⟩
    have hi':i<n:=by simpa using hi
    refine g1 ⟨⟨[_],rfl,rfl⟩,yes ?_⟩
    have ey:sp[i]?=some (sp[i]'(by omega)):=List.getElem?_eq_getElem _
    have ec:ws[i]?=some (ws[i]'(by omega)):=List.getElem?_eq_getElem _
    generalize sp[i]'(by omega)=y at ey
    generalize ws[i]'(by omega)=c at ec
    have wc:=wb c (List.mem_of_getElem? ec)
    obtain ⟨tv,etv,pv,rfl,hpv⟩:=htq.get' ec
    have a1:atI (sp.map V.str) (0+(i:Int))=some (.str y):=by rw [Int.zero_add];exact eJ ey
    have a2:atI tq (0+(i:Int))=some (.ref pv):=by rw [Int.zero_add];exact atI_nat etv
    have sqv:=SqT.of (K:=K) (s8 _ _ hpv)
    refine ⟨_,rfl,_,rfl,ln,_,_,_,rfl,rfl,SqL.of (s8 _ _ hln7),a1,_,rfl,_,rfl,lq,_,_,_,rfl,rfl,SqL.of (s8 _ _ hlq),a2,pv,_,_,_,rfl,rfl,sqv,rfl,_,rfl,_,rfl,lq,_,_,_,rfl,rfl,SqL.of (s8 _ _ hlq),a2,pv,_,_,_,rfl,rfl,sqv,rfl,c.1,c.2,rfl,by have:=wc.b2;omega,wc.sm.2,fun q H9 nq s9 f9=>?_⟩
    refine ⟨by show 2≤sizeLine;decide,fun t nt=>?_⟩
    have s10:=aj (o:=.tup [.str y,.ref q]) nt
    have ht:upd H9 t (.tup [.str y,.ref q]) t=some (.tup [.str y,.ref q]):=ad
    generalize upd H9 t (.tup [.str y,.ref q])=H10 at s10 ht ⊢
    have s810:=s9.trans s10
    have h10:=s810 _ _ h8
    have ltp:tp.length≤12:=by rw [hv.1,List.length_take];omega
    have ez:(sp.zip (ws.map vC))[i]?=some (y,vC c):=by rw [List.getElem?_zip_eq_some];exact ⟨ey,by rw [List.getElem?_map,ec];rfl⟩
    refine ⟨_,h10,aL (by omega),c7 (by simpa using hi) ⟨hi',aP nlp (s8.trans s810),_,ad,?_⟩⟩
    rw [List.take_add_one,ez,Option.toList_some]
    exact RowAt.snoc (hv.mono fun v x z=>(z.mono s810).ko (.lst h10)) (PlIs.ko ⟨t,q,rfl,ht,f9.mono s10⟩ (.lst h10))
   ·rintro H8 ⟨_,s8,tp,h8,hv⟩
    have tl:(sp.zip (ws.map vC)).take n=sp.zip (ws.map vC):=List.take_of_length_le (by rw [List.length_zip,List.length_map];omega)
    exact ⟨lp,tp,rfl,s8,h8,by simpa [tl] using hv⟩
  rintro σ' H8 ⟨lp,tp,rfl,s8,hlp,htp⟩
  have l78:=s7.trans s8
  have s18:=s16.trans l78
  have hlr8:=l78 _ _ hlr6
  have hrs8:=hrs6.mono fun v x z=>z.mono l78
  have hlw8:=l78 _ _ hlw
  have hln8:=l78 _ _ hln6
  have hlq8:=s8 _ _ hlq
  have htq8:=htq.mono fun v x z=>DueIs.mono z s8
  have lws':ws.length=sp.length:=by omega
  have nok:=net16 zok lws'
  have lrw:rs.length=wn.length:=by omega
  have rok':∀ r∈rs,R7Ok sp.length r:=by rw [spl];exact rok
  have wnl16:=wnl
  clear htq hlq hrs6 hlr6 hln6
  refine ⟨fun σ' H'=>∃ np:Addr,σ'=[some (.ref l),some (.int n),some (.int mode),some (.int far),some (.ref ln),some (.int cw),some (.ref lr),some (.ref lw),some (.ref lq),some (.ref lp),some (.ref np),none,none,none,none,none]∧Same H8 H'∧NetAt a H' np (sp.zip (ws.map vC)) ((wn.zip rs).map (zd sp)),?_,?_⟩
  ·refine ⟨_,rfl,_,rfl,lr,_,rfl,.inl (SqL.of hlr8),_,rfl,by omega,by omega,fun l2 nl2=>?_⟩
   refine cv (n:=((ts.length:Nat):Int).toNat) (fun i H9=>i≤m∧Same H8 H9∧∃ xs,H9 l2=some (.lst xs)∧RowAt (WayIs a) H9 xs (((wn.zip rs).take i).map (zd sp))) ⟨Nat.zero_le _,aj nl2,[],ad,RowAt.nil⟩ ?_ ?_
   ·rintro i H9 hi ⟨_,s9,xs,h9,hw⟩
    refine g1 ⟨⟨[_],rfl,rfl⟩,yes ?_⟩
    have hi':i<m:=by rw [← lnt];exact hi
    have er:rs[i]?=some rs[i]:=List.getElem?_eq_getElem (by omega)
    have ew:wn[i]?=some wn[i]:=List.getElem?_eq_getElem (by omega)
    generalize rs[i]=r at er
    generalize wn[i]=x at ew
    obtain ⟨tv,etv,htv⟩:=hrs8.get' er
    have a1:atI ts (0+(i:Int))=some tv:=by rw [Int.zero_add];exact atI_nat etv
    have a2:atI (wn.map V.str) (0+(i:Int))=some (.str x):=by rw [Int.zero_add];exact eJ ew
    refine ⟨_,rfl,_,rfl,lr,_,_,_,rfl,rfl,SqL.of (s9 _ _ hlr8),a1,_,rfl,_,rfl,lw,_,_,_,rfl,rfl,SqL.of (s9 _ _ hlw8),a2,_,rfl,tv,r,x,ln,sp,rfl,htv.mono s9,rok' r (List.mem_of_getElem? er),spn,SqL.of (s9 _ _ hln8),fun p H10 np s10 W=>?_⟩
    have h10:=s10 _ _ h9
    have lxs:xs.length=i:=by rw [hw.1,List.length_map,List.length_take,List.length_zip];omega
    refine ⟨_,h10,aL (by omega),c7 hi ⟨hi',aP nl2 (s9.trans s10),_,ad,?_⟩⟩
    rw [List.take_add_one,zat i x r ew er,Option.toList_some,List.map_append]
    exact RowAt.snoc (hw.mono fun v x z=>(z.mono s10).ko (.lst h10)) (W.ko (.lst h10))
   ·rintro H9 ⟨_,s9,xs,h9,hw⟩
    have tl:(wn.zip rs).take m=wn.zip rs:=List.take_of_length_le (by rw [List.length_zip];omega)
    rw [lnt,tl] at hw
    intro p dx h1 h2 h3
    have ss:=fG (C:=a.Net) h1 h2
    exact ⟨p,dx,lp,l2,tp,xs,_,_,rfl,ad,ss.seq (SqL.of (s9 _ _ hlp)),htp.mono (fun v x z=>(z.mono s9).mono ss),ss.seq (SqL.of h9),hw.mono (fun v x z=>z.mono ss),nok,fun H' hs hn=>⟨rfl,p,rfl,s9.trans (fH h1 h2 hs),hn⟩⟩
  rintro σ' H9 ⟨np,rfl,s9,hnet⟩
  have s19:=s18.trans s9
  have hlr9:=s9 _ _ hlr8
  have hrs9:=hrs8.mono fun v x z=>z.mono s9
  have hlw9:=s9 _ _ hlw8
  have hln9:=s9 _ _ hln8
  have hlq9:=s9 _ _ hlq8
  have htq9:=htq8.mono fun v x z=>DueIs.mono z s9
  clear htp hlp htq8 hlq8 hrs8 hlr8 hln8 hlw8
  refine ⟨by decide,fun b0 nb0=>?_⟩
  have e0:=aj (o:=.lst []) nb0
  have h0:upd H9 b0 (.lst []) b0=some (.lst (([]:List Str).map V.str)):=ad
  generalize upd H9 b0 (.lst [])=G0 at e0 h0 ⊢
  refine ⟨fun σ' H'=>∃ (b:Addr) (bad:List Str),σ'=[some (.ref l),some (.int n),some (.int mode),some (.int far),some (.ref ln),some (.int cw),some (.ref lr),some (.ref lw),some (.ref lq),some (.ref lp),some (.ref np),some (.ref b),none,none,none,none]∧Same H9 H'∧H' b=some (.lst (bad.map V.str))∧BadOk wn bad,?_,?_⟩
  ·refine ⟨_,rfl,rfl,_,rfl,ifV (fun h3=>?_) (fun h3=>⟨b0,[],rfl,e0,h0,badOk0 _⟩)⟩
   refine ⟨_,rfl,30,cw,rfl,by decide,by decide,_,rfl,31,cw,rfl,by decide,by decide,by show 2≤sizeLine;decide,fun b1 nb1=>?_⟩
   have e1:=aj (o:=.lst [.str (aT 30 cw),.str (aT 31 cw)]) nb1
   have h1:upd G0 b1 (.lst [.str (aT 30 cw),.str (aT 31 cw)]) b1=some (.lst [.str (aT 30 cw),.str (aT 31 cw)]):=ad
   generalize upd G0 b1 (.lst [.str (aT 30 cw),.str (aT 31 cw)])=G1 at e1 h1 ⊢
   refine ⟨_,rfl,l,ns,5,rfl,(s19.trans (e0.trans e1)).seq hS,_,_,rfl,rfl,by show (0:Int)<2;decide,_,_,rfl,rfl,_,rfl,b1,_,rfl,SqL.of h1,fun p np'=>?_⟩
   obtain ⟨g0,g1'⟩:=bq (cx ns 5) (show (0:Int)<2 by decide)
   have e2:=aj (o:=.lst (dQ [V.str (aT 30 cw),.str (aT 31 cw)] none (some (1+cx ns 5 % 2)))) np'
   have h2:∃ bad:List Str,upd G1 p (.lst (dQ [V.str (aT 30 cw),.str (aT 31 cw)] none (some (1+cx ns 5 % 2)))) p=some (.lst (bad.map V.str))∧BadOk wn bad:=by
    rw [ad]
    rcases (show cx ns 5 % 2=0∨cx ns 5 % 2=1 by omega) with z | z
    ·rw [z]
     exact ⟨[aT 30 cw],congrArg (fun z=>some (HO.lst z)) (hX (xs:=[V.str (aT 30 cw),.str (aT 31 cw)]) 1),bo1⟩
    ·rw [z]
     exact ⟨[aT 30 cw,aT 31 cw],congrArg (fun z=>some (HO.lst z)) (hX (xs:=[V.str (aT 30 cw),.str (aT 31 cw)]) 2),bo2⟩
   generalize upd G1 p (.lst (dQ [V.str (aT 30 cw),.str (aT 31 cw)] none (some (1+cx ns 5 % 2))))=G2 at e2 h2 ⊢
   obtain ⟨bad,h2,bok⟩:=h2
   exact ⟨p,bad,rfl,e0.trans (e1.trans e2),h2,bok⟩
  clear h0 e0
  rintro σ' H10 ⟨b,bad,rfl,s10,hb,bok⟩
  clear bo1 bo2
  have s110:=s19.trans s10
  have hlr10:=s10 _ _ hlr9
  have hrs10:=hrs9.mono fun v x z=>z.mono s10
  have hlw10:=s10 _ _ hlw9
  have pb1:∀ z,some z∈rs.map (·.put)→PB z:=fun z hz=>by
   obtain ⟨r,hr,er⟩:=List.mem_map.mp hz
   obtain ⟨q1,q2,q3⟩:=(rok r hr).pt z er
   exact ⟨q1,q2,q3⟩
  refine ⟨fun σ' H'=>∃ (le:Addr) (te:List V) (es:List Ent),σ'=[some (.ref l),some (.int n),some (.int mode),some (.int far),some (.ref ln),some (.int cw),some (.ref lr),some (.ref lw),some (.ref lq),some (.ref lp),some (.ref np),some (.ref b),some (.ref le),none,none,none]∧Same H9 H'∧H' le=some (.lst te)∧RowAt EntIs H' te es∧Ent13 (wn.zip rs) es,?_,?_⟩
  ·refine ⟨_,rfl,_,rfl,_,rfl,_,rfl,l,ns,5,rfl,s110.seq hS,by omega,fun c=>?_⟩
   refine ⟨lr,lw,b,c,ts,rs,wn,bad,rfl,SqL.of hlr10,hrs10,SqL.of hlw10,SqL.of hb,lrw,by omega,wnd,bok.nd,bok.len,bok.no,pb1,fun le H11 us es nle s11 hle hes epk=>?_⟩
   exact ⟨le,us,es,rfl,s10.trans s11,hle,hes,ent13 epk bok wnd lrw wnl⟩
  clear hlr10 hrs10 hlw10 hb
  rintro σ' H11 ⟨le,te,es,rfl,s911,hle,hes,eok⟩
  refine ⟨fun σ' H'=>∃ (lo:Addr) (to:List V),σ'=[some (.ref l),some (.int n),some (.int mode),some (.int far),some (.ref ln),some (.int cw),some (.ref lr),some (.ref lw),some (.ref lq),some (.ref lp),some (.ref np),some (.ref b),some (.ref le),some (.ref lo),none,none]∧Same H11 H'∧H' lo=some (.lst to)∧RowAt EntIs H' to (es.filter fun e=>decide (e.1∈wn)),?_,?_⟩
  ·refine ⟨_,rfl,le,rfl,⟨_,SqL.of hle⟩,fun lo nlo=>?_⟩
   refine fm (K:=K) (a:=le) (xs:=te) (fun i H2=>i≤es.length∧Same H11 H2∧∃ to,H2 lo=some (.lst to)∧RowAt EntIs H2 to ((es.take i).filter fun e=>decide (e.1∈wn))) ⟨Nat.zero_le _,aj nlo,[],ad,RowAt.nil⟩ (fun i H2 ⟨_,s2,_⟩=>SqL.of (s2 _ _ hle)) ?_ ?_
   ·rintro i x H2 hx ⟨_,s2,to,h2,hv⟩
    obtain ⟨e,ee,t,vp,rfl,ht,hvp⟩:=hes.get hx
    have hi:=(List.getElem?_eq_some_iff.mp ee).1
    have ht2:=s2 _ _ ht
    have hlw2:=(s911.trans s2) _ _ hlw9
    have tk:(es.take (i+1)).filter (fun e=>decide (e.1∈wn))=(es.take i).filter (fun e=>decide (e.1∈wn))++[e].filter (fun e=>decide (e.1∈wn)):=by
     rw [List.take_add_one,ee,Option.toList_some,List.filter_append]
    have lto:to.length≤26:=by
     rw [hv.1]
     refine Nat.le_trans (List.length_filter_le _ _) ?_
     have:=eok.len
     rw [List.length_take]
     omega
    refine g1 ⟨⟨[_],rfl,rfl⟩,?_⟩
    refine ⟨_,rfl,t,_,_,_,rfl,rfl,SqT.of ht2,rfl,_,rfl,lw,_,rfl,.inl (SqL.of hlw2),rfl,eU _,_,rfl,?_⟩
    by_cases hin:e.1∈wn
    ·refine fA (show inV _ _=true by rw [fe,decide_eq_true hin]) ?_
     refine ⟨_,rfl,_,h2,aL (by omega),c7 (by rw [hes.1];exact hi) ⟨hi,aP nlo s2,_,ad,?_⟩⟩
     rw [tk,List.filter_cons_of_pos (by simp [hin])]
     exact RowAt.snoc (hv.mono fun v x z=>z.ko (.lst h2)) (EntIs.ko ⟨t,vp,rfl,ht2,hvp.mono s2⟩ (.lst h2))
    ·refine c6 (show inV _ _=false by rw [fe,decide_eq_false hin]) ?_
     refine c7 (by rw [hes.1];exact hi) ⟨hi,s2,to,h2,?_⟩
     rw [tk,List.filter_cons_of_neg (by simp [hin]),List.filter_nil,List.append_nil]
     exact hv
   ·rintro H2 ⟨_,s2,to,h2,hv⟩
    rw [hes.1,List.take_length] at hv
    exact ⟨lo,to,rfl,s2,h2,hv⟩
  rintro σ' H12 ⟨lo,to,rfl,s12,hlo,hto⟩
  have s912:=s911.trans s12
  have oown:=own16 eok z1
  have look1:∀ {H':Hp},Same H12 H'→∃ N,Lk K a H' np le lr lw ln lq te ts tq es rs wn sp ws (sp.zip (ws.map vC)) ((wn.zip rs).map (zd sp)) (coOf (wn.zip rs)) N:=fun s=>by
   have s9':=s912.trans s
   have s11':=s12.trans s
   exact lk16 zok eok lrw (hnet.mono s9') (SqL.of (s11' _ _ hle)) (hes.mono fun _ _ z=>z.mono s11') (SqL.of (s9' _ _ hlr9)) (hrs9.mono fun _ _ z=>z.mono s9') rok' (SqL.of (s9' _ _ hlw9)) (SqL.of (s9' _ _ hln9)) (SqL.of (s9' _ _ hlq9)) (htq9.mono fun _ _ z=>DueIs.mono z s9') lws' wb splen wnl
  have look2:∀ {H':Hp},Same H12 H'→∃ N,Lk K a H' np lo lr lw ln lq to ts tq (es.filter fun e=>decide (e.1∈wn)) rs wn sp ws (sp.zip (ws.map vC)) ((wn.zip rs).map (zd sp)) (coOf (wn.zip rs)) N:=fun s=>by
   have s9':=s912.trans s
   exact lk16 zok oown lrw (hnet.mono s9') (SqL.of (s _ _ hlo)) (hto.mono fun _ _ z=>z.mono s) (SqL.of (s9' _ _ hlr9)) (hrs9.mono fun _ _ z=>z.mono s9') rok' (SqL.of (s9' _ _ hlw9)) (SqL.of (s9' _ _ hln9)) (SqL.of (s9' _ _ hlq9)) (htq9.mono fun _ _ z=>DueIs.mono z s9') lws' wb splen wnl
  obtain ⟨N1,D1⟩:=look1 (Same.refl H12)
  refine ⟨_,rfl,_,rfl,_,rfl,_,rfl,_,rfl,_,rfl,np,le,lr,lw,ln,lq,te,ts,tq,es,rs,wn,sp,ws,_,_,_,N1,rfl,D1,fun H13 s13=>⟨_,rfl,iteF ?_⟩⟩
  obtain ⟨N2,D2⟩:=look2 s13
  refine ⟨_,rfl,_,rfl,_,rfl,_,rfl,_,rfl,_,rfl,np,lo,lr,lw,ln,lq,to,ts,tq,_,rs,wn,sp,ws,_,_,_,N2,rfl,D2,fun H14 s14'=>⟨_,rfl,iteF ?_⟩⟩
  have s1214:=s13.trans s14'
  have s914:=s912.trans s1214
  have s1114:=s12.trans s1214
  clear D1 D2 look1 look2
  have hlr14:=s914 _ _ hlr9
  have hrs14:=hrs9.mono fun v x z=>z.mono s914
  have hlw14:=s914 _ _ hlw9
  have hln14:=s914 _ _ hln9
  have hnet14:=hnet.mono s914
  have hle14:=s1114 _ _ hle
  have hes14:=hes.mono fun v x z=>z.mono s1114
  refine ⟨fun σ' H'=>∃ (lu:Addr) (tu:List V) (cs:List (Int × Int)),σ'=[some (.ref l),some (.int n),some (.int mode),some (.int far),some (.ref ln),some (.int cw),some (.ref lr),some (.ref lw),some (.ref lu),some (.ref lp),some (.ref np),some (.ref b),some (.ref le),some (.ref lo),none,none]∧Same H14 H'∧H' lu=some (.lst tu)∧RowAt DueIs H' tu cs∧cs.length=n∧∀ c∈cs,WB c,?_,?_⟩
  ·refine ⟨_,rfl,_,rfl,lr,n,ts,rs,rfl,n12,SqL.of hlr14,hrs14,rok,l24,fun lu H15 tu cs nlu s15 hlu hcs lcs hcsv=>?_⟩
   refine ⟨lu,tu,cs,rfl,s15,hlu,hcs,lcs,fun c hc=>?_⟩
   obtain ⟨i,hi⟩:=List.mem_iff_getElem?.mp hc
   obtain ⟨c1,c2,c3,_⟩:=hcsv i c hi
   exact ⟨Nat.le_trans c1 (aV (by decide)),c3,Nat.le_trans c2 (aV (by decide))⟩
  rintro σ' H15 ⟨lu,tu,cs,rfl,s15',hlu,hcs,lcs,wbc⟩
  have lcs':cs.length=sp.length:=by omega
  have e1s:(sp.zip cs).map (·.1)=sp:=List.map_fst_zip (by omega)
  refine fun d nd0=>?_
  have s16':=aj (o:=.dK []) nd0
  have hd0:upd H15 d (.dK []) d=some (.dK []):=ad
  generalize upd H15 d (.dK [])=H16 at s16' hd0 ⊢
  have hln15:=s15' _ _ hln14
  refine ⟨fun σ' H'=>∃ z15 kvs,σ'=[some (.ref l),some (.int n),some (.int mode),some (.int far),some (.ref ln),some (.int cw),some (.ref lr),some (.ref lw),some (.ref lu),some (.ref lp),some (.ref np),some (.ref b),some (.ref le),some (.ref lo),some (.ref d),z15]∧Same H15 H'∧H' d=some (.dK kvs)∧Tab (FrIs a) H' kvs sp (bx (sp.zip cs)),?_,?_⟩
  ·refine ⟨_,rfl,(n:Int),rfl,by omega,by omega,dA (n:=n) (fun i σ H2'=>i≤n∧∃ z15 kvs,σ=[some (.ref l),some (.int n),some (.int mode),some (.int far),some (.ref ln),some (.int cw),some (.ref lr),some (.ref lw),some (.ref lu),some (.ref lp),some (.ref np),some (.ref b),some (.ref le),some (.ref lo),some (.ref d),z15]∧Same H15 H2'∧H2' d=some (.dK kvs)∧Tab (FrIs a) H2' kvs (sp.take i) (bx (sp.zip cs))) ⟨Nat.zero_le _,_,[],rfl,s16',hd0,Tab.nil⟩ ?_ ?_⟩
   ·rintro i σ H2' hi ⟨_,z15,kvs,rfl,s2',hd,tb⟩
    have hi':i<n:=by omega
    have ec:cs[i]?=some (cs[i]'(by omega)):=List.getElem?_eq_getElem (by omega)
    have ex:sp[i]?=some (sp[i]'(by omega)):=List.getElem?_eq_getElem (by omega)
    generalize cs[i]'(by omega)=c at ec
    generalize sp[i]'(by omega)=x at ex
    obtain ⟨tk,nk⟩:=eL spn ex
    obtain ⟨tv,etv,pq,rfl,hpq⟩:=hcs.get' ec
    have wc:=wbc c (List.mem_of_getElem? ec)
    have a1:atI tu (0+(i:Int))=some (.ref pq):=by rw [Int.zero_add];exact atI_nat etv
    have a2:atI (sp.map V.str) (0+(i:Int))=some (.str x):=by rw [Int.zero_add];exact eJ ex
    have sqr:=SqL.of (K:=K) (s2' _ _ hlu)
    have sqv:=SqT.of (K:=K) (s2' _ _ hpq)
    have mz:(x,c)∈sp.zip cs:=List.mem_of_getElem? (List.getElem?_zip_eq_some.mpr ⟨ex,ec⟩)
    refine ⟨_,rfl,_,rfl,lu,_,_,_,rfl,rfl,sqr,a1,pq,_,_,_,rfl,rfl,sqv,rfl,_,rfl,_,rfl,lu,_,_,_,rfl,rfl,sqr,a1,pq,_,_,_,rfl,rfl,sqv,rfl,c.1,c.2,rfl,by have:=wc.b2;omega,wc.sm.2,fun z H3' nz s3' f3=>?_⟩
    have lk:kvs.length≤900:=by rw [tb.len,List.length_take];omega
    refine ⟨_,rfl,_,rfl,_,rfl,ln,_,_,_,rfl,rfl,SqL.of ((s2'.trans s3') _ _ hln15),a2,d,_,rfl,DPut.k (k:=Sum.inr x) (s3' _ _ hd) (aL (by omega)),?_⟩
    have kp:KeepD H3' (upd H3' d (.dK (cX kvs (Sum.inr x) (.ref z)))):=KeepD.put (s3' _ _ hd)
    refine ⟨hi',_,_,rfl,aP nd0 (s2'.trans s3'),ad,?_⟩
    rw [tk,← ic nk]
    refine (Tab.put (n:=x) (tb.mono fun v x z=>(z.mono s3').keep kp) (FrIs.keep ⟨z,rfl,f3⟩ kp)).congr fun y _=>?_
    unfold upf
    split
    ·rename_i em
     rw [em]
     exact (gL (e:=(x,c)) (by rw [e1s];exact spn) mz).symm
    ·rfl
   ·rintro σ H2' ⟨_,z15,kvs,rfl,s2',hd,tb⟩
    rw [show n=sp.length by omega,List.take_length] at tb
    exact ⟨_,kvs,rfl,s2',hd,tb⟩
  rintro σ' H17 ⟨z15,kvs,rfl,s17,hd,tb⟩
  have s1417:=s15'.trans s17
  have off:NetOff a H17 np d (sp.zip (ws.map vC)) ((wn.zip rs).map (zd sp)):=⟨H15,hnet14.mono s15',s17,nd0⟩
  obtain ⟨dx,dw,dy,hp,hw,hy⟩:=off.at_
  have noa:=dH dw dy (m:="wanting") (by decide +kernel) (by decide +kernel)
  refine ⟨_,rfl,np,a.Net,dx,_,7,["self","wants"],spWanting a,rfl,hp,noa,T.cl_Net,by decide,ok_Net_wanting T,_,rfl,np,d,_,_,kvs,sp,bx (sp.zip cs),rfl,off,nok,hd,tb,spn,(by rw [ps16 lws'];exact fun _ h=>h),fun q H18 nq s18' hn'=>?_⟩
  rw [new16 spn lws' lcs'] at hn'
  have s1418:=s1417.trans s18'
  have s1518:=s17.trans s18'
  obtain ⟨N3,D3⟩:=lk16 (K:=K) zok eok lrw hn' (SqL.of (s1418 _ _ hle14)) (hes14.mono fun _ _ z=>z.mono s1418) (SqL.of (s1418 _ _ hlr14)) (hrs14.mono fun _ _ z=>z.mono s1418) rok' (SqL.of (s1418 _ _ hlw14)) (SqL.of (s1418 _ _ hln14)) (SqL.of (s1518 _ _ hlu)) (hcs.mono fun _ _ z=>DueIs.mono z s1518) lcs' wbc splen wnl
  exact ⟨_,rfl,_,rfl,_,rfl,_,rfl,_,rfl,q,le,lr,lw,ln,lu,te,ts,tu,es,rs,wn,sp,cs,_,_,_,N3,rfl,D3,fun H19 _=>k H19⟩
end
end G
namespace G
open PySem L2
theorem lm1 {α:Type}:∀ us:List α,us.length=1→∃ a,us=[a]
 | [a],_=>⟨a,rfl⟩
theorem lm2 {α:Type}:∀ us:List α,us.length=2→∃ a b,us=[a,b]
 | [a,b],_=>⟨a,b,rfl⟩
theorem lm3 {α:Type}:∀ us:List α,us.length=3→∃ a b c,us=[a,b,c]
 | [a,b,c],_=>⟨a,b,c,rfl⟩
theorem lm4 {α:Type}:∀ us:List α,us.length=4→∃ a b c d,us=[a,b,c,d]
 | [a,b,c,d],_=>⟨a,b,c,d,rfl⟩
theorem lm5 {α:Type}:∀ us:List α,us.length=5→∃ a b c d e,us=[a,b,c,d,e]
 | [a,b,c,d,e],_=>⟨a,b,c,d,e,rfl⟩
theorem lm6 {α:Type}:∀ us:List α,us.length=6→∃ a b c d e f,us=[a,b,c,d,e,f]
 | [a,b,c,d,e,f],_=>⟨a,b,c,d,e,f,rfl⟩
theorem lm7 {α:Type}:∀ us:List α,us.length=7→∃ a b c d e f g,us=[a,b,c,d,e,f,g]
 | [a,b,c,d,e,f,g],_=>⟨a,b,c,d,e,f,g,rfl⟩
theorem all_mk {l:W.OpenLaw} {w:World} {K:W.Frag} {h:Heap} {mg:Str→Option Value} {fa A_Fraction A_Way A_Growing A_Leaking A_Store A_Net A_GainError A_NoNumber A_TooMany A_NoRing A_NoStrand A_NoExchange A_NoText A_NoRow A_NoWay A_Broken A_Twice A_NoPlace A_OverBound A_Short:Addr} (X:K.In h) (G:h.Ns mainGlobals mg) (hfa:mg "law"=some (.ref fa))
  {fQ0 fQ1 fQ2 fQ3 fQ4 fQ5 fQ6 fQ7 fQ8 fQ9 fQ10 fQ11 fQ12 fQ13 fQ14 fQ15 fQ16 fQ17 fQ18 fQ19 fQ20 fQ21 fQ22 fQ23 fQ24 fQ25 fQ26 fQ27 fQ28 fQ29 fQ30 fQ31 fQ32 fQ33 fQ34 fQ35 fQ36 fQ37 fQ38 fQ39 fDlaw fIFraction TIFraction fQ40 fQ41 fQ42 fQ43 fQ44 fIWay TIWay fQ45 fQ46 fIGrowing TIGrowing fQ47 fILeaking TILeaking fQ48 fQ49 fQ50 fQ51 fQ52 fQ53 fQ54 fQ55 fQ56 fQ57:Addr}
  {odQ0 anQ0 odQ1 anQ1 odQ2 anQ2 odQ3 anQ3 odQ4 anQ4 odQ5 anQ5 odQ6 anQ6 odQ7 anQ7 odQ8 anQ8 odQ9 anQ9 odQ10 anQ10 odQ11 anQ11 odQ12 anQ12 odQ13 anQ13 odQ14 anQ14 odQ15 anQ15 odQ16 anQ16 odQ17 anQ17 odQ18 anQ18 odQ19 anQ19 odQ20 anQ20 odQ21 anQ21 odQ22 anQ22 odQ23 anQ23 odQ24 anQ24 odQ25 anQ25 odQ26 anQ26 odQ27 anQ27 odQ28 anQ28 odQ29 anQ29 odQ30 anQ30 odQ31 anQ31 odQ32 anQ32 odQ33 anQ33 odQ34 anQ34 odQ35 anQ35 odQ36 anQ36 odQ37 anQ37 odQ38 anQ38 odQ39 anQ39 odDlaw anDlaw odIFraction anIFraction odQ40 anQ40 odQ41 anQ41 odQ42 anQ42 odQ43 anQ43 odQ44 anQ44 odIWay anIWay odQ45 anQ45 odQ46 anQ46 odIGrowing anIGrowing odQ47 anQ47 odILeaking anILeaking odQ48 anQ48 odQ49 anQ49 odQ50 anQ50 odQ51 anQ51 odQ52 anQ52 odQ53 anQ53 odQ54 anQ54 odQ55 anQ55 odQ56 anQ56 odQ57 anQ57:Option Addr}
  {slQ0 slQ1 slQ2 slQ3 slQ4 slQ5 slQ6 slQ7 slQ8 slQ9 slQ10 slQ11 slQ12 slQ13 slQ14 slQ15 slQ16 slQ17 slQ18 slQ19 slQ20 slQ21 slQ22 slQ23 slQ24 slQ25 slQ26 slQ27 slQ28 slQ29 slQ30 slQ31 slQ32 slQ33 slQ34 slQ35 slQ36 slQ37 slQ38 slQ39 slDlaw slIFraction slQ40 slQ41 slQ42 slQ43 slQ44 slIWay slQ45 slQ46 slIGrowing slQ47 slILeaking slQ48 slQ49 slQ50 slQ51 slQ52 slQ53 slQ54 slQ55 slQ56 slQ57:Array (Option Value)}
  {ocQ0 kVQ0 dcQ0 pmQ0 cdQ0 ctQ0 ocQ1 kVQ1 dcQ1 pmQ1 cdQ1 ctQ1 ocQ2 kVQ2 dcQ2 pmQ2 cdQ2 ctQ2 ocQ3 kVQ3 dcQ3 pmQ3 cdQ3 ctQ3 ocQ4 kVQ4 dcQ4 pmQ4 cdQ4 ctQ4 ocQ5 kVQ5 dcQ5 pmQ5 cdQ5 ctQ5 ocQ6 kVQ6 dcQ6 pmQ6 cdQ6 ctQ6 ocQ7 kVQ7 dcQ7 pmQ7 cdQ7 ctQ7 ocQ8 kVQ8 dcQ8 pmQ8 cdQ8 ctQ8 ocQ9 kVQ9 dcQ9 pmQ9 cdQ9 ctQ9 ocQ10 kVQ10 dcQ10 pmQ10 cdQ10 ctQ10 ocQ11 kVQ11 dcQ11 pmQ11 cdQ11 ctQ11 ocQ12 kVQ12 dcQ12 pmQ12 cdQ12 ctQ12 ocQ13 kVQ13 dcQ13 pmQ13 cdQ13 ctQ13 ocQ14 kVQ14 dcQ14 pmQ14 cdQ14 ctQ14 ocQ15 kVQ15 dcQ15 pmQ15 cdQ15 ctQ15 ocQ16 kVQ16 dcQ16 pmQ16 cdQ16 ctQ16 ocQ17 kVQ17 dcQ17 pmQ17 cdQ17 ctQ17 ocQ18 kVQ18 dcQ18 pmQ18 cdQ18 ctQ18 ocQ19 kVQ19 dcQ19 pmQ19 cdQ19 ctQ19 ocQ20 kVQ20 dcQ20 pmQ20 cdQ20 ctQ20 ocQ21 kVQ21 dcQ21 pmQ21 cdQ21 ctQ21 ocQ22 kVQ22 dcQ22 pmQ22 cdQ22 ctQ22 ocQ23 kVQ23 dcQ23 pmQ23 cdQ23 ctQ23 ocQ24 kVQ24 dcQ24 pmQ24 cdQ24 ctQ24 ocQ25 kVQ25 dcQ25 pmQ25 cdQ25 ctQ25 ocQ26 kVQ26 dcQ26 pmQ26 cdQ26 ctQ26 ocQ27 kVQ27 dcQ27 pmQ27 cdQ27 ctQ27 ocQ28 kVQ28 dcQ28 pmQ28 cdQ28 ctQ28 ocQ29 kVQ29 dcQ29 pmQ29 cdQ29 ctQ29 ocQ30 kVQ30 dcQ30 pmQ30 cdQ30 ctQ30 ocQ31 kVQ31 dcQ31 pmQ31 cdQ31 ctQ31 ocQ32 kVQ32 dcQ32 pmQ32 cdQ32 ctQ32 ocQ33 kVQ33 dcQ33 pmQ33 cdQ33 ctQ33 ocQ34 kVQ34 dcQ34 pmQ34 cdQ34 ctQ34 ocQ35 kVQ35 dcQ35 pmQ35 cdQ35 ctQ35 ocQ36 kVQ36 dcQ36 pmQ36 cdQ36 ctQ36 ocQ37 kVQ37 dcQ37 pmQ37 cdQ37 ctQ37 ocQ38 kVQ38 dcQ38 pmQ38 cdQ38 ctQ38 ocQ39 kVQ39 dcQ39 pmQ39 cdQ39 ctQ39 ocDlaw kVDlaw dcDlaw pmDlaw cdDlaw ctDlaw ocIFraction kVIFraction dcIFraction pmIFraction cdIFraction ctIFraction ocQ40 kVQ40 dcQ40 pmQ40 cdQ40 ctQ40 ocQ41 kVQ41 dcQ41 pmQ41 cdQ41 ctQ41 ocQ42 kVQ42 dcQ42 pmQ42 cdQ42 ctQ42 ocQ43 kVQ43 dcQ43 pmQ43 cdQ43 ctQ43 ocQ44 kVQ44 dcQ44 pmQ44 cdQ44 ctQ44 ocIWay kVIWay dcIWay pmIWay cdIWay ctIWay ocQ45 kVQ45 dcQ45 pmQ45 cdQ45 ctQ45 ocQ46 kVQ46 dcQ46 pmQ46 cdQ46 ctQ46 ocIGrowing kVIGrowing dcIGrowing pmIGrowing cdIGrowing ctIGrowing ocQ47 kVQ47 dcQ47 pmQ47 cdQ47 ctQ47 ocILeaking kVILeaking dcILeaking pmILeaking cdILeaking ctILeaking ocQ48 kVQ48 dcQ48 pmQ48 cdQ48 ctQ48 ocQ49 kVQ49 dcQ49 pmQ49 cdQ49 ctQ49 ocQ50 kVQ50 dcQ50 pmQ50 cdQ50 ctQ50 ocQ51 kVQ51 dcQ51 pmQ51 cdQ51 ctQ51 ocQ52 kVQ52 dcQ52 pmQ52 cdQ52 ctQ52 ocQ53 kVQ53 dcQ53 pmQ53 cdQ53 ctQ53 ocQ54 kVQ54 dcQ54 pmQ54 cdQ54 ctQ54 ocQ55 kVQ55 dcQ55 pmQ55 cdQ55 ctQ55 ocQ56 kVQ56 dcQ56 pmQ56 cdQ56 ctQ56 ocQ57 kVQ57 dcQ57 pmQ57 cdQ57 ctQ57:Value}
  {oIFraction oIWay oIGrowing oILeaking:Obj}
  {nIFraction nIWay nIGrowing nILeaking:Nat}
  {tkIFraction0 tk_MOST_PLACES tk_MOST_WAYS:Tok}
  {cdx_NoWay cdx_OverBound cdx_Short cd_ca2_GainError cd_xcl_NoWay cd_xcl_OverBound cd_xcl_Short:ClassData}
  (n_Fraction:W.nsIn K mainGlobals "Fraction"=some (some (.ref A_Fraction)))
  (n_Way:W.nsIn K mainGlobals "Way"=some (some (.ref A_Way)))
  (n_Growing:W.nsIn K mainGlobals "Growing"=some (some (.ref A_Growing)))
  (n_Leaking:W.nsIn K mainGlobals "Leaking"=some (some (.ref A_Leaking)))
  (n_Store:W.nsIn K mainGlobals "Store"=some (some (.ref A_Store)))
  (n_Net:W.nsIn K mainGlobals "Net"=some (some (.ref A_Net)))
  (n_GainError:W.nsIn K mainGlobals "GainError"=some (some (.ref A_GainError)))
  (n_NoNumber:W.nsIn K mainGlobals "NoNumber"=some (some (.ref A_NoNumber)))
  (n_TooMany:W.nsIn K mainGlobals "TooMany"=some (some (.ref A_TooMany)))
  (n_NoRing:W.nsIn K mainGlobals "NoRing"=some (some (.ref A_NoRing)))
  (n_NoStrand:W.nsIn K mainGlobals "NoStrand"=some (some (.ref A_NoStrand)))
  (n_NoExchange:W.nsIn K mainGlobals "NoExchange"=some (some (.ref A_NoExchange)))
  (n_NoText:W.nsIn K mainGlobals "NoText"=some (some (.ref A_NoText)))
  (n_NoRow:W.nsIn K mainGlobals "NoRow"=some (some (.ref A_NoRow)))
  (n_NoWay:W.nsIn K mainGlobals "NoWay"=some (some (.ref A_NoWay)))
  (n_Broken:W.nsIn K mainGlobals "Broken"=some (some (.ref A_Broken)))
  (n_Twice:W.nsIn K mainGlobals "Twice"=some (some (.ref A_Twice)))
  (n_NoPlace:W.nsIn K mainGlobals "NoPlace"=some (some (.ref A_NoPlace)))
  (n_OverBound:W.nsIn K mainGlobals "OverBound"=some (some (.ref A_OverBound)))
  (n_Short:W.nsIn K mainGlobals "Short"=some (some (.ref A_Short)))
  (aQ0:W.nsIn K mainGlobals "divisor"=some (some (.ref fQ0)))
  (lQ0:K.lookup fQ0=some ⟨ocQ0,odQ0,.func (W.fnOf "divisor" "divisor" (av dZ) (ap dZ) (ag dZ) .none kVQ0 dcQ0 pmQ0 anQ0 cdQ0 ctQ0),slQ0⟩)
  (cQ0:W.codeIn K cdQ0 "divisor"=true)
  (kQ0:W.keepIn K (.ref fQ0)=true)
  (aQ1:W.nsIn K mainGlobals "in_lowest_terms"=some (some (.ref fQ1)))
  (lQ1:K.lookup fQ1=some ⟨ocQ1,odQ1,.func (W.fnOf "in_lowest_terms" "in_lowest_terms" (av bj) (ap bj) (ag bj) .none kVQ1 dcQ1 pmQ1 anQ1 cdQ1 ctQ1),slQ1⟩)
  (cQ1:W.codeIn K cdQ1 "in_lowest_terms"=true)
  (kQ1:W.keepIn K (.ref fQ1)=true)
  (aQ2:W.nsIn K mainGlobals "total"=some (some (.ref fQ2)))
  (lQ2:K.lookup fQ2=some ⟨ocQ2,odQ2,.func (W.fnOf "total" "total" (av fU) (ap fU) (ag fU) .none kVQ2 dcQ2 pmQ2 anQ2 cdQ2 ctQ2),slQ2⟩)
  (cQ2:W.codeIn K cdQ2 "total"=true)
  (kQ2:W.keepIn K (.ref fQ2)=true)
  (aQ3:W.nsIn K mainGlobals "amount"=some (some (.ref fQ3)))
  (lQ3:K.lookup fQ3=some ⟨ocQ3,odQ3,.func (W.fnOf "amount" "amount" (av eR) (ap eR) (ag eR) .none kVQ3 dcQ3 pmQ3 anQ3 cdQ3 ctQ3),slQ3⟩)
  (cQ3:W.codeIn K cdQ3 "amount"=true)
  (kQ3:W.keepIn K (.ref fQ3)=true)
  (aQ4:W.nsIn K mainGlobals "refuse_other_names"=some (some (.ref fQ4)))
  (lQ4:K.lookup fQ4=some ⟨ocQ4,odQ4,.func (W.fnOf "refuse_other_names" "refuse_other_names" (av a8) (ap a8) (ag a8) .none kVQ4 dcQ4 pmQ4 anQ4 cdQ4 ctQ4),slQ4⟩)
  (cQ4:W.codeIn K cdQ4 "refuse_other_names"=true)
  (kQ4:W.keepIn K (.ref fQ4)=true)
  (aQ5:W.nsIn K mainGlobals "sums_of_own_ways"=some (some (.ref fQ5)))
  (lQ5:K.lookup fQ5=some ⟨ocQ5,odQ5,.func (W.fnOf "sums_of_own_ways" "sums_of_own_ways" (av ba) (ap ba) (ag ba) .none kVQ5 dcQ5 pmQ5 anQ5 cdQ5 ctQ5),slQ5⟩)
  (cQ5:W.codeIn K cdQ5 "sums_of_own_ways"=true)
  (kQ5:W.keepIn K (.ref fQ5)=true)
  (aQ6:W.nsIn K mainGlobals "sums"=some (some (.ref fQ6)))
  (lQ6:K.lookup fQ6=some ⟨ocQ6,odQ6,.func (W.fnOf "sums" "sums" (av s_sums) (ap s_sums) (ag s_sums) .none kVQ6 dcQ6 pmQ6 anQ6 cdQ6 ctQ6),slQ6⟩)
  (cQ6:W.codeIn K cdQ6 "sums"=true)
  (kQ6:W.keepIn K (.ref fQ6)=true)
  (aQ7:W.nsIn K mainGlobals "worth"=some (some (.ref fQ7)))
  (lQ7:K.lookup fQ7=some ⟨ocQ7,odQ7,.func (W.fnOf "worth" "worth" (av fT) (ap fT) (ag fT) .none kVQ7 dcQ7 pmQ7 anQ7 cdQ7 ctQ7),slQ7⟩)
  (cQ7:W.codeIn K cdQ7 "worth"=true)
  (kQ7:W.keepIn K (.ref fQ7)=true)
  (aQ8:W.nsIn K mainGlobals "bound_passed"=some (some (.ref fQ8)))
  (lQ8:K.lookup fQ8=some ⟨ocQ8,odQ8,.func (W.fnOf "bound_passed" "bound_passed" (av bU) (ap bU) (ag bU) .none kVQ8 dcQ8 pmQ8 anQ8 cdQ8 ctQ8),slQ8⟩)
  (cQ8:W.codeIn K cdQ8 "bound_passed"=true)
  (kQ8:W.keepIn K (.ref fQ8)=true)
  (aQ9:W.nsIn K mainGlobals "other_names"=some (some (.ref fQ9)))
  (lQ9:K.lookup fQ9=some ⟨ocQ9,odQ9,.func (W.fnOf "other_names" "other_names" (av cc) (ap cc) (ag cc) .none kVQ9 dcQ9 pmQ9 anQ9 cdQ9 ctQ9),slQ9⟩)
  (cQ9:W.codeIn K cdQ9 "other_names"=true)
  (kQ9:W.keepIn K (.ref fQ9)=true)
  (aQ10:W.nsIn K mainGlobals "faults"=some (some (.ref fQ10)))
  (lQ10:K.lookup fQ10=some ⟨ocQ10,odQ10,.func (W.fnOf "faults" "faults" (av eQ) (ap eQ) (ag eQ) .none kVQ10 dcQ10 pmQ10 anQ10 cdQ10 ctQ10),slQ10⟩)
  (cQ10:W.codeIn K cdQ10 "faults"=true)
  (kQ10:W.keepIn K (.ref fQ10)=true)
  (aQ11:W.nsIn K mainGlobals "refuse"=some (some (.ref fQ11)))
  (lQ11:K.lookup fQ11=some ⟨ocQ11,odQ11,.func (W.fnOf "refuse" "refuse" (av eO) (ap eO) (ag eO) .none kVQ11 dcQ11 pmQ11 anQ11 cdQ11 ctQ11),slQ11⟩)
  (cQ11:W.codeIn K cdQ11 "refuse"=true)
  (kQ11:W.keepIn K (.ref fQ11)=true)
  (aQ12:W.nsIn K mainGlobals "checked"=some (some (.ref fQ12)))
  (lQ12:K.lookup fQ12=some ⟨ocQ12,odQ12,.func (W.fnOf "checked" "checked" (av d3) (ap d3) (ag d3) .none kVQ12 dcQ12 pmQ12 anQ12 cdQ12 ctQ12),slQ12⟩)
  (cQ12:W.codeIn K cdQ12 "checked"=true)
  (kQ12:W.keepIn K (.ref fQ12)=true)
  (aQ13:W.nsIn K mainGlobals "wants_by_name"=some (some (.ref fQ13)))
  (lQ13:K.lookup fQ13=some ⟨ocQ13,odQ13,.func (W.fnOf "wants_by_name" "wants_by_name" (av bI) (ap bI) (ag bI) .none kVQ13 dcQ13 pmQ13 anQ13 cdQ13 ctQ13),slQ13⟩)
  (cQ13:W.codeIn K cdQ13 "wants_by_name"=true)
  (kQ13:W.keepIn K (.ref fQ13)=true)
  (aQ14:W.nsIn K mainGlobals "check_way"=some (some (.ref fQ14)))
  (lQ14:K.lookup fQ14=some ⟨ocQ14,odQ14,.func (W.fnOf "check_way" "check_way" (av cP) (ap cP) (ag cP) .none kVQ14 dcQ14 pmQ14 anQ14 cdQ14 ctQ14),slQ14⟩)
  (cQ14:W.codeIn K cdQ14 "check_way"=true)
  (kQ14:W.keepIn K (.ref fQ14)=true)
  (aQ15:W.nsIn K mainGlobals "ways_by_name"=some (some (.ref fQ15)))
  (lQ15:K.lookup fQ15=some ⟨ocQ15,odQ15,.func (W.fnOf "ways_by_name" "ways_by_name" (av bT) (ap bT) (ag bT) .none kVQ15 dcQ15 pmQ15 anQ15 cdQ15 ctQ15),slQ15⟩)
  (cQ15:W.codeIn K cdQ15 "ways_by_name"=true)
  (kQ15:W.keepIn K (.ref fQ15)=true)
  (aQ16:W.nsIn K mainGlobals "_law_cell_at"=some (some (.ref fQ16)))
  (lQ16:K.lookup fQ16=some ⟨ocQ16,odQ16,.func (W.fnOf "_law_cell_at" "_law_cell_at" (av cg) (ap cg) (ag cg) .none kVQ16 dcQ16 pmQ16 anQ16 cdQ16 ctQ16),slQ16⟩)
  (cQ16:W.codeIn K cdQ16 "_law_cell_at"=true)
  (kQ16:W.keepIn K (.ref fQ16)=true)
  (aQ17:W.nsIn K mainGlobals "_law_mix"=some (some (.ref fQ17)))
  (lQ17:K.lookup fQ17=some ⟨ocQ17,odQ17,.func (W.fnOf "_law_mix" "_law_mix" (av dX) (ap dX) (ag dX) .none kVQ17 dcQ17 pmQ17 anQ17 cdQ17 ctQ17),slQ17⟩)
  (cQ17:W.codeIn K cdQ17 "_law_mix"=true)
  (kQ17:W.keepIn K (.ref fQ17)=true)
  (aQ18:W.nsIn K mainGlobals "_law_whole"=some (some (.ref fQ18)))
  (lQ18:K.lookup fQ18=some ⟨ocQ18,odQ18,.func (W.fnOf "_law_whole" "_law_whole" (av cJ) (ap cJ) (ag cJ) .none kVQ18 dcQ18 pmQ18 anQ18 cdQ18 ctQ18),slQ18⟩)
  (cQ18:W.codeIn K cdQ18 "_law_whole"=true)
  (kQ18:W.keepIn K (.ref fQ18)=true)
  (aQ19:W.nsIn K mainGlobals "_law_divisor"=some (some (.ref fQ19)))
  (lQ19:K.lookup fQ19=some ⟨ocQ19,odQ19,.func (W.fnOf "_law_divisor" "_law_divisor" (av cf) (ap cf) (ag cf) .none kVQ19 dcQ19 pmQ19 anQ19 cdQ19 ctQ19),slQ19⟩)
  (cQ19:W.codeIn K cdQ19 "_law_divisor"=true)
  (kQ19:W.keepIn K (.ref fQ19)=true)
  (aQ20:W.nsIn K mainGlobals "_law_is"=some (some (.ref fQ20)))
  (lQ20:K.lookup fQ20=some ⟨ocQ20,odQ20,.func (W.fnOf "_law_is" "_law_is" (av eP) (ap eP) (ag eP) .none kVQ20 dcQ20 pmQ20 anQ20 cdQ20 ctQ20),slQ20⟩)
  (cQ20:W.codeIn K cdQ20 "_law_is"=true)
  (kQ20:W.keepIn K (.ref fQ20)=true)
  (aQ21:W.nsIn K mainGlobals "_law_name"=some (some (.ref fQ21)))
  (lQ21:K.lookup fQ21=some ⟨ocQ21,odQ21,.func (W.fnOf "_law_name" "_law_name" (av dh) (ap dh) (ag dh) .none kVQ21 dcQ21 pmQ21 anQ21 cdQ21 ctQ21),slQ21⟩)
  (cQ21:W.codeIn K cdQ21 "_law_name"=true)
  (kQ21:W.keepIn K (.ref fQ21)=true)
  (aQ22:W.nsIn K mainGlobals "_law_plus"=some (some (.ref fQ22)))
  (lQ22:K.lookup fQ22=some ⟨ocQ22,odQ22,.func (W.fnOf "_law_plus" "_law_plus" (av dc) (ap dc) (ag dc) .none kVQ22 dcQ22 pmQ22 anQ22 cdQ22 ctQ22),slQ22⟩)
  (cQ22:W.codeIn K cdQ22 "_law_plus"=true)
  (kQ22:W.keepIn K (.ref fQ22)=true)
  (aQ23:W.nsIn K mainGlobals "_law_times"=some (some (.ref fQ23)))
  (lQ23:K.lookup fQ23=some ⟨ocQ23,odQ23,.func (W.fnOf "_law_times" "_law_times" (av cL) (ap cL) (ag cL) .none kVQ23 dcQ23 pmQ23 anQ23 cdQ23 ctQ23),slQ23⟩)
  (cQ23:W.codeIn K cdQ23 "_law_times"=true)
  (kQ23:W.keepIn K (.ref fQ23)=true)
  (aQ24:W.nsIn K mainGlobals "_law_high"=some (some (.ref fQ24)))
  (lQ24:K.lookup fQ24=some ⟨ocQ24,odQ24,.func (W.fnOf "_law_high" "_law_high" (av dj) (ap dj) (ag dj) .none kVQ24 dcQ24 pmQ24 anQ24 cdQ24 ctQ24),slQ24⟩)
  (cQ24:W.codeIn K cdQ24 "_law_high"=true)
  (kQ24:W.keepIn K (.ref fQ24)=true)
  (aQ25:W.nsIn K mainGlobals "_law_row"=some (some (.ref fQ25)))
  (lQ25:K.lookup fQ25=some ⟨ocQ25,odQ25,.func (W.fnOf "_law_row" "_law_row" (av dW) (ap dW) (ag dW) .none kVQ25 dcQ25 pmQ25 anQ25 cdQ25 ctQ25),slQ25⟩)
  (cQ25:W.codeIn K cdQ25 "_law_row"=true)
  (kQ25:W.keepIn K (.ref fQ25)=true)
  (aQ26:W.nsIn K mainGlobals "_law_sums"=some (some (.ref fQ26)))
  (lQ26:K.lookup fQ26=some ⟨ocQ26,odQ26,.func (W.fnOf "_law_sums" "_law_sums" (av c9) (ap c9) (ag c9) .none kVQ26 dcQ26 pmQ26 anQ26 cdQ26 ctQ26),slQ26⟩)
  (cQ26:W.codeIn K cdQ26 "_law_sums"=true)
  (kQ26:W.keepIn K (.ref fQ26)=true)
  (aQ27:W.nsIn K mainGlobals "_law_wants"=some (some (.ref fQ27)))
  (lQ27:K.lookup fQ27=some ⟨ocQ27,odQ27,.func (W.fnOf "_law_wants" "_law_wants" (av cK) (ap cK) (ag cK) .none kVQ27 dcQ27 pmQ27 anQ27 cdQ27 ctQ27),slQ27⟩)
  (cQ27:W.codeIn K cdQ27 "_law_wants"=true)
  (kQ27:W.keepIn K (.ref fQ27)=true)
  (aQ28:W.nsIn K mainGlobals "_law_way"=some (some (.ref fQ28)))
  (lQ28:K.lookup fQ28=some ⟨ocQ28,odQ28,.func (W.fnOf "_law_way" "_law_way" (av dU) (ap dU) (ag dU) .none kVQ28 dcQ28 pmQ28 anQ28 cdQ28 ctQ28),slQ28⟩)
  (cQ28:W.codeIn K cdQ28 "_law_way"=true)
  (kQ28:W.keepIn K (.ref fQ28)=true)
  (aQ29:W.nsIn K mainGlobals "_law_entries"=some (some (.ref fQ29)))
  (lQ29:K.lookup fQ29=some ⟨ocQ29,odQ29,.func (W.fnOf "_law_entries" "_law_entries" (av ce) (ap ce) (ag ce) .none kVQ29 dcQ29 pmQ29 anQ29 cdQ29 ctQ29),slQ29⟩)
  (cQ29:W.codeIn K cdQ29 "_law_entries"=true)
  (kQ29:W.keepIn K (.ref fQ29)=true)
  (aQ30:W.nsIn K mainGlobals "_law_plan"=some (some (.ref fQ30)))
  (lQ30:K.lookup fQ30=some ⟨ocQ30,odQ30,.func (W.fnOf "_law_plan" "_law_plan" (av df) (ap df) (ag df) .none kVQ30 dcQ30 pmQ30 anQ30 cdQ30 ctQ30),slQ30⟩)
  (cQ30:W.codeIn K cdQ30 "_law_plan"=true)
  (kQ30:W.keepIn K (.ref fQ30)=true)
  (aQ31:W.nsIn K mainGlobals "_law_stays"=some (some (.ref fQ31)))
  (lQ31:K.lookup fQ31=some ⟨ocQ31,odQ31,.func (W.fnOf "_law_stays" "_law_stays" (av cM) (ap cM) (ag cM) .none kVQ31 dcQ31 pmQ31 anQ31 cdQ31 ctQ31),slQ31⟩)
  (cQ31:W.codeIn K cdQ31 "_law_stays"=true)
  (kQ31:W.keepIn K (.ref fQ31)=true)
  (aQ32:W.nsIn K mainGlobals "_law_many"=some (some (.ref fQ32)))
  (lQ32:K.lookup fQ32=some ⟨ocQ32,odQ32,.func (W.fnOf "_law_many" "_law_many" (av di) (ap di) (ag di) .none kVQ32 dcQ32 pmQ32 anQ32 cdQ32 ctQ32),slQ32⟩)
  (cQ32:W.codeIn K cdQ32 "_law_many"=true)
  (kQ32:W.keepIn K (.ref fQ32)=true)
  (aQ33:W.nsIn K mainGlobals "_law_kinds"=some (some (.ref fQ33)))
  (lQ33:K.lookup fQ33=some ⟨ocQ33,odQ33,.func (W.fnOf "_law_kinds" "_law_kinds" (av cO) (ap cO) (ag cO) .none kVQ33 dcQ33 pmQ33 anQ33 cdQ33 ctQ33),slQ33⟩)
  (cQ33:W.codeIn K cdQ33 "_law_kinds"=true)
  (kQ33:W.keepIn K (.ref fQ33)=true)
  (aQ34:W.nsIn K mainGlobals "_law_over"=some (some (.ref fQ34)))
  (lQ34:K.lookup fQ34=some ⟨ocQ34,odQ34,.func (W.fnOf "_law_over" "_law_over" (av dg) (ap dg) (ag dg) .none kVQ34 dcQ34 pmQ34 anQ34 cdQ34 ctQ34),slQ34⟩)
  (cQ34:W.codeIn K cdQ34 "_law_over"=true)
  (kQ34:W.keepIn K (.ref fQ34)=true)
  (aQ35:W.nsIn K mainGlobals "_law_due"=some (some (.ref fQ35)))
  (lQ35:K.lookup fQ35=some ⟨ocQ35,odQ35,.func (W.fnOf "_law_due" "_law_due" (av dY) (ap dY) (ag dY) .none kVQ35 dcQ35 pmQ35 anQ35 cdQ35 ctQ35),slQ35⟩)
  (cQ35:W.codeIn K cdQ35 "_law_due"=true)
  (kQ35:W.keepIn K (.ref fQ35)=true)
  (aQ36:W.nsIn K mainGlobals "_law_faults"=some (some (.ref fQ36)))
  (lQ36:K.lookup fQ36=some ⟨ocQ36,odQ36,.func (W.fnOf "_law_faults" "_law_faults" (av cz) (ap cz) (ag cz) .none kVQ36 dcQ36 pmQ36 anQ36 cdQ36 ctQ36),slQ36⟩)
  (cQ36:W.codeIn K cdQ36 "_law_faults"=true)
  (kQ36:W.keepIn K (.ref fQ36)=true)
  (aQ37:W.nsIn K mainGlobals "_law_told"=some (some (.ref fQ37)))
  (lQ37:K.lookup fQ37=some ⟨ocQ37,odQ37,.func (W.fnOf "_law_told" "_law_told" (av c8) (ap c8) (ag c8) .none kVQ37 dcQ37 pmQ37 anQ37 cdQ37 ctQ37),slQ37⟩)
  (cQ37:W.codeIn K cdQ37 "_law_told"=true)
  (kQ37:W.keepIn K (.ref fQ37)=true)
  (aQ38:W.nsIn K mainGlobals "_law_meets"=some (some (.ref fQ38)))
  (lQ38:K.lookup fQ38=some ⟨ocQ38,odQ38,.func (W.fnOf "_law_meets" "_law_meets" (av cN) (ap cN) (ag cN) .none kVQ38 dcQ38 pmQ38 anQ38 cdQ38 ctQ38),slQ38⟩)
  (cQ38:W.codeIn K cdQ38 "_law_meets"=true)
  (kQ38:W.keepIn K (.ref fQ38)=true)
  (aQ39:W.nsIn K mainGlobals "_law_looked"=some (some (.ref fQ39)))
  (lQ39:K.lookup fQ39=some ⟨ocQ39,odQ39,.func (W.fnOf "_law_looked" "_law_looked" (av cy) (ap cy) (ag cy) .none kVQ39 dcQ39 pmQ39 anQ39 cdQ39 ctQ39),slQ39⟩)
  (cQ39:W.codeIn K cdQ39 "_law_looked"=true)
  (kQ39:W.keepIn K (.ref fQ39)=true)
  (aDlaw:W.nsIn K mainGlobals "law"=some (some (.ref fDlaw)))
  (lDlaw:K.lookup fDlaw=some ⟨ocDlaw,odDlaw,.func (W.fnOf "law" "law" (av ge) (ap ge) (ag ge) .none kVDlaw dcDlaw pmDlaw anDlaw cdDlaw ctDlaw),slDlaw⟩)
  (cDlaw:W.codeIn K cdDlaw "law"=true)
  (kDlaw:W.keepIn K (.ref fDlaw)=true)
  (pg_Fraction:W.plainGet K A_Fraction Str.empty=true)
  (hd_Fraction:W.hasDictIn K A_Fraction=true)
  (po_Fraction:W.plainOver K A_Fraction=true)
  (sa_Fraction:W.findIn K (.ref A_Fraction) "__setattr__"=some (some (.builtin "object.__setattr__")))
  (na_Fraction_top:W.findIn K (.ref A_Fraction) "top"=some none)
  (na_Fraction_bottom:W.findIn K (.ref A_Fraction) "bottom"=some none)
  (mk_Fraction:W.makesIn K A_Fraction=true)
  (ka_Fraction:W.keepIn K (.ref A_Fraction)=true)
  (a_Fraction_init:W.findIn K (.ref A_Fraction) "__init__"=some (some (.ref fIFraction)))
  (iIFraction:W.isFn K (.ref fIFraction)=true)
  (lIFraction:K.lookup fIFraction=some ⟨ocIFraction,odIFraction,.func (W.fnOf "__init__" "Fraction.__init__" (av bL) (ap bL) (ag bL) (.ref TIFraction) kVIFraction dcIFraction pmIFraction anIFraction cdIFraction ctIFraction),slIFraction⟩)
  (cIFraction:W.codeIn K cdIFraction "Fraction.__init__"=true)
  (tIFraction:K.lookup TIFraction=some oIFraction)
  (dIFraction:oIFraction.data=.seq #[.int 1 tkIFraction0] nIFraction)
  (a_Fraction_plus:W.findIn K (.ref A_Fraction) "plus"=some (some (.ref fQ40)))
  (lQ40:K.lookup fQ40=some ⟨ocQ40,odQ40,.func (W.fnOf "plus" "Fraction.plus" (av bK) (ap bK) (ag bK) .none kVQ40 dcQ40 pmQ40 anQ40 cdQ40 ctQ40),slQ40⟩)
  (cQ40:W.codeIn K cdQ40 "Fraction.plus"=true)
  (kQ40:W.keepIn K (.ref fQ40)=true)
  (iQ40:W.isFn K (.ref fQ40)=true)
  (a_Fraction_minus:W.findIn K (.ref A_Fraction) "minus"=some (some (.ref fQ41)))
  (lQ41:K.lookup fQ41=some ⟨ocQ41,odQ41,.func (W.fnOf "minus" "Fraction.minus" (av bB) (ap bB) (ag bB) .none kVQ41 dcQ41 pmQ41 anQ41 cdQ41 ctQ41),slQ41⟩)
  (cQ41:W.codeIn K cdQ41 "Fraction.minus"=true)
  (kQ41:W.keepIn K (.ref fQ41)=true)
  (iQ41:W.isFn K (.ref fQ41)=true)
  (a_Fraction_times:W.findIn K (.ref A_Fraction) "times"=some (some (.ref fQ42)))
  (lQ42:K.lookup fQ42=some ⟨ocQ42,odQ42,.func (W.fnOf "times" "Fraction.times" (av bA) (ap bA) (ag bA) .none kVQ42 dcQ42 pmQ42 anQ42 cdQ42 ctQ42),slQ42⟩)
  (cQ42:W.codeIn K cdQ42 "Fraction.times"=true)
  (kQ42:W.keepIn K (.ref fQ42)=true)
  (iQ42:W.isFn K (.ref fQ42)=true)
  (a_Fraction_under:W.findIn K (.ref A_Fraction) "under"=some (some (.ref fQ43)))
  (lQ43:K.lookup fQ43=some ⟨ocQ43,odQ43,.func (W.fnOf "under" "Fraction.under" (av bz) (ap bz) (ag bz) .none kVQ43 dcQ43 pmQ43 anQ43 cdQ43 ctQ43),slQ43⟩)
  (cQ43:W.codeIn K cdQ43 "Fraction.under"=true)
  (kQ43:W.keepIn K (.ref fQ43)=true)
  (iQ43:W.isFn K (.ref fQ43)=true)
  (a_Fraction_sign:W.findIn K (.ref A_Fraction) "sign"=some (some (.ref fQ44)))
  (lQ44:K.lookup fQ44=some ⟨ocQ44,odQ44,.func (W.fnOf "sign" "Fraction.sign" (av bJ) (ap bJ) (ag bJ) .none kVQ44 dcQ44 pmQ44 anQ44 cdQ44 ctQ44),slQ44⟩)
  (cQ44:W.codeIn K cdQ44 "Fraction.sign"=true)
  (kQ44:W.keepIn K (.ref fQ44)=true)
  (iQ44:W.isFn K (.ref fQ44)=true)
  (c1_Fraction:W.findIn K (.ref A_Fraction) "__class__"=some (some (.builtin "object.__class__")))
  (c4_Fraction:W.mroIn K A_Fraction (.type "object")=some true)
  (pg_Way:W.plainGet K A_Way Str.empty=true)
  (hd_Way:W.hasDictIn K A_Way=true)
  (po_Way:W.plainOver K A_Way=true)
  (sa_Way:W.findIn K (.ref A_Way) "__setattr__"=some (some (.builtin "object.__setattr__")))
  (na_Way_name:W.findIn K (.ref A_Way) "name"=some none)
  (na_Way_start:W.findIn K (.ref A_Way) "start"=some none)
  (na_Way_goal:W.findIn K (.ref A_Way) "goal"=some none)
  (na_Way_high:W.findIn K (.ref A_Way) "high"=some none)
  (na_Way_cost:W.findIn K (.ref A_Way) "cost"=some none)
  (mk_Way:W.makesIn K A_Way=true)
  (ka_Way:W.keepIn K (.ref A_Way)=true)
  (a_Way_init:W.findIn K (.ref A_Way) "__init__"=some (some (.ref fIWay)))
  (iIWay:W.isFn K (.ref fIWay)=true)
  (lIWay:K.lookup fIWay=some ⟨ocIWay,odIWay,.func (W.fnOf "__init__" "Way.__init__" (av cq) (ap cq) (ag cq) (.ref TIWay) kVIWay dcIWay pmIWay anIWay cdIWay ctIWay),slIWay⟩)
  (cIWay:W.codeIn K cdIWay "Way.__init__"=true)
  (tIWay:K.lookup TIWay=some oIWay)
  (dIWay:oIWay.data=.seq #[.none,.none] nIWay)
  (rd_Way:W.readsIn K A_Way (.type "type")=true)
  (sg_Way:W.specialIn K (.ref A_Way) "__getattribute__"=some (some (.builtin "type.__getattribute__")))
  (fc_Way:W.findCls K (.ref A_Way) (.type "type") "__init__"=some (.val (.ref fIWay)))
  (kc_Way:W.keepIn K (.ref fIWay)=true)
  (a_Way_gain:W.findIn K (.ref A_Way) "gain"=some (some (.ref fQ45)))
  (lQ45:K.lookup fQ45=some ⟨ocQ45,odQ45,.func (W.fnOf "gain" "Way.gain" (av dk) (ap dk) (ag dk) .none kVQ45 dcQ45 pmQ45 anQ45 cdQ45 ctQ45),slQ45⟩)
  (cQ45:W.codeIn K cdQ45 "Way.gain"=true)
  (kQ45:W.keepIn K (.ref fQ45)=true)
  (iQ45:W.isFn K (.ref fQ45)=true)
  (a_Way_out:W.findIn K (.ref A_Way) "out"=some (some (.ref fQ46)))
  (lQ46:K.lookup fQ46=some ⟨ocQ46,odQ46,.func (W.fnOf "out" "Way.out" (av ci) (ap ci) (ag ci) .none kVQ46 dcQ46 pmQ46 anQ46 cdQ46 ctQ46),slQ46⟩)
  (cQ46:W.codeIn K cdQ46 "Way.out"=true)
  (kQ46:W.keepIn K (.ref fQ46)=true)
  (iQ46:W.isFn K (.ref fQ46)=true)
  (c1_Way:W.findIn K (.ref A_Way) "__class__"=some (some (.builtin "object.__class__")))
  (c4_Way:W.mroIn K A_Way (.type "object")=some true)
  (pg_Growing:W.plainGet K A_Growing Str.empty=true)
  (hd_Growing:W.hasDictIn K A_Growing=true)
  (po_Growing:W.plainOver K A_Growing=true)
  (sa_Growing:W.findIn K (.ref A_Growing) "__setattr__"=some (some (.builtin "object.__setattr__")))
  (na_Growing_rate:W.findIn K (.ref A_Growing) "rate"=some none)
  (na_Growing_name:W.findIn K (.ref A_Growing) "name"=some none)
  (na_Growing_start:W.findIn K (.ref A_Growing) "start"=some none)
  (na_Growing_goal:W.findIn K (.ref A_Growing) "goal"=some none)
  (na_Growing_high:W.findIn K (.ref A_Growing) "high"=some none)
  (na_Growing_cost:W.findIn K (.ref A_Growing) "cost"=some none)
  (gF:W.makesIn K A_Growing=true)
  (ka_Growing:W.keepIn K (.ref A_Growing)=true)
  (a_Growing_init:W.findIn K (.ref A_Growing) "__init__"=some (some (.ref fIGrowing)))
  (iIGrowing:W.isFn K (.ref fIGrowing)=true)
  (lIGrowing:K.lookup fIGrowing=some ⟨ocIGrowing,odIGrowing,.func (W.fnOf "__init__" "Growing.__init__" (av bE) (ap bE) (ag bE) (.ref TIGrowing) kVIGrowing dcIGrowing pmIGrowing anIGrowing cdIGrowing ctIGrowing),slIGrowing⟩)
  (cIGrowing:W.codeIn K cdIGrowing "Growing.__init__"=true)
  (tIGrowing:K.lookup TIGrowing=some oIGrowing)
  (dIGrowing:oIGrowing.data=.seq #[.none,.none] nIGrowing)
  (a_Growing_gain:W.findIn K (.ref A_Growing) "gain"=some (some (.ref fQ47)))
  (lQ47:K.lookup fQ47=some ⟨ocQ47,odQ47,.func (W.fnOf "gain" "Growing.gain" (av bW) (ap bW) (ag bW) .none kVQ47 dcQ47 pmQ47 anQ47 cdQ47 ctQ47),slQ47⟩)
  (cQ47:W.codeIn K cdQ47 "Growing.gain"=true)
  (kQ47:W.keepIn K (.ref fQ47)=true)
  (iQ47:W.isFn K (.ref fQ47)=true)
  (a_Growing_out:W.findIn K (.ref A_Growing) "out"=some (some (.ref fQ46)))
  (c1_Growing:W.findIn K (.ref A_Growing) "__class__"=some (some (.builtin "object.__class__")))
  (c4_Growing:W.mroIn K A_Growing (.type "object")=some true)
  (pg_Leaking:W.plainGet K A_Leaking Str.empty=true)
  (hd_Leaking:W.hasDictIn K A_Leaking=true)
  (po_Leaking:W.plainOver K A_Leaking=true)
  (sa_Leaking:W.findIn K (.ref A_Leaking) "__setattr__"=some (some (.builtin "object.__setattr__")))
  (na_Leaking_loss:W.findIn K (.ref A_Leaking) "loss"=some none)
  (na_Leaking_name:W.findIn K (.ref A_Leaking) "name"=some none)
  (na_Leaking_start:W.findIn K (.ref A_Leaking) "start"=some none)
  (na_Leaking_goal:W.findIn K (.ref A_Leaking) "goal"=some none)
  (na_Leaking_high:W.findIn K (.ref A_Leaking) "high"=some none)
  (na_Leaking_cost:W.findIn K (.ref A_Leaking) "cost"=some none)
  (gE:W.makesIn K A_Leaking=true)
  (ka_Leaking:W.keepIn K (.ref A_Leaking)=true)
  (a_Leaking_init:W.findIn K (.ref A_Leaking) "__init__"=some (some (.ref fILeaking)))
  (iILeaking:W.isFn K (.ref fILeaking)=true)
  (lILeaking:K.lookup fILeaking=some ⟨ocILeaking,odILeaking,.func (W.fnOf "__init__" "Leaking.__init__" (av bC) (ap bC) (ag bC) (.ref TILeaking) kVILeaking dcILeaking pmILeaking anILeaking cdILeaking ctILeaking),slILeaking⟩)
  (cILeaking:W.codeIn K cdILeaking "Leaking.__init__"=true)
  (tILeaking:K.lookup TILeaking=some oILeaking)
  (dILeaking:oILeaking.data=.seq #[.none,.none] nILeaking)
  (a_Leaking_gain:W.findIn K (.ref A_Leaking) "gain"=some (some (.ref fQ48)))
  (lQ48:K.lookup fQ48=some ⟨ocQ48,odQ48,.func (W.fnOf "gain" "Leaking.gain" (av bg) (ap bg) (ag bg) .none kVQ48 dcQ48 pmQ48 anQ48 cdQ48 ctQ48),slQ48⟩)
  (cQ48:W.codeIn K cdQ48 "Leaking.gain"=true)
  (kQ48:W.keepIn K (.ref fQ48)=true)
  (iQ48:W.isFn K (.ref fQ48)=true)
  (a_Leaking_out:W.findIn K (.ref A_Leaking) "out"=some (some (.ref fQ46)))
  (c1_Leaking:W.findIn K (.ref A_Leaking) "__class__"=some (some (.builtin "object.__class__")))
  (c4_Leaking:W.mroIn K A_Leaking (.type "object")=some true)
  (pg_Store:W.plainGet K A_Store Str.empty=true)
  (hd_Store:W.hasDictIn K A_Store=true)
  (po_Store:W.plainOver K A_Store=true)
  (sa_Store:W.findIn K (.ref A_Store) "__setattr__"=some (some (.builtin "object.__setattr__")))
  (na_Store_loss:W.findIn K (.ref A_Store) "loss"=some none)
  (na_Store_name:W.findIn K (.ref A_Store) "name"=some none)
  (na_Store_start:W.findIn K (.ref A_Store) "start"=some none)
  (na_Store_goal:W.findIn K (.ref A_Store) "goal"=some none)
  (na_Store_high:W.findIn K (.ref A_Store) "high"=some none)
  (na_Store_cost:W.findIn K (.ref A_Store) "cost"=some none)
  (a_Store_gain:W.findIn K (.ref A_Store) "gain"=some (some (.ref fQ48)))
  (a_Store_out:W.findIn K (.ref A_Store) "out"=some (some (.ref fQ46)))
  (c1_Store:W.findIn K (.ref A_Store) "__class__"=some (some (.builtin "object.__class__")))
  (c4_Store:W.mroIn K A_Store (.type "object")=some true)
  (pg_Net:W.plainGet K A_Net Str.empty=true)
  (hd_Net:W.hasDictIn K A_Net=true)
  (po_Net:W.plainOver K A_Net=true)
  (sa_Net:W.findIn K (.ref A_Net) "__setattr__"=some (some (.builtin "object.__setattr__")))
  (na_Net_wants:W.findIn K (.ref A_Net) "wants"=some none)
  (na_Net_ways:W.findIn K (.ref A_Net) "ways"=some none)
  (mk_Net:W.makesIn K A_Net=true)
  (ka_Net:W.keepIn K (.ref A_Net)=true)
  (a_Net_init:W.findIn K (.ref A_Net) "__init__"=some (some (.ref fQ49)))
  (iQ49:W.isFn K (.ref fQ49)=true)
  (lQ49:K.lookup fQ49=some ⟨ocQ49,odQ49,.func (W.fnOf "__init__" "Net.__init__" (av dm) (ap dm) (ag dm) .none kVQ49 dcQ49 pmQ49 anQ49 cdQ49 ctQ49),slQ49⟩)
  (cQ49:W.codeIn K cdQ49 "Net.__init__"=true)
  (kQ49:W.keepIn K (.ref fQ49)=true)
  (a_Net_names:W.findIn K (.ref A_Net) "names"=some (some (.ref fQ50)))
  (lQ50:K.lookup fQ50=some ⟨ocQ50,odQ50,.func (W.fnOf "names" "Net.names" (av cQ) (ap cQ) (ag cQ) .none kVQ50 dcQ50 pmQ50 anQ50 cdQ50 ctQ50),slQ50⟩)
  (cQ50:W.codeIn K cdQ50 "Net.names"=true)
  (kQ50:W.keepIn K (.ref fQ50)=true)
  (iQ50:W.isFn K (.ref fQ50)=true)
  (a_Net_want:W.findIn K (.ref A_Net) "want"=some (some (.ref fQ51)))
  (lQ51:K.lookup fQ51=some ⟨ocQ51,odQ51,.func (W.fnOf "want" "Net.want" (av dl) (ap dl) (ag dl) .none kVQ51 dcQ51 pmQ51 anQ51 cdQ51 ctQ51),slQ51⟩)
  (cQ51:W.codeIn K cdQ51 "Net.want"=true)
  (kQ51:W.keepIn K (.ref fQ51)=true)
  (iQ51:W.isFn K (.ref fQ51)=true)
  (a_Net_way:W.findIn K (.ref A_Net) "way"=some (some (.ref fQ52)))
  (lQ52:K.lookup fQ52=some ⟨ocQ52,odQ52,.func (W.fnOf "way" "Net.way" (av d4) (ap d4) (ag d4) .none kVQ52 dcQ52 pmQ52 anQ52 cdQ52 ctQ52),slQ52⟩)
  (cQ52:W.codeIn K cdQ52 "Net.way"=true)
  (kQ52:W.keepIn K (.ref fQ52)=true)
  (iQ52:W.isFn K (.ref fQ52)=true)
  (a_Net_all_ways:W.findIn K (.ref A_Net) "all_ways"=some (some (.ref fQ53)))
  (lQ53:K.lookup fQ53=some ⟨ocQ53,odQ53,.func (W.fnOf "all_ways" "Net.all_ways" (av bV) (ap bV) (ag bV) .none kVQ53 dcQ53 pmQ53 anQ53 cdQ53 ctQ53),slQ53⟩)
  (cQ53:W.codeIn K cdQ53 "Net.all_ways"=true)
  (kQ53:W.keepIn K (.ref fQ53)=true)
  (iQ53:W.isFn K (.ref fQ53)=true)
  (a_Net_wanting:W.findIn K (.ref A_Net) "wanting"=some (some (.ref fQ54)))
  (lQ54:K.lookup fQ54=some ⟨ocQ54,odQ54,.func (W.fnOf "wanting" "Net.wanting" (av cj) (ap cj) (ag cj) .none kVQ54 dcQ54 pmQ54 anQ54 cdQ54 ctQ54),slQ54⟩)
  (cQ54:W.codeIn K cdQ54 "Net.wanting"=true)
  (kQ54:W.keepIn K (.ref fQ54)=true)
  (iQ54:W.isFn K (.ref fQ54)=true)
  (no_Net_times:W.findIn K (.ref A_Net) "times"=some none)
  (no_Net_out:W.findIn K (.ref A_Net) "out"=some none)
  (c2:W.specialIn K (.builtin "object.__class__") "__get__"=some (some (.builtin "getset_descriptor.__get__")))
  (c3:W.takesIn K (.builtin "object.__class__")=some true)
  (a_NoWay_xinit:W.findIn K (.ref A_NoWay) "__init__"=some (some (.ref fQ55)))
  (lQ55:K.lookup fQ55=some ⟨ocQ55,odQ55,.func (W.fnOf "__init__" "NoWay.__init__" (av b6) (ap b6) (ag b6) .none kVQ55 dcQ55 pmQ55 anQ55 cdQ55 ctQ55),slQ55⟩)
  (cQ55:W.codeIn K cdQ55 "NoWay.__init__"=true)
  (kQ55:W.keepIn K (.ref fQ55)=true)
  (tQ55:W.typeIn K (.ref fQ55)=some (.type "function"))
  (eQ55:hU K A_NoWay bmV "ValueError.__new__"=some fQ55)
  (xc_NoWay:W.clsIn K A_NoWay=some cdx_NoWay)
  (xm_NoWay:cdx_NoWay.mro=[A_NoWay,A_GainError].map Value.ref++bmV)
  (xh_NoWay:cdx_NoWay.hasDict=true)
  (xa_NoWay:W.findIn K (.ref A_NoWay) "__setattr__"=some (some (.builtin "object.__setattr__")))
  (na_NoWay_name:W.findIn K (.ref A_NoWay) "name"=some none)
  (hd_NoWay:W.hasDictIn K A_NoWay=true)
  (rdx_NoWay:W.readsIn K A_GainError (.type "type")=true)
  (sgx_NoWay:W.specialIn K (.ref A_GainError) "__getattribute__"=some (some (.builtin "type.__getattribute__")))
  (bf_NoWay:W.findCls K (.ref A_GainError) (.type "type") "__init__"=some (.val (.builtin "ValueError.__init__")))
  (a_OverBound_xinit:W.findIn K (.ref A_OverBound) "__init__"=some (some (.ref fQ56)))
  (lQ56:K.lookup fQ56=some ⟨ocQ56,odQ56,.func (W.fnOf "__init__" "OverBound.__init__" (av bb) (ap bb) (ag bb) .none kVQ56 dcQ56 pmQ56 anQ56 cdQ56 ctQ56),slQ56⟩)
  (cQ56:W.codeIn K cdQ56 "OverBound.__init__"=true)
  (kQ56:W.keepIn K (.ref fQ56)=true)
  (tQ56:W.typeIn K (.ref fQ56)=some (.type "function"))
  (eQ56:hU K A_OverBound bmV "ValueError.__new__"=some fQ56)
  (xc_OverBound:W.clsIn K A_OverBound=some cdx_OverBound)
  (xm_OverBound:cdx_OverBound.mro=[A_OverBound,A_GainError].map Value.ref++bmV)
  (xh_OverBound:cdx_OverBound.hasDict=true)
  (xa_OverBound:W.findIn K (.ref A_OverBound) "__setattr__"=some (some (.builtin "object.__setattr__")))
  (na_OverBound_bound:W.findIn K (.ref A_OverBound) "bound"=some none)
  (na_OverBound_name:W.findIn K (.ref A_OverBound) "name"=some none)
  (hd_OverBound:W.hasDictIn K A_OverBound=true)
  (rdx_OverBound:W.readsIn K A_GainError (.type "type")=true)
  (sgx_OverBound:W.specialIn K (.ref A_GainError) "__getattribute__"=some (some (.builtin "type.__getattribute__")))
  (bf_OverBound:W.findCls K (.ref A_GainError) (.type "type") "__init__"=some (.val (.builtin "ValueError.__init__")))
  (a_Short_xinit:W.findIn K (.ref A_Short) "__init__"=some (some (.ref fQ57)))
  (lQ57:K.lookup fQ57=some ⟨ocQ57,odQ57,.func (W.fnOf "__init__" "Short.__init__" (av bZ) (ap bZ) (ag bZ) .none kVQ57 dcQ57 pmQ57 anQ57 cdQ57 ctQ57),slQ57⟩)
  (cQ57:W.codeIn K cdQ57 "Short.__init__"=true)
  (kQ57:W.keepIn K (.ref fQ57)=true)
  (tQ57:W.typeIn K (.ref fQ57)=some (.type "function"))
  (eQ57:hU K A_Short bmV "ValueError.__new__"=some fQ57)
  (xc_Short:W.clsIn K A_Short=some cdx_Short)
  (xm_Short:cdx_Short.mro=[A_Short,A_GainError].map Value.ref++bmV)
  (xh_Short:cdx_Short.hasDict=true)
  (xa_Short:W.findIn K (.ref A_Short) "__setattr__"=some (some (.builtin "object.__setattr__")))
  (na_Short_lacking:W.findIn K (.ref A_Short) "lacking"=some none)
  (na_Short_place:W.findIn K (.ref A_Short) "place"=some none)
  (hd_Short:W.hasDictIn K A_Short=true)
  (rdx_Short:W.readsIn K A_GainError (.type "type")=true)
  (sgx_Short:W.specialIn K (.ref A_GainError) "__getattribute__"=some (some (.builtin "type.__getattribute__")))
  (bf_Short:W.findCls K (.ref A_GainError) (.type "type") "__init__"=some (.val (.builtin "ValueError.__init__")))
  (ca1_GainError:W.instIn K (.ref A_GainError) (.type "tuple")=some false)
  (ca2_GainError:W.clsIn K A_GainError=some cd_ca2_GainError)
  (ca3_GainError:W.subIn K (.ref A_GainError) (.type "BaseException")=some true)
  (su_NoWay_GainError:W.subIn K (.ref A_NoWay) (.ref A_GainError)=some true)
  (su_OverBound_GainError:W.subIn K (.ref A_OverBound) (.ref A_GainError)=some true)
  (su_Short_GainError:W.subIn K (.ref A_Short) (.ref A_GainError)=some true)
  (k_Fraction_Fraction:W.kitOne K (.ref A_Fraction) (.ref A_Fraction)=some true)
  (k_Way_Store:W.kitOne K (.ref A_Way) (.ref A_Store)=some false)
  (k_Growing_Store:W.kitOne K (.ref A_Growing) (.ref A_Store)=some false)
  (k_Leaking_Store:W.kitOne K (.ref A_Leaking) (.ref A_Store)=some false)
  (k_int_bool:W.kitOne K (.type "int") (.type "bool")=some false)
  (k_int_int:W.kitOne K (.type "int") (.type "int")=some true)
  (k_list_list:W.kitOne K (.type "list") (.type "list")=some true)
  (k_tuple_tuple:W.kitOne K (.type "tuple") (.type "tuple")=some true)
  (xga_NoWay:W.findIn K (.ref A_NoWay) "__getattribute__"=some (some (.builtin "BaseException.__getattribute__")))
  (xgh_NoWay:W.findIn K (.ref A_NoWay) "__getattr__"=some none)
  (xbe_NoWay:W.mroIn K A_NoWay (.type "BaseException")=some true)
  (xca_NoWay:W.findIn K (.ref A_NoWay) "__class__"=some (some (.builtin "object.__class__")))
  (xob_NoWay:W.mroIn K A_NoWay (.type "object")=some true)
  (xcl_NoWay:W.clsIn K A_NoWay=some cd_xcl_NoWay)
  (k_NoWay_Broken:W.kitOne K (.ref A_NoWay) (.ref A_Broken)=some false)
  (k_NoWay_NoExchange:W.kitOne K (.ref A_NoWay) (.ref A_NoExchange)=some false)
  (k_NoWay_NoNumber:W.kitOne K (.ref A_NoWay) (.ref A_NoNumber)=some false)
  (k_NoWay_NoPlace:W.kitOne K (.ref A_NoWay) (.ref A_NoPlace)=some false)
  (k_NoWay_NoRing:W.kitOne K (.ref A_NoWay) (.ref A_NoRing)=some false)
  (k_NoWay_NoRow:W.kitOne K (.ref A_NoWay) (.ref A_NoRow)=some false)
  (k_NoWay_NoStrand:W.kitOne K (.ref A_NoWay) (.ref A_NoStrand)=some false)
  (k_NoWay_NoText:W.kitOne K (.ref A_NoWay) (.ref A_NoText)=some false)
  (k_NoWay_NoWay:W.kitOne K (.ref A_NoWay) (.ref A_NoWay)=some true)
  (k_NoWay_OverBound:W.kitOne K (.ref A_NoWay) (.ref A_OverBound)=some false)
  (k_NoWay_Short:W.kitOne K (.ref A_NoWay) (.ref A_Short)=some false)
  (k_NoWay_TooMany:W.kitOne K (.ref A_NoWay) (.ref A_TooMany)=some false)
  (k_NoWay_Twice:W.kitOne K (.ref A_NoWay) (.ref A_Twice)=some false)
  (k_NoWay_ValueError:W.kitOne K (.ref A_NoWay) (.type "ValueError")=some true)
  (xga_OverBound:W.findIn K (.ref A_OverBound) "__getattribute__"=some (some (.builtin "BaseException.__getattribute__")))
  (xgh_OverBound:W.findIn K (.ref A_OverBound) "__getattr__"=some none)
  (xbe_OverBound:W.mroIn K A_OverBound (.type "BaseException")=some true)
  (xca_OverBound:W.findIn K (.ref A_OverBound) "__class__"=some (some (.builtin "object.__class__")))
  (xob_OverBound:W.mroIn K A_OverBound (.type "object")=some true)
  (xcl_OverBound:W.clsIn K A_OverBound=some cd_xcl_OverBound)
  (k_OverBound_Broken:W.kitOne K (.ref A_OverBound) (.ref A_Broken)=some false)
  (k_OverBound_NoExchange:W.kitOne K (.ref A_OverBound) (.ref A_NoExchange)=some false)
  (k_OverBound_NoNumber:W.kitOne K (.ref A_OverBound) (.ref A_NoNumber)=some false)
  (k_OverBound_NoPlace:W.kitOne K (.ref A_OverBound) (.ref A_NoPlace)=some false)
  (k_OverBound_NoRing:W.kitOne K (.ref A_OverBound) (.ref A_NoRing)=some false)
  (k_OverBound_NoRow:W.kitOne K (.ref A_OverBound) (.ref A_NoRow)=some false)
  (k_OverBound_NoStrand:W.kitOne K (.ref A_OverBound) (.ref A_NoStrand)=some false)
  (k_OverBound_NoText:W.kitOne K (.ref A_OverBound) (.ref A_NoText)=some false)
  (k_OverBound_NoWay:W.kitOne K (.ref A_OverBound) (.ref A_NoWay)=some false)
  (k_OverBound_OverBound:W.kitOne K (.ref A_OverBound) (.ref A_OverBound)=some true)
  (k_OverBound_Short:W.kitOne K (.ref A_OverBound) (.ref A_Short)=some false)
  (k_OverBound_TooMany:W.kitOne K (.ref A_OverBound) (.ref A_TooMany)=some false)
  (k_OverBound_Twice:W.kitOne K (.ref A_OverBound) (.ref A_Twice)=some false)
  (k_OverBound_ValueError:W.kitOne K (.ref A_OverBound) (.type "ValueError")=some true)
  (xga_Short:W.findIn K (.ref A_Short) "__getattribute__"=some (some (.builtin "BaseException.__getattribute__")))
  (xgh_Short:W.findIn K (.ref A_Short) "__getattr__"=some none)
  (xbe_Short:W.mroIn K A_Short (.type "BaseException")=some true)
  (xca_Short:W.findIn K (.ref A_Short) "__class__"=some (some (.builtin "object.__class__")))
  (xob_Short:W.mroIn K A_Short (.type "object")=some true)
  (xcl_Short:W.clsIn K A_Short=some cd_xcl_Short)
  (k_Short_Broken:W.kitOne K (.ref A_Short) (.ref A_Broken)=some false)
  (k_Short_NoExchange:W.kitOne K (.ref A_Short) (.ref A_NoExchange)=some false)
  (k_Short_NoNumber:W.kitOne K (.ref A_Short) (.ref A_NoNumber)=some false)
  (k_Short_NoPlace:W.kitOne K (.ref A_Short) (.ref A_NoPlace)=some false)
  (k_Short_NoRing:W.kitOne K (.ref A_Short) (.ref A_NoRing)=some false)
  (k_Short_NoRow:W.kitOne K (.ref A_Short) (.ref A_NoRow)=some false)
  (k_Short_NoStrand:W.kitOne K (.ref A_Short) (.ref A_NoStrand)=some false)
  (k_Short_NoText:W.kitOne K (.ref A_Short) (.ref A_NoText)=some false)
  (k_Short_NoWay:W.kitOne K (.ref A_Short) (.ref A_NoWay)=some false)
  (k_Short_OverBound:W.kitOne K (.ref A_Short) (.ref A_OverBound)=some false)
  (k_Short_Short:W.kitOne K (.ref A_Short) (.ref A_Short)=some true)
  (k_Short_TooMany:W.kitOne K (.ref A_Short) (.ref A_TooMany)=some false)
  (k_Short_Twice:W.kitOne K (.ref A_Short) (.ref A_Twice)=some false)
  (k_Short_ValueError:W.kitOne K (.ref A_Short) (.type "ValueError")=some true)
  (gi_MOST_PLACES:W.nsIn K mainGlobals "MOST_PLACES"=some (some (.int 12 tk_MOST_PLACES)))
  (gi_MOST_WAYS:W.nsIn K mainGlobals "MOST_WAYS"=some (some (.int 24 tk_MOST_WAYS)))
  (z_ValueError:W.nsIn K mainGlobals "ValueError"=some none)
  (z_abs:W.nsIn K mainGlobals "abs"=some none)
  (z_bool:W.nsIn K mainGlobals "bool"=some none)
  (z_int:W.nsIn K mainGlobals "int"=some none)
  (z_isinstance:W.nsIn K mainGlobals "isinstance"=some none)
  (z_len:W.nsIn K mainGlobals "len"=some none)
  (z_list:W.nsIn K mainGlobals "list"=some none)
  (z_max:W.nsIn K mainGlobals "max"=some none)
  (z_range:W.nsIn K mainGlobals "range"=some none)
  (z_tuple:W.nsIn K mainGlobals "tuple"=some none) :
  ∃ fd:FuncData,(∀ (s:Shared) (v:Value),BindsTo s fd ⟨[v],[]⟩ [("_law_script",v)])∧∀ base:Heap,K.In base→base.Ns mainGlobals mg→FnOk l.prog w K mg base CX0 18 fa fd ["_law_script"] (spLaw K):=by
 have e:=hfa.symm.trans (W.mg_of X G aDlaw)
 cases e
 have N_Q0:=aH (st:=dZ) lQ0 cQ0 kQ0
 have N_Q1:=aH (st:=bj) lQ1 cQ1 kQ1
 have N_Q2:=aH (st:=fU) lQ2 cQ2 kQ2
 have N_Q3:=aH (st:=eR) lQ3 cQ3 kQ3
 have N_Q4:=aH (st:=a8) lQ4 cQ4 kQ4
 have N_Q5:=aH (st:=ba) lQ5 cQ5 kQ5
 have N_Q6:=aH (st:=s_sums) lQ6 cQ6 kQ6
 have N_Q7:=aH (st:=fT) lQ7 cQ7 kQ7
 have N_Q8:=aH (st:=bU) lQ8 cQ8 kQ8
 have N_Q9:=aH (st:=cc) lQ9 cQ9 kQ9
 have N_Q10:=aH (st:=eQ) lQ10 cQ10 kQ10
 have N_Q11:=aH (st:=eO) lQ11 cQ11 kQ11
 have N_Q12:=aH (st:=d3) lQ12 cQ12 kQ12
 have N_Q13:=aH (st:=bI) lQ13 cQ13 kQ13
 have N_Q14:=aH (st:=cP) lQ14 cQ14 kQ14
 have N_Q15:=aH (st:=bT) lQ15 cQ15 kQ15
 have N_Q16:=aH (st:=cg) lQ16 cQ16 kQ16
 have N_Q17:=aH (st:=dX) lQ17 cQ17 kQ17
 have N_Q18:=aH (st:=cJ) lQ18 cQ18 kQ18
 have N_Q19:=aH (st:=cf) lQ19 cQ19 kQ19
 have N_Q20:=aH (st:=eP) lQ20 cQ20 kQ20
 have N_Q21:=aH (st:=dh) lQ21 cQ21 kQ21
 have N_Q22:=aH (st:=dc) lQ22 cQ22 kQ22
 have N_Q23:=aH (st:=cL) lQ23 cQ23 kQ23
 have N_Q24:=aH (st:=dj) lQ24 cQ24 kQ24
 have N_Q25:=aH (st:=dW) lQ25 cQ25 kQ25
 have N_Q26:=aH (st:=c9) lQ26 cQ26 kQ26
 have N_Q27:=aH (st:=cK) lQ27 cQ27 kQ27
 have N_Q28:=aH (st:=dU) lQ28 cQ28 kQ28
 have N_Q29:=aH (st:=ce) lQ29 cQ29 kQ29
 have N_Q30:=aH (st:=df) lQ30 cQ30 kQ30
 have N_Q31:=aH (st:=cM) lQ31 cQ31 kQ31
 have N_Q32:=aH (st:=di) lQ32 cQ32 kQ32
 have N_Q33:=aH (st:=cO) lQ33 cQ33 kQ33
 have N_Q34:=aH (st:=dg) lQ34 cQ34 kQ34
 have N_Q35:=aH (st:=dY) lQ35 cQ35 kQ35
 have N_Q36:=aH (st:=cz) lQ36 cQ36 kQ36
 have N_Q37:=aH (st:=c8) lQ37 cQ37 kQ37
 have N_Q38:=aH (st:=cN) lQ38 cQ38 kQ38
 have N_Q39:=aH (st:=cy) lQ39 cQ39 kQ39
 have N_Dlaw:=aH (st:=ge) lDlaw cDlaw kDlaw
 have N_IFraction:=funD_mk (st:=bL) lIFraction cIFraction tIFraction dIFraction
 have N_Q40:=aH (st:=bK) lQ40 cQ40 kQ40
 have N_Q41:=aH (st:=bB) lQ41 cQ41 kQ41
 have N_Q42:=aH (st:=bA) lQ42 cQ42 kQ42
 have N_Q43:=aH (st:=bz) lQ43 cQ43 kQ43
 have N_Q44:=aH (st:=bJ) lQ44 cQ44 kQ44
 have N_IWay:=funD_mk (st:=cq) lIWay cIWay tIWay dIWay
 have N_Q45:=aH (st:=dk) lQ45 cQ45 kQ45
 have N_Q46:=aH (st:=ci) lQ46 cQ46 kQ46
 have N_IGrowing:=funD_mk (st:=bE) lIGrowing cIGrowing tIGrowing dIGrowing
 have N_Q47:=aH (st:=bW) lQ47 cQ47 kQ47
 have N_ILeaking:=funD_mk (st:=bC) lILeaking cILeaking tILeaking dILeaking
 have N_Q48:=aH (st:=bg) lQ48 cQ48 kQ48
 have N_Q49:=aH (st:=dm) lQ49 cQ49 kQ49
 have N_Q50:=aH (st:=cQ) lQ50 cQ50 kQ50
 have N_Q51:=aH (st:=dl) lQ51 cQ51 kQ51
 have N_Q52:=aH (st:=d4) lQ52 cQ52 kQ52
 have N_Q53:=aH (st:=bV) lQ53 cQ53 kQ53
 have N_Q54:=aH (st:=cj) lQ54 cQ54 kQ54
 have N_Q55:=aH (st:=b6) lQ55 cQ55 kQ55
 have N_Q56:=aH (st:=bb) lQ56 cQ56 kQ56
 have N_Q57:=aH (st:=bZ) lQ57 cQ57 kQ57
 have T:TX K mg ⟨A_Fraction,A_Way,A_Growing,A_Leaking,A_Store,A_Net,A_GainError,A_NoNumber,A_TooMany,A_NoRing,A_NoStrand,A_NoExchange,A_NoText,A_NoRow,A_NoWay,A_Broken,A_Twice,A_NoPlace,A_OverBound,A_Short⟩:={
  d_divisor:=⟨_,_,N_Q0,W.mg_of X G aQ0,N_Q0.binds (ps:=["one","other"]) fun _ _ _ _ _ _ us hl=>by obtain ⟨_,_,rfl⟩:=lm2 us hl;exact rfl⟩
  d_in_lowest_terms:=⟨_,_,N_Q1,W.mg_of X G aQ1,N_Q1.binds (ps:=["top","bottom"]) fun _ _ _ _ _ _ us hl=>by obtain ⟨_,_,rfl⟩:=lm2 us hl;exact rfl⟩
  d_total:=⟨_,_,N_Q2,W.mg_of X G aQ2,N_Q2.binds (ps:=["some"]) fun _ _ _ _ _ _ us hl=>by obtain ⟨_,rfl⟩:=lm1 us hl;exact rfl⟩
  d_amount:=⟨_,_,N_Q3,W.mg_of X G aQ3,N_Q3.binds (ps:=["plan","name"]) fun _ _ _ _ _ _ us hl=>by obtain ⟨_,_,rfl⟩:=lm2 us hl;exact rfl⟩
  d_refuse_other_names:=⟨_,_,N_Q4,W.mg_of X G aQ4,N_Q4.binds (ps:=["net","plan"]) fun _ _ _ _ _ _ us hl=>by obtain ⟨_,_,rfl⟩:=lm2 us hl;exact rfl⟩
  d_sums_of_own_ways:=⟨_,_,N_Q5,W.mg_of X G aQ5,N_Q5.binds (ps:=["net","plan"]) fun _ _ _ _ _ _ us hl=>by obtain ⟨_,_,rfl⟩:=lm2 us hl;exact rfl⟩
  d_sums:=⟨_,_,N_Q6,W.mg_of X G aQ6,N_Q6.binds (ps:=["net","plan"]) fun _ _ _ _ _ _ us hl=>by obtain ⟨_,_,rfl⟩:=lm2 us hl;exact rfl⟩
  d_worth:=⟨_,_,N_Q7,W.mg_of X G aQ7,N_Q7.binds (ps:=["net","plan"]) fun _ _ _ _ _ _ us hl=>by obtain ⟨_,_,rfl⟩:=lm2 us hl;exact rfl⟩
  d_bound_passed:=⟨_,_,N_Q8,W.mg_of X G aQ8,N_Q8.binds (ps:=["way","part"]) fun _ _ _ _ _ _ us hl=>by obtain ⟨_,_,rfl⟩:=lm2 us hl;exact rfl⟩
  d_other_names:=⟨_,_,N_Q9,W.mg_of X G aQ9,N_Q9.binds (ps:=["net","plan"]) fun _ _ _ _ _ _ us hl=>by obtain ⟨_,_,rfl⟩:=lm2 us hl;exact rfl⟩
  d_faults:=⟨_,_,N_Q10,W.mg_of X G aQ10,N_Q10.binds (ps:=["net","plan"]) fun _ _ _ _ _ _ us hl=>by obtain ⟨_,_,rfl⟩:=lm2 us hl;exact rfl⟩
  d_refuse:=⟨_,_,N_Q11,W.mg_of X G aQ11,N_Q11.binds (ps:=["net","plan","fault"]) fun _ _ _ _ _ _ us hl=>by obtain ⟨_,_,_,rfl⟩:=lm3 us hl;exact rfl⟩
  d_checked:=⟨_,_,N_Q12,W.mg_of X G aQ12,N_Q12.binds (ps:=["net","plan"]) fun _ _ _ _ _ _ us hl=>by obtain ⟨_,_,rfl⟩:=lm2 us hl;exact rfl⟩
  d_wants_by_name:=⟨_,_,N_Q13,W.mg_of X G aQ13,N_Q13.binds (ps:=["places"]) fun _ _ _ _ _ _ us hl=>by obtain ⟨_,rfl⟩:=lm1 us hl;exact rfl⟩
  d_check_way:=⟨_,_,N_Q14,W.mg_of X G aQ14,N_Q14.binds (ps:=["way","ahead","wants"]) fun _ _ _ _ _ _ us hl=>by obtain ⟨_,_,_,rfl⟩:=lm3 us hl;exact rfl⟩
  d_ways_by_name:=⟨_,_,N_Q15,W.mg_of X G aQ15,N_Q15.binds (ps:=["ways","wants"]) fun _ _ _ _ _ _ us hl=>by obtain ⟨_,_,rfl⟩:=lm2 us hl;exact rfl⟩
  d_law_cell_at:=⟨_,_,N_Q16,W.mg_of X G aQ16,N_Q16.binds (ps:=["_law_script","_law_k"]) fun _ _ _ _ _ _ us hl=>by obtain ⟨_,_,rfl⟩:=lm2 us hl;exact rfl⟩
  d_law_mix:=⟨_,_,N_Q17,W.mg_of X G aQ17,N_Q17.binds (ps:=["_law_script","_law_k"]) fun _ _ _ _ _ _ us hl=>by obtain ⟨_,_,rfl⟩:=lm2 us hl;exact rfl⟩
  d_law_whole:=⟨_,_,N_Q18,W.mg_of X G aQ18,N_Q18.binds (ps:=["_law_found"]) fun _ _ _ _ _ _ us hl=>by obtain ⟨_,rfl⟩:=lm1 us hl;exact rfl⟩
  d_law_divisor:=⟨_,_,N_Q19,W.mg_of X G aQ19,N_Q19.binds (ps:=["_law_one","_law_other"]) fun _ _ _ _ _ _ us hl=>by obtain ⟨_,_,rfl⟩:=lm2 us hl;exact rfl⟩
  d_law_is:=⟨_,_,N_Q20,W.mg_of X G aQ20,N_Q20.binds (ps:=["_law_found","_law_top","_law_bottom"]) fun _ _ _ _ _ _ us hl=>by obtain ⟨_,_,_,rfl⟩:=lm3 us hl;exact rfl⟩
  d_law_name:=⟨_,_,N_Q21,W.mg_of X G aQ21,N_Q21.binds (ps:=["_law_k","_law_cell"]) fun _ _ _ _ _ _ us hl=>by obtain ⟨_,_,rfl⟩:=lm2 us hl;exact rfl⟩
  d_law_plus:=⟨_,_,N_Q22,W.mg_of X G aQ22,N_Q22.binds (ps:=["_law_one","_law_other"]) fun _ _ _ _ _ _ us hl=>by obtain ⟨_,_,rfl⟩:=lm2 us hl;exact rfl⟩
  d_law_times:=⟨_,_,N_Q23,W.mg_of X G aQ23,N_Q23.binds (ps:=["_law_one","_law_other"]) fun _ _ _ _ _ _ us hl=>by obtain ⟨_,_,rfl⟩:=lm2 us hl;exact rfl⟩
  d_law_high:=⟨_,_,N_Q24,W.mg_of X G aQ24,N_Q24.binds (ps:=["_law_put","_law_mode","_law_cell"]) fun _ _ _ _ _ _ us hl=>by obtain ⟨_,_,_,rfl⟩:=lm3 us hl;exact rfl⟩
  d_law_row:=⟨_,_,N_Q25,W.mg_of X G aQ25,N_Q25.binds (ps:=["_law_cell","_law_n","_law_mode","_law_far"]) fun _ _ _ _ _ _ us hl=>by obtain ⟨_,_,_,_,rfl⟩:=lm4 us hl;exact rfl⟩
  d_law_sums:=⟨_,_,N_Q26,W.mg_of X G aQ26,N_Q26.binds (ps:=["_law_rows","_law_n"]) fun _ _ _ _ _ _ us hl=>by obtain ⟨_,_,rfl⟩:=lm2 us hl;exact rfl⟩
  d_law_wants:=⟨_,_,N_Q27,W.mg_of X G aQ27,N_Q27.binds (ps:=["_law_script","_law_n","_law_mode","_law_rows"]) fun _ _ _ _ _ _ us hl=>by obtain ⟨_,_,_,_,rfl⟩:=lm4 us hl;exact rfl⟩
  d_law_way:=⟨_,_,N_Q28,W.mg_of X G aQ28,N_Q28.binds (ps:=["_law_row_here","_law_name_here","_law_names"]) fun _ _ _ _ _ _ us hl=>by obtain ⟨_,_,_,rfl⟩:=lm3 us hl;exact rfl⟩
  d_law_entries:=⟨_,_,N_Q29,W.mg_of X G aQ29,N_Q29.binds (ps:=["_law_rows","_law_ways","_law_strange","_law_cell"]) fun _ _ _ _ _ _ us hl=>by obtain ⟨_,_,_,_,rfl⟩:=lm4 us hl;exact rfl⟩
  d_law_plan:=⟨_,_,N_Q30,W.mg_of X G aQ30,N_Q30.binds (ps:=["_law_entries_here"]) fun _ _ _ _ _ _ us hl=>by obtain ⟨_,rfl⟩:=lm1 us hl;exact rfl⟩
  d_law_stays:=⟨_,_,N_Q31,W.mg_of X G aQ31,N_Q31.binds (ps:=["_law_plan_here","_law_entries_here"]) fun _ _ _ _ _ _ us hl=>by obtain ⟨_,_,rfl⟩:=lm2 us hl;exact rfl⟩
  d_law_many:=⟨_,_,N_Q32,W.mg_of X G aQ32,N_Q32.binds (ps:=["_law_cell","_law_n"]) fun _ _ _ _ _ _ us hl=>by obtain ⟨_,_,rfl⟩:=lm2 us hl;exact rfl⟩
  d_law_kinds:=⟨_,_,N_Q33,W.mg_of X G aQ33,N_Q33.binds (ps:=["_law_e"]) fun _ _ _ _ _ _ us hl=>by obtain ⟨_,rfl⟩:=lm1 us hl;exact rfl⟩
  d_law_over:=⟨_,_,N_Q34,W.mg_of X G aQ34,N_Q34.binds (ps:=["_law_row_here"]) fun _ _ _ _ _ _ us hl=>by obtain ⟨_,rfl⟩:=lm1 us hl;exact rfl⟩
  d_law_due:=⟨_,_,N_Q35,W.mg_of X G aQ35,N_Q35.binds (ps:=["_law_entries_here","_law_rows","_law_ways","_law_names","_law_wants_here"]) fun _ _ _ _ _ _ us hl=>by obtain ⟨_,_,_,_,_,rfl⟩:=lm5 us hl;exact rfl⟩
  d_law_faults:=⟨_,_,N_Q36,W.mg_of X G aQ36,N_Q36.binds (ps:=["_law_entries_here","_law_rows","_law_ways","_law_names","_law_wants_here"]) fun _ _ _ _ _ _ us hl=>by obtain ⟨_,_,_,_,_,rfl⟩:=lm5 us hl;exact rfl⟩
  d_law_told:=⟨_,_,N_Q37,W.mg_of X G aQ37,N_Q37.binds (ps:=["_law_found","_law_due_here"]) fun _ _ _ _ _ _ us hl=>by obtain ⟨_,_,rfl⟩:=lm2 us hl;exact rfl⟩
  d_law_meets:=⟨_,_,N_Q38,W.mg_of X G aQ38,N_Q38.binds (ps:=["_law_net","_law_plan_here","_law_due_here"]) fun _ _ _ _ _ _ us hl=>by obtain ⟨_,_,_,rfl⟩:=lm3 us hl;exact rfl⟩
  d_law_looked:=⟨_,_,N_Q39,W.mg_of X G aQ39,N_Q39.binds (ps:=["_law_net","_law_entries_here","_law_rows","_law_ways","_law_names","_law_wants_here"]) fun _ _ _ _ _ _ us hl=>by obtain ⟨_,_,_,_,_,_,rfl⟩:=lm6 us hl;exact rfl⟩
  d_law:=⟨_,_,N_Dlaw,W.mg_of X G aDlaw,N_Dlaw.binds (ps:=["_law_script"]) fun _ _ _ _ _ _ us hl=>by obtain ⟨_,rfl⟩:=lm1 us hl;exact rfl⟩
  cl_Fraction:=⟨pg_Fraction,hd_Fraction,po_Fraction,sa_Fraction⟩
  mg_Fraction:=W.mg_of X G n_Fraction
  na_Fraction_top
  na_Fraction_bottom
  i_Fraction:=⟨fIFraction,_,N_IFraction.gen,⟨mk_Fraction,a_Fraction_init,iIFraction,ka_Fraction⟩,fun dvs hd=>by
   simp only [List.mem_cons,List.not_mem_nil,or_false] at hd
   rcases hd with rfl | rfl
   ·exact ⟨[],.nil,N_IFraction.binds (es:=[]) fun T kV doc pm an cdv ct us hl=>by obtain ⟨_,_,_,rfl⟩:=lm3 us (by simpa using hl);exact ⟨_,rfl,rfl⟩⟩
   ·exact ⟨[.int 1 tkIFraction0],(.cons ⟨_,rfl⟩ (.nil)),N_IFraction.binds (es:=[.int 1 tkIFraction0]) fun T kV doc pm an cdv ct us hl=>by obtain ⟨_,_,rfl⟩:=lm2 us (by simpa using hl);exact ⟨_,rfl,rfl⟩⟩⟩
  m_Fraction_plus:=⟨fQ40,_,N_Q40,⟨a_Fraction_plus,iQ40,kQ40⟩,N_Q40.binds (ps:=["self","other"]) fun _ _ _ _ _ _ us hl=>by obtain ⟨_,_,rfl⟩:=lm2 us hl;exact rfl⟩
  m_Fraction_minus:=⟨fQ41,_,N_Q41,⟨a_Fraction_minus,iQ41,kQ41⟩,N_Q41.binds (ps:=["self","other"]) fun _ _ _ _ _ _ us hl=>by obtain ⟨_,_,rfl⟩:=lm2 us hl;exact rfl⟩
  m_Fraction_times:=⟨fQ42,_,N_Q42,⟨a_Fraction_times,iQ42,kQ42⟩,N_Q42.binds (ps:=["self","other"]) fun _ _ _ _ _ _ us hl=>by obtain ⟨_,_,rfl⟩:=lm2 us hl;exact rfl⟩
  m_Fraction_under:=⟨fQ43,_,N_Q43,⟨a_Fraction_under,iQ43,kQ43⟩,N_Q43.binds (ps:=["self","other"]) fun _ _ _ _ _ _ us hl=>by obtain ⟨_,_,rfl⟩:=lm2 us hl;exact rfl⟩
  m_Fraction_sign:=⟨fQ44,_,N_Q44,⟨a_Fraction_sign,iQ44,kQ44⟩,N_Q44.binds (ps:=["self"]) fun _ _ _ _ _ _ us hl=>by obtain ⟨_,rfl⟩:=lm1 us hl;exact rfl⟩
  c1_Fraction
  c4_Fraction
  cl_Way:=⟨pg_Way,hd_Way,po_Way,sa_Way⟩
  mg_Way:=W.mg_of X G n_Way
  na_Way_name
  na_Way_start
  na_Way_goal
  na_Way_high
  na_Way_cost
  i_Way:=⟨fIWay,_,N_IWay.gen,⟨mk_Way,a_Way_init,iIWay,ka_Way⟩,fun dvs hd=>by
   simp only [List.mem_cons,List.not_mem_nil,or_false] at hd
   rcases hd with rfl | rfl
   ·exact ⟨[],.nil,N_IWay.binds (es:=[]) fun T kV doc pm an cdv ct us hl=>by obtain ⟨_,_,_,_,_,_,rfl⟩:=lm6 us (by simpa using hl);exact ⟨_,rfl,rfl⟩⟩
   ·exact ⟨[.none,.none],(.cons rfl (.cons rfl (.nil))),N_IWay.binds (es:=[.none,.none]) fun T kV doc pm an cdv ct us hl=>by obtain ⟨_,_,_,_,rfl⟩:=lm4 us (by simpa using hl);exact ⟨_,rfl,rfl⟩⟩⟩
  c_Way:=⟨fIWay,_,N_IWay.gen,⟨rd_Way,sg_Way⟩,fc_Way,kc_Way,N_IWay.binds (es:=[]) fun T kV doc pm an cdv ct us hl=>by obtain ⟨_,_,_,_,_,_,rfl⟩:=lm6 us (by simpa using hl);exact ⟨_,rfl,rfl⟩⟩
  m_Way_gain:=⟨fQ45,_,N_Q45,⟨a_Way_gain,iQ45,kQ45⟩,N_Q45.binds (ps:=["self"]) fun _ _ _ _ _ _ us hl=>by obtain ⟨_,rfl⟩:=lm1 us hl;exact rfl⟩
  m_Way_out:=⟨fQ46,_,N_Q46,⟨a_Way_out,iQ46,kQ46⟩,N_Q46.binds (ps:=["self","amount"]) fun _ _ _ _ _ _ us hl=>by obtain ⟨_,_,rfl⟩:=lm2 us hl;exact rfl⟩
  c1_Way
  c4_Way
  cl_Growing:=⟨pg_Growing,hd_Growing,po_Growing,sa_Growing⟩
  mg_Growing:=W.mg_of X G n_Growing
  na_Growing_rate
  na_Growing_name
  na_Growing_start
  na_Growing_goal
  na_Growing_high
  na_Growing_cost
  i_Growing:=⟨fIGrowing,_,N_IGrowing.gen,⟨gF,a_Growing_init,iIGrowing,ka_Growing⟩,fun dvs hd=>by
   simp only [List.mem_cons,List.not_mem_nil,or_false] at hd
   rcases hd with rfl | rfl
   ·exact ⟨[],.nil,N_IGrowing.binds (es:=[]) fun T kV doc pm an cdv ct us hl=>by obtain ⟨_,_,_,_,_,_,_,rfl⟩:=lm7 us (by simpa using hl);exact ⟨_,rfl,rfl⟩⟩
   ·exact ⟨[.none,.none],(.cons rfl (.cons rfl (.nil))),N_IGrowing.binds (es:=[.none,.none]) fun T kV doc pm an cdv ct us hl=>by obtain ⟨_,_,_,_,_,rfl⟩:=lm5 us (by simpa using hl);exact ⟨_,rfl,rfl⟩⟩⟩
  m_Growing_gain:=⟨fQ47,_,N_Q47,⟨a_Growing_gain,iQ47,kQ47⟩,N_Q47.binds (ps:=["self"]) fun _ _ _ _ _ _ us hl=>by obtain ⟨_,rfl⟩:=lm1 us hl;exact rfl⟩
  m_Growing_out:=⟨fQ46,_,N_Q46,⟨a_Growing_out,iQ46,kQ46⟩,N_Q46.binds (ps:=["self","amount"]) fun _ _ _ _ _ _ us hl=>by obtain ⟨_,_,rfl⟩:=lm2 us hl;exact rfl⟩
  c1_Growing
  c4_Growing
  cl_Leaking:=⟨pg_Leaking,hd_Leaking,po_Leaking,sa_Leaking⟩
  mg_Leaking:=W.mg_of X G n_Leaking
  na_Leaking_loss
  na_Leaking_name
  na_Leaking_start
  na_Leaking_goal
  na_Leaking_high
  na_Leaking_cost
  i_Leaking:=⟨fILeaking,_,N_ILeaking.gen,⟨gE,a_Leaking_init,iILeaking,ka_Leaking⟩,fun dvs hd=>by
   simp only [List.mem_cons,List.not_mem_nil,or_false] at hd
   rcases hd with rfl | rfl
   ·exact ⟨[],.nil,N_ILeaking.binds (es:=[]) fun T kV doc pm an cdv ct us hl=>by obtain ⟨_,_,_,_,_,_,_,rfl⟩:=lm7 us (by simpa using hl);exact ⟨_,rfl,rfl⟩⟩
   ·exact ⟨[.none,.none],(.cons rfl (.cons rfl (.nil))),N_ILeaking.binds (es:=[.none,.none]) fun T kV doc pm an cdv ct us hl=>by obtain ⟨_,_,_,_,_,rfl⟩:=lm5 us (by simpa using hl);exact ⟨_,rfl,rfl⟩⟩⟩
  m_Leaking_gain:=⟨fQ48,_,N_Q48,⟨a_Leaking_gain,iQ48,kQ48⟩,N_Q48.binds (ps:=["self"]) fun _ _ _ _ _ _ us hl=>by obtain ⟨_,rfl⟩:=lm1 us hl;exact rfl⟩
  m_Leaking_out:=⟨fQ46,_,N_Q46,⟨a_Leaking_out,iQ46,kQ46⟩,N_Q46.binds (ps:=["self","amount"]) fun _ _ _ _ _ _ us hl=>by obtain ⟨_,_,rfl⟩:=lm2 us hl;exact rfl⟩
  c1_Leaking
  c4_Leaking
  cl_Store:=⟨pg_Store,hd_Store,po_Store,sa_Store⟩
  mg_Store:=W.mg_of X G n_Store
  na_Store_loss
  na_Store_name
  na_Store_start
  na_Store_goal
  na_Store_high
  na_Store_cost
  m_Store_gain:=⟨fQ48,_,N_Q48,⟨a_Store_gain,iQ48,kQ48⟩,N_Q48.binds (ps:=["self"]) fun _ _ _ _ _ _ us hl=>by obtain ⟨_,rfl⟩:=lm1 us hl;exact rfl⟩
  m_Store_out:=⟨fQ46,_,N_Q46,⟨a_Store_out,iQ46,kQ46⟩,N_Q46.binds (ps:=["self","amount"]) fun _ _ _ _ _ _ us hl=>by obtain ⟨_,_,rfl⟩:=lm2 us hl;exact rfl⟩
  c1_Store
  c4_Store
  cl_Net:=⟨pg_Net,hd_Net,po_Net,sa_Net⟩
  mg_Net:=W.mg_of X G n_Net
  na_Net_wants
  na_Net_ways
  i_Net:=⟨fQ49,_,N_Q49.gen,⟨mk_Net,a_Net_init,iQ49,ka_Net⟩,fun dvs hd=>by
   simp only [List.mem_cons,List.not_mem_nil,or_false] at hd
   subst hd
   exact ⟨[],.nil,N_Q49.binds (ps:=["self","places","ways"]) fun _ _ _ _ _ _ us hl=>by obtain ⟨_,_,_,rfl⟩:=lm3 us hl;exact rfl⟩⟩
  m_Net_names:=⟨fQ50,_,N_Q50,⟨a_Net_names,iQ50,kQ50⟩,N_Q50.binds (ps:=["self"]) fun _ _ _ _ _ _ us hl=>by obtain ⟨_,rfl⟩:=lm1 us hl;exact rfl⟩
  m_Net_want:=⟨fQ51,_,N_Q51,⟨a_Net_want,iQ51,kQ51⟩,N_Q51.binds (ps:=["self","place"]) fun _ _ _ _ _ _ us hl=>by obtain ⟨_,_,rfl⟩:=lm2 us hl;exact rfl⟩
  m_Net_way:=⟨fQ52,_,N_Q52,⟨a_Net_way,iQ52,kQ52⟩,N_Q52.binds (ps:=["self","name"]) fun _ _ _ _ _ _ us hl=>by obtain ⟨_,_,rfl⟩:=lm2 us hl;exact rfl⟩
  m_Net_all_ways:=⟨fQ53,_,N_Q53,⟨a_Net_all_ways,iQ53,kQ53⟩,N_Q53.binds (ps:=["self"]) fun _ _ _ _ _ _ us hl=>by obtain ⟨_,rfl⟩:=lm1 us hl;exact rfl⟩
  m_Net_wanting:=⟨fQ54,_,N_Q54,⟨a_Net_wanting,iQ54,kQ54⟩,N_Q54.binds (ps:=["self","wants"]) fun _ _ _ _ _ _ us hl=>by obtain ⟨_,_,rfl⟩:=lm2 us hl;exact rfl⟩
  no_Net_times
  no_Net_out
  c2
  c3
  mg_GainError:=W.mg_of X G n_GainError
  mg_NoNumber:=W.mg_of X G n_NoNumber
  mg_TooMany:=W.mg_of X G n_TooMany
  mg_NoRing:=W.mg_of X G n_NoRing
  mg_NoStrand:=W.mg_of X G n_NoStrand
  mg_NoExchange:=W.mg_of X G n_NoExchange
  mg_NoText:=W.mg_of X G n_NoText
  mg_NoRow:=W.mg_of X G n_NoRow
  mg_NoWay:=W.mg_of X G n_NoWay
  xi_NoWay:=⟨fQ55,_,N_Q55.gen,eQ55,tQ55,N_Q55.binds (ps:=["self","name"]) fun _ _ _ _ _ _ us hl=>by obtain ⟨_,_,rfl⟩:=lm2 us hl;exact rfl⟩
  xs_NoWay:=⟨⟨_,_,xc_NoWay,xm_NoWay,xh_NoWay⟩,xa_NoWay⟩
  na_NoWay_name
  hd_NoWay
  br_NoWay:=⟨rdx_NoWay,sgx_NoWay⟩
  bf_NoWay
  mg_Broken:=W.mg_of X G n_Broken
  mg_Twice:=W.mg_of X G n_Twice
  mg_NoPlace:=W.mg_of X G n_NoPlace
  mg_OverBound:=W.mg_of X G n_OverBound
  xi_OverBound:=⟨fQ56,_,N_Q56.gen,eQ56,tQ56,N_Q56.binds (ps:=["self","name","bound"]) fun _ _ _ _ _ _ us hl=>by obtain ⟨_,_,_,rfl⟩:=lm3 us hl;exact rfl⟩
  xs_OverBound:=⟨⟨_,_,xc_OverBound,xm_OverBound,xh_OverBound⟩,xa_OverBound⟩
  na_OverBound_bound
  na_OverBound_name
  hd_OverBound
  br_OverBound:=⟨rdx_OverBound,sgx_OverBound⟩
  bf_OverBound
  mg_Short:=W.mg_of X G n_Short
  xi_Short:=⟨fQ57,_,N_Q57.gen,eQ57,tQ57,N_Q57.binds (ps:=["self","place","lacking"]) fun _ _ _ _ _ _ us hl=>by obtain ⟨_,_,_,rfl⟩:=lm3 us hl;exact rfl⟩
  xs_Short:=⟨⟨_,_,xc_Short,xm_Short,xh_Short⟩,xa_Short⟩
  na_Short_lacking
  na_Short_place
  hd_Short
  br_Short:=⟨rdx_Short,sgx_Short⟩
  bf_Short
  ca1_GainError
  ca2_GainError:=⟨_,ca2_GainError⟩
  ca3_GainError
  su_NoWay_GainError
  su_OverBound_GainError
  su_Short_GainError
  k_Fraction_Fraction
  k_Way_Store
  k_Growing_Store
  k_Leaking_Store
  k_int_bool
  k_int_int
  k_list_list
  k_tuple_tuple
  xga_NoWay
  xgh_NoWay
  xbe_NoWay
  xca_NoWay
  xob_NoWay
  xcl_NoWay:=⟨_,xcl_NoWay⟩
  k_NoWay_Broken
  k_NoWay_NoExchange
  k_NoWay_NoNumber
  k_NoWay_NoPlace
  k_NoWay_NoRing
  k_NoWay_NoRow
  k_NoWay_NoStrand
  k_NoWay_NoText
  k_NoWay_NoWay
  k_NoWay_OverBound
  k_NoWay_Short
  k_NoWay_TooMany
  k_NoWay_Twice
  k_NoWay_ValueError
  xga_OverBound
  xgh_OverBound
  xbe_OverBound
  xca_OverBound
  xob_OverBound
  xcl_OverBound:=⟨_,xcl_OverBound⟩
  k_OverBound_Broken
  k_OverBound_NoExchange
  k_OverBound_NoNumber
  k_OverBound_NoPlace
  k_OverBound_NoRing
  k_OverBound_NoRow
  k_OverBound_NoStrand
  k_OverBound_NoText
  k_OverBound_NoWay
  k_OverBound_OverBound
  k_OverBound_Short
  k_OverBound_TooMany
  k_OverBound_Twice
  k_OverBound_ValueError
  xga_Short
  xgh_Short
  xbe_Short
  xca_Short
  xob_Short
  xcl_Short:=⟨_,xcl_Short⟩
  k_Short_Broken
  k_Short_NoExchange
  k_Short_NoNumber
  k_Short_NoPlace
  k_Short_NoRing
  k_Short_NoRow
  k_Short_NoStrand
  k_Short_NoText
  k_Short_NoWay
  k_Short_OverBound
  k_Short_Short
  k_Short_TooMany
  k_Short_Twice
  k_Short_ValueError
  gi_MOST_PLACES:=⟨_,W.mg_of X G gi_MOST_PLACES⟩
  gi_MOST_WAYS:=⟨_,W.mg_of X G gi_MOST_WAYS⟩
  z_ValueError:=W.mg_none_of X G z_ValueError
  z_abs:=W.mg_none_of X G z_abs
  z_bool:=W.mg_none_of X G z_bool
  z_int:=W.mg_none_of X G z_int
  z_isinstance:=W.mg_none_of X G z_isinstance
  z_len:=W.mg_none_of X G z_len
  z_list:=W.mg_none_of X G z_list
  z_max:=W.mg_none_of X G z_max
  z_range:=W.mg_none_of X G z_range
  z_tuple:=W.mg_none_of X G z_tuple
 }
 exact ⟨W.fnOf "law" "law" (av ge) (ap ge) (ag ge) .none kVDlaw dcDlaw pmDlaw anDlaw cdDlaw ctDlaw,fun s v=>.of_eq rfl,fun base _ _=>ok_law N_Dlaw T⟩
theorem walkL {l:PySem.W.OpenLaw} {q:Program} {loose:List Str} {XP:(Str→Option Value)→Heap→Prop} {YP:World→Heap→Prop} {d:DefRec} {K:Params→PySem.W.Frag} (hn:l.most=some 63) (hdf:d.params.defaults=[])
  (hY:∀ (w:World) (h:Heap),YP w h→(K w.params).In h)
  (F:∀ (w:World) (mg:Str→Option Value) (fa:Addr) (h:Heap),(K w.params).In h→h.Ns mainGlobals mg→mg d.name=some (.ref fa)→
   ∃ fd:FuncData,(∀ (s:Shared) (u:Value),BindsTo s fd ⟨[u],[]⟩ [("_law_script",u)])∧∀ base:Heap,(K w.params).In base→base.Ns mainGlobals mg→FnOk l.prog w (K w.params) mg base CX0 18 fa fd ["_law_script"] (spLaw (K w.params))) :
  PySem.W.WalkO q loose XP YP l.row.toRowW d [] (fun f vs=>PySem.call f vs):=
 L2.walk_ofB (n:=63) (k:=18) (x:="_law_script") (CX:=fun _=>CX0) (sp:=fun w=>spLaw (K w.params)) hn (by decide) hdf ⟨rfl,by decide,by decide⟩ hY F (fun _ _ a ns hl hb _ hS=>⟨a,ns,rfl,hS,hl,fun i hi=>⟨hb i hi⟩,fun _=>rfl⟩) fun _ _ _ _ _ z=>z
end G
inductive PySem.W.Fast:Prop | tw306417680105069439 | tw14663892654225371625 | tw15157267884631160372 | tw14078021527168410351 | tw10469710411942389676 | tw215385264805940933 | tw10510688595770202336 | tw18201117728584781124 | tw13038541920887872635 | tw18015260437626677257 | tw2122961887686301351 | tw15731002095905799834 | tw2871015875767060223 | tw4699293623874051454 | tw1915126216557852750 | tw5705946510161885530 | tw10958869589564259674 | tw1977513949267001002 | tw559525275200342615 | tw717226958552291474 | tw981292074371001472 | tw10176591388372867309 | tw712581698402519720 | tw9221345394161478049 | tw15202528484011724726 | tw2063089827778323496 | tw14205384707045142325 | tw16335189471124448365 | tw5453339776004603856 | tw7246002254971189584 | tw580826691373211528 | tw11727925314246710581 | tw2662632587498322345 | tw486360878861230911 | tw9238707421168836195 | tw7626082839663182968 | tw16557362715458303934 | tw17223419731815375894 | tw16468025974266902464 | tw3670693783126459900 | tw15072158286119897627 | tw6604883451748896204 | tw838864321963992128 | tw7744289168205980905 | tw14699202913430027513 | tw4233005826948010007 | tw11691888925332515998 | tw7707250426018697493 | tw8166786647607201241 | tw5653906852393587110 | tw13787923695785979826 | tw1083941225911672512 | tw10339565787402198330 | tw14006813252314117910 | tw11154174587251296561 | tw16477236820961428827 | tw10360745603249321878 | tw15236724196691363458 | tw10219909080102507926 | tw3664748524045698959 | tw17892926137930179399 | tw3865278837558024562 | tw17434754628769057102 | tw858201127946783363 | tw15660051599056274005 | tw16681960698869328747 | tw99150693189666221 | tw12474199997893252236 | tw15315816093475356129 | tw15626313249884249268 | tw5024725265842002772 | tw6865522203333811627 | tw9858790532553744508 | tw17071697998846501296 | tw15937819373775215620 | tw14338672452835912134 | tw12455670048682337033 | tw12603703040170790835 | tw2437563134424470831 | tw6345618049754479369 | tw11661263812331340198 | tw11487943180775722947 | tw7512970485372461909 | tw6689201841396001161 | tw15159287940995989208 | tw2694338764279206974 | tw1877220079141371051 | tw8048339010884350189 | tw5021309432725363274 | tw13462247401923223176 | tw2590290871643223240 | tw8704329147631952394 | tw16300373930580680708 | tw7967318587593681074 | tw5357799320990483948 | tw15196112818875443547 | tw9788041957103479573 | tw1949002986281964658 | tw13505634026271309549 | tw659977060652789719 | tw1207675784102052450 | tw1071370659600448885 | tw7925028789971213313 | tw2828754569690815142 | tw3503869976163219633 | tw4048753546171518516 | tw12454581123474105071 | tw1730152822811427322 | tw11057579831878373522 | tw13770480933052034737 | tw13265464933032520427 | tw10821380935525850427 | tw17842515536617974402 | tw9548922625826229291 | tw3433277043125885338 | tw13723942300196928258 | tw192797050281162410 | tw7084782149297154905 | tw8313927473497205014 | tw17294924814693446532 | tw7947265541940859040 | tw10060997201458273150
open PySem L2 in
local macro_rules | `(tactic| walk_at $s:str) => do
  let v := s.getString.splitOn " "
  let id (i : Nat) := Lean.mkIdent (Lean.Name.mkSimple s!"o{i}")
  match v with
  | ["H", n] => do
    let hs ← (Array.range n.toNat!).mapM fun i => `(?$(id i):ident)
    `(tactic| refine' G.all_mk $(Lean.mkIdent `KX) $(Lean.mkIdent `GN) $(Lean.mkIdent `hmg) $hs*)
  | [k, a, b] => do
    let ts ← (List.range' a.toNat! (b.toNat! + 1 - a.toNat!)).toArray.mapM fun i => match k with
      | "k" => `(tactic| case $(id i):ident => k_is)
      | "t" => `(tactic| case $(id i):ident => kit_is)
      | "r" => `(tactic| case $(id i):ident => rfl)
      | "e" => `(tactic| case $(id i):ident => kernel_rfl)
      | _ => `(tactic| case $(id i):ident => k_exc)
    `(tactic| ($[$ts];*))
  | _ => Lean.Macro.throwUnsupported
open PySem PySem.W PyProof.Rows
set_option maxRecDepth 100000 in
set_option maxHeartbeats 0 in
theorem PySem.Challenge.cw_gainstream_k16_faults_and_checked_plans_holds : PySem.Challenge.rw_gainstream_k16_faults_and_checked_plans.Holds := by
 w_on;o_law;k_head;(case hw=>w_witness2)
 k_fill
 refine G.walkL (l:=PySem.Challenge.rw_gainstream_k16_faults_and_checked_plans) rfl rfl (fun w h Y=>PySem.W.kIn_of Y) ?F
 case F=>
  intro w mg fa h KX GN hmg
  walk_at "H 499"
  walk_at "k 0 196"
  walk_at "r 197 197"
  walk_at "k 198 240"
  walk_at "r 241 241"
  walk_at "k 242 274"
  walk_at "r 275 275"
  walk_at "k 276 300"
  walk_at "r 301 301"
  walk_at "k 302 370"
  walk_at "e 371 371"
  walk_at "k 372 372"
  walk_at "r 373 374"
  walk_at "k 375 385"
  walk_at "e 386 386"
  walk_at "k 387 387"
  walk_at "r 388 389"
  walk_at "k 390 401"
  walk_at "e 402 402"
  walk_at "k 403 403"
  walk_at "r 404 405"
  walk_at "k 406 418"
  walk_at "t 419 426"
  walk_at "k 427 432"
  walk_at "t 433 446"
  walk_at "k 447 452"
  walk_at "t 453 466"
  walk_at "k 467 472"
  walk_at "t 473 486"
  walk_at "k 487 498"
#print axioms PySem.Challenge.cw_gainstream_k16_faults_and_checked_plans_holds
