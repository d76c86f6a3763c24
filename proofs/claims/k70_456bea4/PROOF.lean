import PyProof.Rows.All
import Wide.All
import OpenK.AllK
import Wide.FinOn
import Lean
import PyProof.EqAt
import PyProof.EqKinds
import PyProof.TupleCall
import PySem.Challenge.RW_gainstream_k70_a_fraction_read
set_option compiler.extract_closed false
theorem zL2:2<=PySem.sizeLine:=by decide
theorem zL3:3<=PySem.sizeLine:=by decide
theorem zL12:12<=PySem.sizeLine:=by decide
theorem zI10:(0:Int)<10:=by decide
theorem zI11:(0:Int)<11:=by decide
theorem zI12:(0:Int)<12:=by decide
theorem zI2:(0:Int)<2:=by decide
theorem zI5:(0:Int)<5:=by decide
theorem zI8:(0:Int)<8:=by decide
theorem zI9:(0:Int)<9:=by decide
def cn:=@Nat.le_trans
def cq:=@PySem.wpAny_bind
def cr.{u0}:=@List.getElem?_eq_getElem.{u0}
def cu:=@PySem.Heap.get?_push_of_some
def cv:=@decide_eq_false
def cw:=@Bool.false_ne_true
def cx:=@PySem.Heap.lt_size
def cy:=@Nat.le_refl
def cz.{u0}:=@List.size_toArray.{u0}
def cA.{u0,u1}:=@List.length_map.{u0,u1}
def cB:=@decide_eq_true
def cD.{u0}:=@List.mem_append_right.{u0}
def cE.{u0}:=@List.mem_cons_self.{u0}
def cF:=@Nat.lt_of_lt_of_le
def cG:=@PyProof.Rows.boot_isinstance
def cH.{u0}:=@List.length_cons.{u0}
def cI.{u0}:=@List.getElem?_eq_some_iff.{u0}
def cJ:=@PySem.wpAny_pure
def cK.{u0}:=@List.mem_cons_of_mem.{u0}
def cL:=@PySem.sizeLine_eq
def cM.{u0}:=@Array.length_toList.{u0}
def cN:=@PySem.Heap.get?_push_size
def cO:=@PySem.strLen_append
def cP:=@Bool.and_eq_true
def cQ.{u0}:=@List.mem_cons.{u0}
def cR:=@decide_eq_true_iff
def cS:=@PyProof.Rows.boot_str
def cT:=@Nat.ne_of_lt
def cU.{u0}:=@Option.some.inj.{u0}
def cV:=@PySem.W.kia_one
def cW.{u0}:=@beq_eq_false_iff_ne.{u0}
def cX:=@PySem.mem_of_lookup
def cY:=@PySem.wpAny_truthy_bool
def cZ.{u0}:=@List.length_append.{u0}
def c5.{u0}:=@Array.getElem?_eq_some_iff.{u0}
def c6.{u0}:=@List.getD_eq_getElem?_getD.{u0}
def c7:=@PySem.Heap.get?_update_other
def c8:=@PySem.typeIs_str
def c9:=@Int.natAbs_natCast
def da:=@Nat.zero_le
def db:=@PySem.wpAny_mono
set_option Elab.async false
set_option linter.all false
set_option maxRecDepth 100000
namespace L2
open PySem PySem.Spec PyProof.Rows
noncomputable abbrev Key:=Sum Int Str
noncomputable def keyIs:Key->Value->Bool
 | .inl k,v=>Value.isInt k v
 | .inr x,v=>Value.isStrOf x v
noncomputable def keyH (w:World):Key->Int
 | .inl k=>hashInt k
 | .inr x=>hashStr w x
theorem aC:∀ {k:Key} {v:Value},keyIs k v=true->(∃ i t,k=Sum.inl i/\v=Value.int i t)∨(∃ x t,k=Sum.inr x/\v=Value.str x t)
 | .inl i,v,h=>by
  obtain ⟨t,e⟩:=Value.isInt_shape (k:=i) (v:=v) h;exact .inl ⟨i,t,rfl,e⟩
 | .inr x,v,h=>by
  obtain ⟨t,e⟩:=Value.isStrOf_shape (x:=x) (v:=v) h;exact .inr ⟨x,t,rfl,e⟩
theorem keyIs_int (i:Int) (t:Tok):keyIs (.inl i) (.int i t)=true:=by simp [keyIs,Value.isInt]
theorem keyIs_str (x:Str) (t:Tok):keyIs (.inr x) (.str x t)=true:=by simp [keyIs,Value.isStrOf]
theorem key_ll (a b:Int):decide ((Sum.inl a:Key)=Sum.inl b)=(a == b):=by
 by_cases e:a=b
 ·subst e;simp
 ·have h:¬ (Sum.inl a:Key)=Sum.inl b:=λ q=>e (Sum.inl.inj q);rw [cv h];exact (cW.mpr e).symm
theorem key_rr (a b:Str):decide ((Sum.inr a:Key)=Sum.inr b)=decide (a=b):=by
 by_cases e:a=b
 ·subst e;simp
 ·have h:¬ (Sum.inr a:Key)=Sum.inr b:=λ q=>e (Sum.inr.inj q);rw [cv h,cv e]
theorem key_lr (a:Int) (b:Str):decide ((Sum.inl a:Key)=Sum.inr b)=false:=cv (λ q=>nomatch q)
theorem key_rl (a:Str) (b:Int):decide ((Sum.inr a:Key)=Sum.inl b)=false:=cv (λ q=>nomatch q)
noncomputable def ck (prog:Program) (w:World):PySem.KeyKind prog w Key where
 is:=keyIs
 hash:=keyH w
 inj:=λ v a b ha hb=>by
  rcases aC ha with ⟨i,t,rfl,rfl⟩ | ⟨x,t,rfl,rfl⟩
  ·rcases aC hb with ⟨j,u,rfl,e⟩ | ⟨y,u,rfl,e⟩
   ·injection e with e1 _;rw [e1]
   ·exact nomatch e
  ·rcases aC hb with ⟨j,u,rfl,e⟩ | ⟨y,u,rfl,e⟩
   ·exact nomatch e
   ·injection e with e1 _;rw [e1]
 byValue:=λ k v h=>by
  rcases aC h with ⟨i,t,rfl,rfl⟩ | ⟨x,t,rfl,rfl⟩ <;> rfl
 pyHash:=λ hv h=>by
  rcases aC hv with ⟨i,t,rfl,rfl⟩ | ⟨x,t,rfl,rfl⟩
  ·exact wpAny_pyHash_int h
  ·exact wpAny_pyHash_str h
 eqBool:=λ hu hv h=>by
  rcases aC hu with ⟨i,t,rfl,rfl⟩ | ⟨x,t,rfl,rfl⟩
  ·rcases aC hv with ⟨j,u,rfl,rfl⟩ | ⟨y,u,rfl,rfl⟩
   ·rw [key_ll] at h;exact wpAny_eqBool_int h
   ·rw [key_lr] at h;exact SeqAt.EqAt.int_str i t y u _ _ _ _ h
  ·rcases aC hv with ⟨j,u,rfl,rfl⟩ | ⟨y,u,rfl,rfl⟩
   ·rw [key_rl] at h;exact SeqAt.EqAt.str_int x t j u _ _ _ _ h
   ·rw [key_rr] at h;exact wpAny_eqBool_str h
 «strs»:=λ k x t v h=>by
  rcases aC h with ⟨i,u,rfl,e⟩ | ⟨y,u,rfl,e⟩
  ·exact nomatch e
  ·injection e with e1 _
   subst e1
   cases v <;> rfl
theorem mixKind_int (prog:Program) (w:World) (i:Int) (t:Tok):(ck prog w).is (.inl i) (.int i t)=true:=keyIs_int i t
theorem mixKind_str (prog:Program) (w:World) (x:Str) (t:Tok):(ck prog w).is (.inr x) (.str x t)=true:=keyIs_str x t
end L2
namespace L2
open PySem PySem.Spec PyProof.Rows
inductive V where
 | non | bl (b:Bool) | int (i:Int) | str (x:Str) | byt (b:Array UInt8) | flt (b:UInt64) | ref (a:Addr) | ty (n:String)
 deriving DecidableEq
noncomputable def RelV:V->Value->Prop
 | .non,u=>u=Value.none
 | .bl b,u=>u=Value.bool b
 | .int i,u=>∃ t,u=Value.int i t
 | .str x,u=>∃ t,u=Value.str x t
 | .byt b,u=>∃ t,u=Value.bytes b t
 | .flt b,u=>∃ t,u=Value.float b t
 | .ref a,u=>u=Value.ref a
 | .ty n,u=>u=Value.type n
noncomputable abbrev Vals:List V->List Value->Prop:=Paired RelV
theorem Vals.length {xs:List V} {us:List Value} (r:Vals xs us):xs.length=us.length:=Paired.length r
theorem Vals.get:∀ {xs:List V} {us:List Value} {i:Nat} {x:V},Vals xs us->xs[i]?=some x->∃ u,us[i]?=some u/\RelV x u
 | _,_,_,_,.nil,e=>by simp at e
 | _,_,0,_,.cons r _,e=>by simp at e;subst e;exact ⟨_,rfl,r⟩
 | _,_,i+1,x,.cons _ t,e=>by
  obtain ⟨u,h1,h2⟩:=Vals.get (i:=i) (x:=x) t (by simpa using e);exact ⟨u,by simpa using h1,h2⟩
theorem Vals.set {x:V} {u:Value} (r:RelV x u):∀ {xs:List V} {us:List Value} (i:Nat),Vals xs us->Vals (xs.set i x) (us.set i u)
 | _,_,_,.nil=>.nil
 | _,_,0,.cons _ t=>.cons r t
 | _,_,i+1,.cons q t=>.cons q (Vals.set r i t)
theorem Vals.append:∀ {xs ys:List V} {us ws:List Value},Vals xs us->Vals ys ws->Vals (xs++ys) (us++ws)
 | _,_,_,_,.nil,s=>s
 | _,_,_,_,.cons r t,s=>.cons r (Vals.append t s)
theorem Vals.take:∀ {xs:List V} {us:List Value} (n:Nat),Vals xs us->Vals (xs.take n) (us.take n)
 | _,_,0,_=>.nil
 | _,_,_+1,.nil=>.nil
 | _,_,n+1,.cons r t=>.cons r (Vals.take n t)
theorem Vals.drop:∀ {xs:List V} {us:List Value} (n:Nat),Vals xs us->Vals (xs.drop n) (us.drop n)
 | _,_,0,r=>r
 | _,_,_+1,.nil=>.nil
 | _,_,n+1,.cons _ t=>Vals.drop n t
noncomputable def RelO:Option V->Option Value->Prop
 | some v,some u=>RelV v u
 | none,none=>True
 | _,_=>False
noncomputable def KV {κ:Type}:List (κ × V)->List (κ × Value)->Prop:=Paired λ(p:κ × V) (q:κ × Value)=>p.1=q.1/\RelV p.2 q.2
noncomputable def kV:Key->V
 | .inl i=>.int i
 | .inr x=>.str x
inductive HO where
 | lst (xs:List V)
 | tup (xs:List V)
 | dK (kvs:List (Key × V)) | dT (kvs:List (List Key × V))
 | set (S:Int->Bool) (n:Nat)
 | ins (C dx:Addr) (fs:List (Str × V))
 | own (x:Addr)
 | xd (fs:List (Str × V))
 | met (f x:Addr)
 | rng (lo hi:Int)
 | frz (o:Obj) (u:HO)
 | tbl (ps:Array Value)
 | ext (φ:Heap->Prop)
noncomputable abbrev Hp:=Addr->Option HO
noncomputable def upd (H:Hp) (a:Addr) (o:HO):Hp:=λ b=>if b=a then some o else H b
theorem ai {H:Hp} {a:Addr} {o:HO}:upd H a o a=some o:=by unfold upd;rw [if_pos rfl]
theorem ar {H:Hp} {a b:Addr} {o:HO} (h:b≠a):upd H a o b=H b:=by unfold upd;rw [if_neg h]
theorem upd_upd {H:Hp} {a:Addr} {o u:HO}:upd (upd H a o) a u=upd H a u:=by
 funext b;unfold upd;split <;> rfl
theorem aD {H:Hp} {a b:Addr} {o:HO} (h:H a=some o) (h':H b=none):a≠b:=by
 intro e;subst e;rw [h] at h';cases h'
section
variable (P:Program) (w:World)
noncomputable def ObjOk (H:Hp) (h:Heap) (a:Addr):HO->Prop
 | .lst xs=>xs.length<=sizeLine/\∃ (its:List Value) (n:Nat),Vals xs its/\h.get? a=some { cls:=.type "list",data:=.seq its.toArray n }
 | .tup xs=>xs.length<=sizeLine/\∃ its:List Value,Vals xs its/\IsTup h a its.toArray
 | .dK kvs=>kvs.length<=sizeLine/\(a == sysModules)=false/\∃ vs,KV kvs vs/\h.DictOf (ck P w) a vs
 | .dT kvs=>kvs.length<=sizeLine/\(a == sysModules)=false/\∃ xs:List (List Key × Addr × Value),
   Paired (λ(p:List Key × V) (q:List Key × Addr × Value)=>p.1=q.1/\H q.2.1=some (.tup (p.1.map kV))/\RelV p.2 q.2.2) kvs xs/\
   ∃ o es ep,h.get? a=some o/\o.ExactDict/\o.data=.dict es ep/\es.toList=xs.map (entryOfKey (tupleKind (ck P w)))/\(xs.map (·.1)).Nodup
 | .set S n=>h.SetOf (intKind P w) a S n
 | .ins C dx fs=>H dx=some (.own a)/\fs.length<=1000/\dx≠a/\h.get? a=some (PySem.W.instObj C dx)/\
   ∃ mA,h.Ns1 dx mA/\(∀ f,RelO (fs.lookup f) (mA f))/\PySem.Within mA (fs.map (·.1))
 | .own _=>∃ o,h.get? a=some o
 | .xd fs=>∃ mA,h.Ns1 a mA/\∀ f,RelO (fs.lookup f) (mA f)
 | .rng lo hi=>∃ t u v,h.get? a=some { cls:=.type "range",data:=.fields #[.int lo t,.int hi u,.int 1 v] }
 | .frz o u=>h.get? a=some o/\ObjOk H h a u
 | .tbl ps=>h.get? a=some { cls:=.none,data:=.fields ps }
 | .met f x=>h.get? a=some (PySem.W.methodObj (.ref f) (.ref x))
 | .ext φ=>φ h/\(∃ o,h.get? a=some o)/\∀ h1 h2:Heap,φ h1->(∀ o,h1.get? a=some o->h2.get? a=some o)->φ h2
noncomputable def HOk (H:Hp) (h:Heap):Prop:=∀ a o,H a=some o->ObjOk P w H h a o
end
section
variable {P:Program} {w:World} {H H':Hp} {h h':Heap} {a:Addr} {o:HO}
theorem ObjOk.lt (x:ObjOk P w H h a o):a<h.objs.size:=by
 cases o with
 | lst xs=>obtain ⟨_,_,_,_,e⟩:=x;exact cx e
 | tup xs=>obtain ⟨_,_,_,p⟩:=x;exact p.lt
 | dK kvs=>obtain ⟨_,_,_,_,o,_,_,e,_⟩:=x;exact cx e
 | dT kvs=>obtain ⟨_,_,_,_,o,_,_,e,_⟩:=x;exact cx e
 | set S n=>obtain ⟨o,_,_,_,e,_⟩:=x;exact cx e
 | ins C dx fs=>obtain ⟨_,_,_,e,_⟩:=x;exact cx e
 | own y=>obtain ⟨_,e⟩:=x;exact cx e
 | xd fs=>obtain ⟨_,⟨_,_,_,e,_⟩,_⟩:=x;exact cx e
 | rng lo hi=>obtain ⟨_,_,_,e⟩:=x;exact cx e
 | frz ob u=>obtain ⟨e,_⟩:=x;exact cx e
 | tbl ps=>exact cx (show h.get? a=some _ from x)
 | met f y=>exact cx (show h.get? a=some _ from x)
 | ext φ=>obtain ⟨_,⟨_,e⟩,_⟩:=x;exact cx e
theorem Paired.mapP {α β:Type} {F G:α->β->Prop}:∀ {l₁:List α} {l₂:List β},Paired F l₁ l₂->(∀ a b,F a b->G a b)->Paired G l₁ l₂
 | _,_,.nil,_=>.nil
 | _,_,.cons r t,f=>.cons (f _ _ r) (Paired.mapP t f)
theorem ObjOk.stay (x:ObjOk P w H h a o) (k:∀ b u,(b=a∨H b=some (.own a))->h.get? b=some u->h'.get? b=some u)
  (ho:∀ b,H b=some (.own a)->H' b=some (.own a)) (ht:∀ b xs,H b=some (.tup xs)->H' b=some (.tup xs)):ObjOk P w H' h' a o:=by
 induction o with
 | lst xs=>obtain ⟨z,its,n,r,e⟩:=x;exact ⟨z,its,n,r,k _ _ (.inl rfl) e⟩
 | tup xs=>obtain ⟨z,its,r,ob,e,c⟩:=x;exact ⟨z,its,r,ob,k _ _ (.inl rfl) e,c⟩
 | dK kvs=>obtain ⟨z,y,vs,r,ob,es,ep,e,c⟩:=x;exact ⟨z,y,vs,r,ob,es,ep,k _ _ (.inl rfl) e,c⟩
 | dT kvs=>
  obtain ⟨z,y,xs,r,ob,es,ep,e,c⟩:=x;exact ⟨z,y,xs,Paired.mapP r λ p q z=>⟨z.1,ht _ _ z.2.1,z.2.2⟩,ob,es,ep,k _ _ (.inl rfl) e,c⟩
 | set S n=>obtain ⟨ob,es,ep,t,e,c⟩:=x;exact ⟨ob,es,ep,t,k _ _ (.inl rfl) e,c⟩
 | ins C dx fs=>
  obtain ⟨d,z,ne,e,mA,⟨od,es,ep,e2,c⟩,r⟩:=x;exact ⟨ho _ d,z,ne,k _ _ (.inl rfl) e,mA,⟨od,es,ep,k _ _ (.inr d) e2,c⟩,r⟩
 | own y=>obtain ⟨ob,e⟩:=x;exact ⟨ob,k _ _ (.inl rfl) e⟩
 | xd fs=>obtain ⟨mA,⟨od,es,ep,e,c⟩,r⟩:=x;exact ⟨mA,⟨od,es,ep,k _ _ (.inl rfl) e,c⟩,r⟩
 | rng lo hi=>obtain ⟨t,u,v,e⟩:=x;exact ⟨t,u,v,k _ _ (.inl rfl) e⟩
 | frz ob u ih=>obtain ⟨e,q⟩:=x;exact ⟨k _ _ (.inl rfl) e,ih q⟩
 | tbl ps=>
  have e:h.get? a=some { cls:=.none,data:=.fields ps }:=x;show h'.get? a=some { cls:=.none,data:=.fields ps };exact k a _ (.inl rfl) e
 | met f y=>
  have e:h.get? a=some (PySem.W.methodObj (.ref f) (.ref y)):=x;show h'.get? a=some (PySem.W.methodObj (.ref f) (.ref y));exact k a _ (.inl rfl) e
 | ext φ=>obtain ⟨p,⟨o,e⟩,st⟩:=x;exact ⟨st _ _ p λ o q=>k _ _ (.inl rfl) q,⟨o,k _ _ (.inl rfl) e⟩,st⟩
theorem HOk.lt (x:HOk P w H h) (e:H a=some o):a<h.objs.size:=(x a o e).lt
theorem HOk.fresh (x:HOk P w H h) (e:h.objs.size<=a):H a=none:=by
 cases q:H a with
 | none=>rfl
 | some u=>exact absurd (cF (x.lt q) e) (Nat.lt_irrefl _)
theorem HOk.kept (x:HOk P w H h) (k:∀ b u,h.get? b=some u->h'.get? b=some u):HOk P w H h':=λ a o e=>
 (x a o e).stay (λ b u _ q=>k b u q) (λ _ q=>q) λ _ _ q=>q
theorem HOk.laid (x:HOk P w H h) (k:∀ b u,h.get? b=some u->h'.get? b=some u) (hp:h.objs.size<=a) (new:ObjOk P w (upd H a o) h' a o):HOk P w (upd H a o) h':=λ b u e=>by
 have hn:=x.fresh hp;by_cases hb:b=a
 ·subst hb;rw [ai] at e;cases e;exact new
 ·rw [ar hb] at e;exact (x b u e).stay (λ c v _ q=>k c v q) (λ c q=>by rw [ar (aD q hn)];exact q) λ c xs q=>by rw [ar (aD q hn)];exact q
end
noncomputable def Rd (H:Hp) (a:Addr) (u:HO):Prop:=H a=some u∨∃ o,H a=some (.frz o u)
theorem Rd.ok {P:Program} {w:World} {H:Hp} {h:Heap} {a:Addr} {u:HO} (r:Rd H a u) (x:HOk P w H h):ObjOk P w H h a u:=by
 rcases r with r | ⟨o,r⟩
 ·exact x a u r
 ·obtain ⟨_,q⟩:=x a _ r;exact q
noncomputable def Mut:Option HO->Prop
 | some (.lst _)=>True
 | some (.dK _)=>True
 | some (.dT _)=>True
 | some (.set _ _)=>True
 | some (.ins _ _ _)=>True
 | some (.ext _)=>True
 | _=>False
section
variable {P:Program} {w:World} {H:Hp} {h h':Heap} {x e:Addr} {o':HO}
theorem HOk.write (ok:HOk P w H h) (mu:Mut (H x)) (he:e=x∨H e=some (.own x)) (k:∀ b u,b≠e->h.get? b=some u->h'.get? b=some u) (heo:∃ u,h'.get? e=some u)
  (new:ObjOk P w (upd H x o') h' x o'):HOk P w (upd H x o') h':=λ b u q=>by
 have nown:∀ c y,H c=some (.own y)->c≠x:=λ c y r z=>by subst z;rw [r] at mu;exact mu
 have ntup:∀ c xs,H c=some (.tup xs)->c≠x:=λ c xs r z=>by subst z;rw [r] at mu;exact mu
 by_cases hb:b=x
 ·subst hb;rw [ai] at q;cases q;exact new
 ·rw [ar hb] at q;by_cases hbe:b=e
  ·have q':H b=some (.own x):=by
    rcases he with z | z
    ·exact absurd (hbe.trans z) hb
    ·rw [hbe];exact z
   rw [q] at q';cases q';obtain ⟨v,hv⟩:=heo;exact ⟨v,by rw [hbe];exact hv⟩
  ·refine (ok b u q).stay (λ c v hc r=>k c v ?_ r) (λ c r=>by rw [ar (nown c b r)];exact r) λ c xs r=>by rw [ar (ntup c xs r)];exact r
   rcases hc with rfl | hc
   ·exact hbe
   ·rintro rfl;rcases he with z | z
    ·exact nown c b hc z
    ·rw [hc] at z;cases z;exact hb rfl
end
structure Un (fs ex:List Addr) (H H':Hp) (h h':Heap):Prop where
 keep:∀ b o,h.get? b=some o->H b=none->b ∉ fs->b ∉ ex->h'.get? b=some o
 slot:∀ b o,h.get? b=some o->H b=none->b∈fs->b ∉ ex->∃ sl,h'.get? b=some { o with slots:=sl }
 free:∀ b o,h.get? b=some o->H b=none->b ∉ ex->H' b=none
 there:∀ b o,h.get? b=some o->b ∉ ex->∃ o',h'.get? b=some o'
 tups:∀ b xs,H b=some (.tup xs)->H' b=some (.tup xs)
 frzs:∀ b o u,H b=some (.frz o u)->H' b=some (.frz o u)
 tbls:∀ b ps,H b=some (.tbl ps)->∃ more,H' b=some (.tbl (ps++more))
section
variable {fs fs' ex ex':List Addr} {H H1 H2:Hp} {h h1 h2 h':Heap} {a x e:Addr} {o:HO}
theorem Un.any (u:Un fs ex H H1 h h1) {b:Addr} {ob:Obj} (q:h.get? b=some ob) (n:H b=none) (hx:b ∉ ex):∃ sl,h1.get? b=some { ob with slots:=sl }:=by
 by_cases hb:b∈fs
 ·exact u.slot b ob q n hb hx
 ·exact ⟨ob.slots,u.keep b ob q n hb hx⟩
theorem Un.kept (k:∀ b u,h.get? b=some u->h'.get? b=some u):Un fs ex H H h h':=
 ⟨λ b ob q _ _ _=>k b ob q,λ b ob q _ _ _=>⟨ob.slots,k b ob q⟩,λ _ _ _ n _=>n,λ b ob q _=>⟨ob,k b ob q⟩,λ _ _ q=>q,λ _ _ _ q=>q,λ _ ps q=>⟨#[],by rw [q];simp⟩⟩
theorem Un.refl:Un fs ex H H h h:=Un.kept λ _ _ q=>q
theorem Un.laid (k:∀ b u,h.get? b=some u->h'.get? b=some u) (hp:h.objs.size<=a) (hn:H a=none):Un fs ex H (upd H a o) h h' where
 keep:=λ b u q _ _ _=>k b u q
 slot:=λ b u q _ _ _=>⟨u.slots,k b u q⟩
 free:=λ b u q n _=>by rw [ar (cT (cF (cx q) hp))];exact n
 there:=λ b u q _=>⟨u,k b u q⟩
 tups:=λ b xs q=>by rw [ar (aD q hn)];exact q
 frzs:=λ b u xs q=>by rw [ar (aD q hn)];exact q
 tbls:=λ b ps q=>⟨#[],by rw [ar (aD q hn),q];simp⟩
theorem Un.write (mu:Mut (H x)) (he:e=x∨H e=some (.own x)) (k:∀ b u,b≠e->h.get? b=some u->h'.get? b=some u) (heo:∃ u,h'.get? e=some u):Un fs ex H (upd H x o) h h':=by
 have hx:∀ b,H b=none->b≠x:=λ b n z=>by subst z;rw [n] at mu;exact mu
 have hb:∀ b,H b=none->b≠e:=λ b n z=>by
  subst z;rcases he with r | r
  ·exact hx b n r
  ·rw [n] at r;cases r
 have hm:∀ b u,H b=some u->¬ Mut (some u)->b≠x:=λ b u q nm z=>by subst z;rw [q] at mu;exact nm mu
 refine ⟨λ b u q n _ _=>k b u (hb b n) q,λ b u q n _ _=>⟨u.slots,k b u (hb b n) q⟩,λ b u q n _=>by rw [ar (hx b n)];exact n,λ b u q _=>?_,
  λ b xs q=>by rw [ar (hm b _ q λ z=>z)];exact q,λ b u xs q=>by rw [ar (hm b _ q λ z=>z)];exact q,λ b ps q=>⟨#[],by rw [ar (hm b _ q λ z=>z),q];simp⟩⟩
 by_cases hbe:b=e
 ·subst hbe;exact heo
 ·exact ⟨u,k b u hbe q⟩
end
noncomputable def trk (h:Heap) (H:Hp):List Addr:=(List.range h.objs.size).filter λ a=>(H a).isSome
noncomputable def hidT (h:Heap) (H:Hp):Heap:=PySem.W.hideAll h (trk h H)
theorem hidT_size (h:Heap) (H:Hp):(hidT h H).objs.size=h.objs.size:=PySem.W.hideAll_size _ _
theorem hidT_get {h:Heap} {H:Hp} {b:Addr} {o:Obj} (e:h.get? b=some o) (n:H b=none):(hidT h H).get? b=some o:=
 PySem.W.hideAll_get _ e λ hm=>by
  have q:(H b).isSome=true:=(List.mem_filter.mp hm).2;rw [n] at q;simp at q
theorem of_hidT {h:Heap} {H:Hp} {b:Addr} {o:Obj} (e:(hidT h H).get? b=some o):h.get? b=some o/\H b=none:=by
 have e':h.get? b=some o:=PySem.W.of_hideAll (trk h H) e;refine ⟨e',?_⟩
 cases q:H b with
 | none=>rfl
 | some x=>
  have hm:b∈trk h H:=List.mem_filter.mpr ⟨List.mem_range.mpr (cx e'),by simp [q]⟩;have z:(hidT h H).get? b=none:=PySem.W.hideAll_none (trk h H) hm;rw [z] at e;cases e
noncomputable def allNews (g h:Heap) (L:Addr):List (Addr × Obj):=(List.range h.objs.size).filterMap λ a=>if a=L∨(g.get? a).isSome=true then none else (h.get? a).map λ o=>(a,o)
noncomputable def rest (g h:Heap) (L d:Addr):List (Addr × Obj):=(allNews g h L).filter λ p=>decide (p.1≠d)
end L2
namespace L2
open PySem PySem.Spec PyProof.Rows
structure Mod (K:W.Frag) (mg:Str->Option Value) (base:Heap):Prop where
 kin:K.In base
 glob:base.Ns mainGlobals mg
 blt:∃ mb,base.Ns builtinsNs mb/\∀ x:Str,x≠"__name__"->mb x=bootBuiltins x
 nolimit:base.NoLimit
structure Cx where
 prog:Program
 w:World
 K:W.Frag
 mg:Str->Option Value
 base:Heap
 A:Around
 N:List Str
 s₀:Shared
 H₀:Hp
 env:Env
 outer:List Env
 stack:List Env
 ex:List Addr
 fn:Str->Bool
 calm:Bool
 pn:List (Addr × Obj)
 xe:Value->Shared->Prop
noncomputable def frs (l:List Env):List Addr:=l.filterMap (·.frame)
noncomputable abbrev Cx.fs (X:Cx):List Addr:=frs X.outer
noncomputable def Vis (sc:Scope) (x:Str):Prop:=sc.names.lookup x=some .local∨sc.names.lookup x=some .cell∨sc.names.lookup x=some .free
noncomputable def Loc (sc:Scope) (x:Str):Prop:=sc.names.lookup x=some .local∨sc.names.lookup x=some .cell
noncomputable def Look (env:Env) (h:Heap) (m:Str->Option Value) (x:Str) (u:Value):Prop:=
 (env.kindOf x=some .local/\m x=some u)∨((env.kindOf x=some .cell∨env.kindOf x=some .free)/\∃ c,env.cells.lookup x=some c/\h.IsCell c (some u))
structure Cx.Ok (X:Cx):Prop where
 mod:Mod X.K X.mg X.base
 kind:X.env.scope.kind=.function
 glob:X.env.globals=mainGlobals
 blt:X.env.builtins=builtinsNs
 above:X.s₀.heap.objs.size<=X.env.locals
 inj:∀ x y c,X.env.cells.lookup x=some c->X.env.cells.lookup y=some c->x=y
 has:∀ x,(X.env.kindOf x=some .cell∨X.env.kindOf x=some .free)->∃ c,X.env.cells.lookup x=some c
 cab:∀ x c,X.fn x=true->X.env.cells.lookup x=some c->X.s₀.heap.objs.size<=c
 hd:X.calm=true->X.A.handled=none
 frames:X.A.frames=some X.stack
 stk:X.stack=X.outer∨(X.stack=X.env::X.outer/\X.env.frame=some X.env.locals)
 exf:∀ b∈X.ex,b≠X.env.locals/\∀ x c,X.env.cells.lookup x=some c->c≠b
 bs:∀ b o,X.base.get? b=some o->X.s₀.heap.get? b=some o/\X.H₀ b=none
 bsz:X.base.objs.size<=X.s₀.heap.objs.size
 noex:∀ b o,X.base.get? b=some o->b ∉ X.ex
 exfs:∀ b∈X.ex,b ∉ X.fs
 funs:X.s₀.heap.FunFrames X.base X.outer
 frf:∀ b∈X.fs,X.H₀ b=none
structure Inv (X:Cx) (pins:List (Addr × Obj)) (σ:List (Option V)) (H:Hp) (s:Shared):Prop where
 ok:X.Ok
 os:s.os=X.s₀.os
 bare:AllBare s.gens
 base:Un X.fs X.ex X.H₀ H X.s₀.heap s.heap
 loc:∃ m,s.heap.Ns X.env.locals m/\∀ (i:Nat) (x:Str) (v:V),X.N[i]?=some x->σ[i]?=some (some v)->Vis X.env.scope x->∃ u,RelV v u/\Look X.env s.heap m x u
 cell:∀ x c,X.env.cells.lookup x=some c->∃ v,s.heap.IsCell c v
 free:H X.env.locals=none
 freeC:∀ x c,X.env.cells.lookup x=some c->H c=none
 pin:∀ p∈X.pn++pins,s.heap.get? p.1=some p.2/\H p.1=none/\p.1≠X.env.locals/\p.1 ∉ X.fs/\∀ v,p.2.data≠.cell v
 hok:HOk X.prog X.w H s.heap
 len:σ.length=X.N.length
section
variable {X:Cx} {pins:List (Addr × Obj)} {σ:List (Option V)} {H H':Hp} {s:Shared} {h':Heap}
theorem Cx.Ok.nofr (ok:X.Ok) {b:Addr} {o:Obj} (e:X.base.get? b=some o):b ∉ X.fs:=λ hb=>by
 have:=(ok.funs.mem hb).1
 rw [e] at this;cases this
theorem Inv.bs (I:Inv X pins σ H s):∀ b o,X.base.get? b=some o->s.heap.get? b=some o/\H b=none:=λ b o e=>
 ⟨I.base.keep b o (I.ok.bs b o e).1 (I.ok.bs b o e).2 (I.ok.nofr e) (I.ok.noex b o e),I.base.free b o (I.ok.bs b o e).1 (I.ok.bs b o e).2 (I.ok.noex b o e)⟩
theorem Inv.bk (I:Inv X pins σ H s):∀ b o,X.base.get? b=some o->s.heap.get? b=some o:=λ b o e=>(I.bs b o e).1
theorem Inv.mod (I:Inv X pins σ H s):Mod X.K X.mg X.base:=I.ok.mod
theorem Inv.kIn (I:Inv X pins σ H s):X.K.In s.heap:=I.ok.mod.kin.keeps I.bk
theorem Inv.lt (I:Inv X pins σ H s):X.env.locals<s.heap.objs.size:=by
 obtain ⟨_,hn,_⟩:=I.loc
 exact hn.lt
theorem Inv.sz (I:Inv X pins σ H s):X.s₀.heap.objs.size<=s.heap.objs.size:=cn I.ok.above (Nat.le_of_lt I.lt)
theorem Inv.nofs (I:Inv X pins σ H s) {a:Addr} (h:s.heap.objs.size<=a):a ∉ X.fs:=λ hb=>by
 obtain ⟨_,o,ho,_⟩:=I.ok.funs.mem hb;exact absurd (cF (cx ho) (cn I.sz h)) (Nat.lt_irrefl _)
theorem Inv.cne (I:Inv X pins σ H s):∀ x c,X.env.cells.lookup x=some c->c≠X.env.locals:=λ x c e z=>by
 obtain ⟨v,o,ho,hd⟩:=I.cell x c e;obtain ⟨m,⟨o',es,ep,ho',hd',_⟩,_⟩:=I.loc;rw [z,ho'] at ho;cases ho;rw [hd'] at hd;cases hd
theorem Inv.funs (I:Inv X pins σ H s):s.heap.FunFrames X.base X.outer:=by
 have all:∀ (l:List Env),(∀ b∈frs l,b∈X.fs)->X.s₀.heap.FunFrames X.base l->s.heap.FunFrames X.base l:=by
  intro l
  induction l with
  | nil=>intro _ _;trivial
  | cons env r ih=>
   intro hs hl;obtain ⟨hk,⟨L,o,hf,hn,ho,hd⟩,hr⟩:=hl;have hL:L∈X.fs:=hs L (by unfold frs;rw [List.filterMap_cons,hf];exact cE);obtain ⟨sl,e⟩:=I.base.slot L o ho (I.ok.frf L hL) hL λ z=>I.ok.exfs L z hL;exact ⟨hk,⟨L,_,hf,hn,e,hd⟩,ih (λ b hb=>hs b (by unfold frs;rw [List.filterMap_cons,hf];exact cK _ hb)) hr⟩
 exact all X.outer (λ _ hb=>hb) I.ok.funs
theorem Inv.stack (I:Inv X pins σ H s):s.heap.FunFrames X.base X.stack:=by
 rcases I.ok.stk with e | ⟨e,hf⟩
 ·rw [e];exact I.funs
 ·rw [e];obtain ⟨m,hn,_⟩:=I.loc;refine .cons (by rw [I.ok.kind];decide) hf hn ?_ I.funs;exact Heap.get?_none_of_le (cn I.ok.bsz I.ok.above)
theorem Inv.stkSub (I:Inv X pins σ H s):∀ b∈frs X.stack,b∈X.env.locals::X.fs:=λ b hb=>by
 rcases I.ok.stk with e | ⟨e,hf⟩
 ·rw [e] at hb;exact cK _ hb
 ·rw [e] at hb;unfold frs at hb;rw [List.filterMap_cons,hf] at hb;exact hb
theorem Inv.stkFree (I:Inv X pins σ H s):∀ b∈frs X.stack,H b=none:=λ b hb=>by
 rcases cQ.mp (I.stkSub b hb) with e | hb
 ·rw [e];exact I.free
 ·obtain ⟨_,o,ho,_⟩:=I.ok.funs.mem hb;exact I.base.free b o ho (I.ok.frf b hb) λ z=>I.ok.exfs b z hb
theorem Inv.step {g':Array GenState} {t':Nat} {d':Drawn} {ch:List Addr} (I:Inv X pins σ H s)
  (hch:∀ b∈ch,(b∈X.ex∨X.s₀.heap.objs.size<=b)/\b≠X.env.locals/\(∀ x c,X.env.cells.lookup x=some c->c≠b)/\∀ p∈X.pn++pins,p.1≠b)
  (keep:∀ b o,b≠X.env.locals->b ∉ X.fs->b ∉ ch->s.heap.get? b=some o->H b=none->h'.get? b=some o)
  (slot:∀ b o,b≠X.env.locals->b∈X.fs->b ∉ ch->s.heap.get? b=some o->H b=none->∃ sl,h'.get? b=some { o with slots:=sl }) (free:∀ b o,b ∉ ch->s.heap.get? b=some o->H b=none->H' b=none)
  (there:∀ b o,b ∉ ch->s.heap.get? b=some o->∃ o',h'.get? b=some o')
  (tups:∀ b xs,H b=some (.tup xs)->H' b=some (.tup xs)) (frzs:∀ b o u,H b=some (.frz o u)->H' b=some (.frz o u)) (tbls:∀ b ps,H b=some (.tbl ps)->∃ more,H' b=some (.tbl (ps++more)))
  (ns:∀ m,s.heap.Ns X.env.locals m->h'.Ns X.env.locals m) (hok:HOk X.prog X.w H' h') (hg:AllBare g') :
  Inv X pins σ H' { s with heap:=h',gens:=g',drawn:=d',toks:=t' }:=by
 have neL:∀ b o,X.s₀.heap.get? b=some o->b≠X.env.locals:=λ b o e=>cT (cF (cx e) I.ok.above)
 have neC:∀ b o,X.s₀.heap.get? b=some o->b ∉ X.ex->b ∉ ch:=λ b o e hx hb=>by
  rcases (hch b hb).1 with z | z
  ·exact hx z
  ·exact absurd (cF (cx e) z) (Nat.lt_irrefl _)
 have cellK:∀ x c,X.env.cells.lookup x=some c->∀ v,s.heap.IsCell c v->h'.IsCell c v:=λ x c e v ⟨o,ho,hd⟩=>by
  have nch:c ∉ ch:=λ z=>(hch c z).2.2.1 x c e rfl;by_cases hc:c∈X.fs
  ·obtain ⟨sl,q⟩:=slot c o (I.cne x c e) hc nch ho (I.freeC x c e);exact ⟨_,q,hd⟩
  ·exact ⟨o,keep c o (I.cne x c e) hc nch ho (I.freeC x c e),hd⟩
 refine ⟨I.ok,I.os,hg,⟨λ b o e n hb hx=>?_,λ b o e n hb hx=>?_,λ b o e n hx=>?_,λ b o e hx=>?_,λ b xs e=>tups b xs (I.base.tups b xs e),λ b o xs e=>frzs b o xs (I.base.frzs b o xs e),λ b ps e=>?_⟩,?_,λ x c e=>?_,?_,λ x c e=>?_,λ p hp=>?_,hok,I.len⟩
 ·exact keep b o (neL b o e) hb (neC b o e hx) (I.base.keep b o e n hb hx) (I.base.free b o e n hx)
 ·obtain ⟨sl,e1⟩:=I.base.slot b o e n hb hx;obtain ⟨sl',e2⟩:=slot b _ (neL b o e) hb (neC b o e hx) e1 (I.base.free b o e n hx);exact ⟨sl',e2⟩
 ·obtain ⟨o',e1⟩:=I.base.there b o e hx;exact free b o' (neC b o e hx) e1 (I.base.free b o e n hx)
 ·obtain ⟨o',e1⟩:=I.base.there b o e hx;exact there b o' (neC b o e hx) e1
 ·obtain ⟨m1,e1⟩:=I.base.tbls b ps e;obtain ⟨m2,e2⟩:=tbls b _ e1;exact ⟨m1++m2,by rw [e2,Array.append_assoc]⟩
 ·obtain ⟨m,hn,hl⟩:=I.loc;refine ⟨m,ns m hn,λ i x v e1 e2 e3=>?_⟩;obtain ⟨u,r,l⟩:=hl i x v e1 e2 e3;refine ⟨u,r,?_⟩;rcases l with l | ⟨k,c,e,z⟩
  ·exact .inl l
  ·exact .inr ⟨k,c,e,cellK x c e _ z⟩
 ·obtain ⟨v,z⟩:=I.cell x c e;exact ⟨v,cellK x c e v z⟩
 ·obtain ⟨m,⟨o,_,_,ho,_⟩,_⟩:=I.loc;exact free _ o (λ z=>(hch _ z).2.1 rfl) ho I.free
 ·obtain ⟨v,o,ho,hd⟩:=I.cell x c e;exact free c o (λ z=>(hch c z).2.2.1 x c e rfl) ho (I.freeC x c e)
 ·obtain ⟨e,n,ne,nf,d⟩:=I.pin p hp;have nch:p.1 ∉ ch:=λ z=>(hch p.1 z).2.2.2 p hp rfl;exact ⟨keep p.1 p.2 ne nf nch e n,free p.1 p.2 nch e n,ne,nf,d⟩
theorem Inv.un {t':Nat} (I:Inv X pins σ H s) (u:Un X.fs [] H H' s.heap h') (hok:HOk X.prog X.w H' h'):Inv X pins σ H' { s with heap:=h',toks:=t' }:=by
 obtain ⟨m,⟨o,es,ep,ho,r⟩,_⟩:=id I.loc;obtain ⟨sl,hL⟩:=u.any ho I.free (by simp)
 exact I.step (g':=s.gens) (d':=s.drawn) (ch:=[]) (λ _ z=>nomatch z) (λ b o _ hb _ e n=>u.keep b o e n hb (by simp)) (λ b o _ hb _ e n=>u.slot b o e n hb (by simp)) (λ b o _ e n=>u.free b o e n (by simp)) (λ b o _ e=>u.there b o e (by simp)) u.tups u.frzs u.tbls (λ m' hm=>by
  obtain ⟨o',es',ep',ho',r'⟩:=hm;rw [ho] at ho';cases ho';exact ⟨_,es',ep',hL,r'⟩) hok I.bare
theorem Inv.call {g':Array GenState} {t':Nat} {d':Drawn} {ch:List Addr} (I:Inv X pins σ H s) (u:Un (frs X.stack) ch H H' s.heap h') (hok:HOk X.prog X.w H' h') (hg:AllBare g')
  (hch:∀ b∈ch,(b∈X.ex∨X.s₀.heap.objs.size<=b)/\b≠X.env.locals/\(∀ x c,X.env.cells.lookup x=some c->c≠b)/\∀ p∈X.pn++pins,p.1≠b) :
  Inv X pins σ H' { s with heap:=h',gens:=g',drawn:=d',toks:=t' }:=by
 obtain ⟨m,⟨o,es,ep,ho,r⟩,_⟩:=id I.loc;obtain ⟨sl,hL⟩:=u.any ho I.free λ z=>(hch _ z).2.1 rfl
 exact I.step (ch:=ch) hch (λ b o hL hb hc e n=>u.keep b o e n (λ z=>(cQ.mp (I.stkSub b z)).elim hL hb) hc) (λ b o _ _ hc e n=>u.any e n hc) (λ b o hc e n=>u.free b o e n hc) (λ b o hc e=>u.there b o e hc) u.tups u.frzs u.tbls (λ m' hm=>by
  obtain ⟨o',es',ep',ho',r'⟩:=hm;rw [ho] at ho';cases ho';exact ⟨_,es',ep',hL,r'⟩) hok hg
theorem Inv.turned {t':Nat} {it:Addr} (I:Inv X pins σ H s) (k:∀ b o,b≠it->s.heap.get? b=some o->h'.get? b=some o) (hn:H it=none) (hL:it≠X.env.locals)
  (h1:it∈X.ex∨X.s₀.heap.objs.size<=it) (h2:∀ x c,X.env.cells.lookup x=some c->c≠it) (h3:∀ p∈X.pn++pins,p.1≠it):Inv X pins σ H { s with heap:=h',toks:=t' }:=by
 have nit:∀ b u,H b=some u->b≠it:=λ b u e z=>by rw [z,hn] at e;cases e
 refine I.step (g':=s.gens) (d':=s.drawn) (ch:=[it]) (λ b hb=>?_) (λ b o _ _ hc e _=>k b o (λ z=>hc (by simp [z])) e) (λ b o _ _ hc e _=>⟨o.slots,k b o (λ z=>hc (by simp [z])) e⟩) (λ _ _ _ _ n=>n)
  (λ b o hc e=>⟨o,k b o (λ z=>hc (by simp [z])) e⟩) (λ _ _ e=>e) (λ _ _ _ e=>e) (λ b ps e=>⟨#[],by rw [e];simp⟩) (λ m hm=>?_) (λ b u e=>?_) I.bare
 ·have e:b=it:=by simpa using hb
  subst e;exact ⟨h1,hL,h2,h3⟩
 ·obtain ⟨o,es,ep,ho,r⟩:=hm;exact ⟨o,es,ep,k _ o (Ne.symm hL) ho,r⟩
 ·refine (I.hok b u e).stay (λ c v hc q=>k c v ?_ q) (λ _ q=>q) λ _ _ q=>q;rcases hc with z | z
  ·rw [z];exact nit b u e
  ·exact nit c _ z
theorem Inv.tok (I:Inv X pins σ H s) (t:Nat):Inv X pins σ H { s with toks:=t }:=I.un (h':=s.heap) (t':=t) Un.refl I.hok
theorem Inv.kept {t':Nat} (I:Inv X pins σ H s) (k:∀ b u,s.heap.get? b=some u->h'.get? b=some u):Inv X pins σ H { s with heap:=h',toks:=t' }:=I.un (Un.kept k) (I.hok.kept k)
theorem Inv.laid {a:Addr} {o:HO} {t':Nat} (I:Inv X pins σ H s) (k:∀ b u,s.heap.get? b=some u->h'.get? b=some u) (hp:s.heap.objs.size<=a) (new:ObjOk X.prog X.w (upd H a o) h' a o) :
  Inv X pins σ (upd H a o) { s with heap:=h',toks:=t' }:=I.un (Un.laid k hp (I.hok.fresh hp)) (I.hok.laid k hp new)
theorem Inv.write {x e:Addr} {o:HO} {t':Nat} (I:Inv X pins σ H s) (mu:Mut (H x)) (he:e=x∨H e=some (.own x)) (k:∀ b u,b≠e->s.heap.get? b=some u->h'.get? b=some u) (heo:∃ u,h'.get? e=some u)
  (new:ObjOk X.prog X.w (upd H x o) h' x o):Inv X pins σ (upd H x o) { s with heap:=h',toks:=t' }:=I.un (Un.write mu he k heo) (I.hok.write mu he k heo new)
theorem Inv.pins_of {pins':List (Addr × Obj)} (I:Inv X pins σ H s) (h:∀ p∈pins',s.heap.get? p.1=some p.2/\H p.1=none/\p.1≠X.env.locals/\p.1 ∉ X.fs/\∀ v,p.2.data≠.cell v):Inv X pins' σ H s:=
 ⟨I.ok,I.os,I.bare,I.base,I.loc,I.cell,I.free,I.freeC,λ p hp=>(List.mem_append.mp hp).elim (λ z=>I.pin p (List.mem_append_left _ z)) (h p),I.hok,I.len⟩
theorem nodup_ix {N:List Str} (hN:N.Nodup) {i j:Nat} {x:Str} (a:N[i]?=some x) (b:N[j]?=some x):i=j:=by
 obtain ⟨h1,e1⟩:=cI.mp a;obtain ⟨h2,e2⟩:=cI.mp b;exact (List.getElem_inj hN).mp (e1.trans e2.symm)
theorem store_ok2 {M:Model} {A:Around} {E:Value->Shared->Prop} {i:Nat} {x:Str} {v:V} {u:Value} {Q:Unit->Shared->Prop} (I:Inv X pins σ H s) (hN:X.N.Nodup) (hi:X.N[i]?=some x) (hx:Loc X.env.scope x) (r:RelV v u)
  (h:∀ s',Inv X pins (σ.set i (some v)) H s'->(∃ a,Heap.SameBut a s.heap s'.heap/\(a=X.env.locals∨X.env.cells.lookup x=some a))->Q () s') (hf:X.fn x=true∨X.env.scope.names.lookup x=some .local:=by first | exact .inl rfl | exact .inr rfl | assumption):wpAny M A (storeName X.env x u) Q E s:=by
 obtain ⟨m,hn,hl⟩:=id I.loc;have hcls:(X.env.scope.kind == .class || (X.env.scope.kind == .module && X.env.locals != X.env.globals))=false:=by rw [I.ok.kind];rfl
 have hiσ:i < σ.length:=by rw [I.len];exact (cI.mp hi).1
 have cne:=I.cne
 have tracked:∀ {a:Addr} {h':Heap},(∃ o,s.heap.get? a=some o/\H a=none)->Heap.SameBut a s.heap h'->HOk X.prog X.w H h':=λ {a h'} ha hs b ob e=>by
  obtain ⟨_,_,hfree⟩:=ha;refine (I.hok b ob e).stay (λ c w' hc q=>(hs.2 c ?_).trans q) (λ _ q=>q) λ _ _ q=>q;rintro rfl;rcases hc with rfl | hc
  ·rw [hfree] at e;cases e
  ·rw [hfree] at hc;cases hc
 rcases hx with hk | hk
 ·refine wpAny_storeName_local hk hn (λ h' hn' hs=>?_) hcls;obtain ⟨oL,_,_,hoL,_⟩:=id hn;refine h _ ⟨I.ok,I.os,I.bare,⟨λ b o e n hb hx=>?_,λ b o e n hb hx=>?_,I.base.free,λ b o e hx=>?_,I.base.tups,I.base.frzs,I.base.tbls⟩,⟨_,hn',λ j y v' e1 e2 e3=>?_⟩,λ y c e=>?_,I.free,I.freeC,λ p hp=>?_,tracked ⟨oL,hoL,I.free⟩ hs,by simpa using I.len⟩ ⟨_,hs,.inl rfl⟩
  ·exact (hs.2 b (cT (cF (cx e) I.ok.above))).trans (I.base.keep b o e n hb hx)
  ·obtain ⟨sl,e1⟩:=I.base.slot b o e n hb hx;exact ⟨sl,(hs.2 b (cT (cF (cx e) I.ok.above))).trans e1⟩
  ·obtain ⟨o',e1⟩:=I.base.there b o e hx;exact ⟨o',(hs.2 b (cT (cF (cx e) I.ok.above))).trans e1⟩
  ·by_cases hj:j=i
   ·subst hj;rw [hi] at e1;cases e1;rw [List.getElem?_set_self hiσ] at e2
    cases e2;exact ⟨u,r,.inl ⟨hk,by simp⟩⟩
   ·rw [List.getElem?_set_ne (Ne.symm hj)] at e2;obtain ⟨u',r',q⟩:=hl j y v' e1 e2 e3;refine ⟨u',r',?_⟩;rcases q with ⟨k,e⟩ | ⟨k,c,e,z⟩
    ·refine .inl ⟨k,?_⟩
     have:y≠x:=λ e=>hj (nodup_ix hN e1 (e ▸ hi))
     simp [this,e]
    ·exact .inr ⟨k,c,e,z.sameBut hs (cne y c e)⟩
  ·obtain ⟨w',z⟩:=I.cell y c e;exact ⟨w',z.sameBut hs (cne y c e)⟩
  ·obtain ⟨e,n,ne,nf,d⟩:=I.pin p hp;exact ⟨(hs.2 p.1 ne).trans e,n,ne,nf,d⟩
 ·have hfn:X.fn x=true:=by
   rcases hf with z | z
   ·exact z
   ·rw [z] at hk;cases hk
  obtain ⟨c,hc⟩:=I.ok.has x (.inl hk);obtain ⟨w',z⟩:=I.cell x c hc;refine wpAny_storeName_cell I.ok.kind hk hc z (λ h' hc' hs=>?_);obtain ⟨oc,hoc,hocd⟩:=id z;refine h { s with heap:=h' } ⟨I.ok,I.os,I.bare,⟨λ b o e n hb hx=>?_,λ b o e n hb hx=>?_,I.base.free,λ b o e hx=>?_,I.base.tups,I.base.frzs,I.base.tbls⟩,⟨m,hn.sameBut hs (Ne.symm (cne x c hc)),λ j y v' e1 e2 e3=>?_⟩,λ y c' e=>?_,I.free,I.freeC,λ p hp=>?_,tracked ⟨oc,hoc,I.freeC x c hc⟩ hs,by simpa using I.len⟩ ⟨c,hs,.inr hc⟩
  ·exact (hs.2 b (cT (cF (cx e) (I.ok.cab x c hfn hc)))).trans (I.base.keep b o e n hb hx)
  ·obtain ⟨sl,e1⟩:=I.base.slot b o e n hb hx;exact ⟨sl,(hs.2 b (cT (cF (cx e) (I.ok.cab x c hfn hc)))).trans e1⟩
  ·obtain ⟨o',e1⟩:=I.base.there b o e hx;exact ⟨o',(hs.2 b (cT (cF (cx e) (I.ok.cab x c hfn hc)))).trans e1⟩
  ·by_cases hj:j=i
   ·subst hj;rw [hi] at e1;cases e1;rw [List.getElem?_set_self hiσ] at e2
    cases e2;exact ⟨u,r,.inr ⟨.inl hk,c,hc,hc'⟩⟩
   ·rw [List.getElem?_set_ne (Ne.symm hj)] at e2;obtain ⟨u',r',q⟩:=hl j y v' e1 e2 e3;refine ⟨u',r',?_⟩;rcases q with q | ⟨k,c',e,z'⟩
    ·exact .inl q
    ·refine .inr ⟨k,c',e,z'.sameBut hs ?_⟩;rintro rfl;exact hj (nodup_ix hN e1 (I.ok.inj _ _ _ e hc ▸ hi))
  ·by_cases hcc:c'=c
   ·subst hcc;exact ⟨_,hc'⟩
   ·obtain ⟨w2,z2⟩:=I.cell y c' e;exact ⟨w2,z2.sameBut hs hcc⟩
  ·obtain ⟨e,n,ne,nf,d⟩:=I.pin p hp;refine ⟨(hs.2 p.1 ?_).trans e,n,ne,nf,d⟩;intro q;rw [q,hoc] at e;have q':oc=p.2:=cU e;exact d w' (by rw [<- q'];exact hocd)
theorem bf {M:Model} {A:Around} {E:Value->Shared->Prop} {i:Nat} {x:Str} {v:V} {u:Value} {Q:Unit->Shared->Prop} (I:Inv X pins σ H s) (hN:X.N.Nodup) (hi:X.N[i]?=some x) (hx:Loc X.env.scope x) (r:RelV v u)
  (h:∀ s',Inv X pins (σ.set i (some v)) H s'->Q () s') (hf:X.fn x=true∨X.env.scope.names.lookup x=some .local:=by first | exact .inl rfl | exact .inr rfl | assumption):wpAny M A (storeName X.env x u) Q E s:=
 store_ok2 I hN hi hx r (λ s' I' _=>h s' I') hf
theorem Inv.call' {s':Shared} {ch:List Addr} (I:Inv X pins σ H s) (ho:s'.os=s.os) (u:Un (frs X.stack) ch H H' s.heap s'.heap) (hok:HOk X.prog X.w H' s'.heap) (hg:AllBare s'.gens)
  (hch:∀ b∈ch,(b∈X.ex∨X.s₀.heap.objs.size<=b)/\b≠X.env.locals/\(∀ x c,X.env.cells.lookup x=some c->c≠b)/\∀ p∈X.pn++pins,p.1≠b):Inv X pins σ H' s':=by
 obtain ⟨h',g',d',t',o'⟩:=s';have e:o'=s.os:=ho;subst e;exact I.call (g':=g') (t':=t') (d':=d') u hok hg hch
end
noncomputable abbrev XK:=Value->Option Addr->Hp->Prop
noncomputable abbrev St:=List (Option V)
noncomputable abbrev VK:=V->Hp->Prop
noncomputable abbrev TE:=St->Hp->VK->Prop
noncomputable abbrev TT:=St->Hp->(Bool->Hp->Prop)->Prop
noncomputable abbrev TA:=St->Hp->(List V->Hp->Prop)->Prop
structure Ends where
 nx:St->Hp->Prop
 rt:VK
 bk:St->Hp->Prop:=λ _ _=>False
 ct:St->Hp->Prop:=λ _ _=>False
noncomputable abbrev TS:=Ends->St->Hp->Prop
noncomputable def EP (X:Cx) (pins:List (Addr × Obj)) (σ:St) (Q:VK) (u:Value) (s':Shared):Prop:=∃ v H',Inv X pins σ H' s'/\RelV v u/\Q v H'
noncomputable def TP (X:Cx) (pins:List (Addr × Obj)) (σ:St) (Q:Bool->Hp->Prop) (b:Bool) (s':Shared):Prop:=∃ H',Inv X pins σ H' s'/\Q b H'
noncomputable def AP (X:Cx) (pins:List (Addr × Obj)) (σ:St) (Q:List V->Hp->Prop) (us:List Value) (s':Shared):Prop:=∃ vs H',Inv X pins σ H' s'/\Vals vs us/\Q vs H'
noncomputable def SP (X:Cx) (pins:List (Addr × Obj)) (D:Ends) (f:Flow) (s':Shared):Prop:=
 match f with
 | .next=>∃ σ' H',Inv X pins σ' H' s'/\D.nx σ' H'
 | .brk=>∃ σ' H',Inv X pins σ' H' s'/\D.bk σ' H'
 | .cont=>∃ σ' H',Inv X pins σ' H' s'/\D.ct σ' H'
 | .ret u=>∃ v σ' H',Inv X pins σ' H' s'/\RelV v u/\D.rt v H'
noncomputable def PE (X:Cx) (e:Expr) (t:TE):Prop:=
 ∀ (pins:List (Addr × Obj)) (s:Shared) (σ:St) (H:Hp) (Q:VK),Inv X pins σ H s->t σ H Q->wpAny (model X.prog X.w) X.A (eval e X.env) (EP X pins σ Q) X.xe s
noncomputable def PT (X:Cx) (e:Expr) (t:TT):Prop:=
 ∀ (pins:List (Addr × Obj)) (s:Shared) (σ:St) (H:Hp) (Q:Bool->Hp->Prop),Inv X pins σ H s->t σ H Q->wpAny (model X.prog X.w) X.A (isTrue e X.env (eval e X.env)) (TP X pins σ Q) X.xe s
noncomputable def PW (X:Cx) (e:Expr) (t:TT):Prop:=
 ∀ (whole:Sem Value) (pins:List (Addr × Obj)) (s:Shared) (σ:St) (H:Hp) (Q:Bool->Hp->Prop),Inv X pins σ H s->t σ H Q->wpAny (model X.prog X.w) X.A (isTrue e X.env whole) (TP X pins σ Q) X.xe s
theorem PW.pt {X:Cx} {e:Expr} {t:TT} (h:PW X e t):PT X e t:=h _
noncomputable def PA (X:Cx) (es:List Expr) (t:TA):Prop:=
 ∀ (pos:Pos) (pins:List (Addr × Obj)) (s:Shared) (σ:St) (H:Hp) (Q:List V->Hp->Prop),Inv X pins σ H s->t σ H Q->wpAny (model X.prog X.w) X.A (spliced (backTo pos (starEach es X.env))) (AP X pins σ Q) X.xe s
noncomputable def PS (X:Cx) (st:Stmt) (t:TS):Prop:=
 ∀ (pins:List (Addr × Obj)) (s:Shared) (σ:St) (H:Hp) (D:Ends),Inv X pins σ H s->t D σ H->wpAny (model X.prog X.w) X.A (exec st X.env) (SP X pins D) X.xe s
noncomputable def PSs (X:Cx) (st:List Stmt) (t:TS):Prop:=
 ∀ (pins:List (Addr × Obj)) (s:Shared) (σ:St) (H:Hp) (D:Ends),Inv X pins σ H s->t D σ H->wpAny (model X.prog X.w) X.A (execs st X.env) (SP X pins D) X.xe s
theorem thn {α:Type} {t:Sem α} {Q Q':α->Shared->Prop} {M:Model} {A:Around} {E:Value->Shared->Prop} {s:Shared} (h:wpAny M A t Q E s) (hQ:∀ a s,Q a s->Q' a s):wpAny M A t Q' E s:=db h hQ λ _ _ x=>x
end L2
namespace L2
open PySem PySem.Spec PyProof.Rows
section
variable {X:Cx}
inductive ItVar (i:Nat) (σ:St) (H:Hp) (Q:VK):Prop
 | mk (v:_) (h1:σ[i]?=some (some v)) (h2:Q v H):ItVar i σ H Q
noncomputable def tVar (i:Nat):TE:=λ σ H Q=>ItVar i σ H Q
noncomputable def tC (v:V):TE:=λ _ H Q=>Q v H
theorem pe_var {i:Nat} {x:Str} {pos:Pos} (hN:X.N[i]?=some x) (hv:Vis X.env.scope x) (hd:(x == ("__debug__":Str))=false:=by decide) (hcd:(x == ("__classdict__":Str))=false:=by decide):PE X (.Name x pos) (tVar i):=by
 intro pins s σ H Q I h;obtain ⟨v,e,h⟩:=h;obtain ⟨m,hn,hl⟩:=I.loc;obtain ⟨u,r,l⟩:=hl i x v hN e hv;have fin:EP X pins σ Q u s:=⟨v,H,I,r,h⟩;rcases l with ⟨hk,hm⟩ | ⟨hk,c,hc,hcell⟩
 ·exact wpAny_Name (wpAny_loadName_local I.ok.kind hk hn hm fin) hd
 ·rcases hk with hk | hk
  ·exact wpAny_Name (wpAny_loadName_cell I.ok.kind hk hc hcell fin) hd
  ·exact wpAny_Name (wpAny_loadName_free I.ok.kind hk hc hcell fin hcd) hd
theorem ac {i j pos}:PE X (.Constant (.int i) j pos) (tC (.int i)):=λ _ _ _ H _ I h=>wpAny_Constant_int ⟨.int i,H,I.tok _,⟨_,rfl⟩,h⟩
theorem pe_bl {b j pos}:PE X (.Constant (.bool b) j pos) (tC (.bl b)):=λ _ _ _ H _ I h=>Constant_bool ⟨.bl b,H,I,rfl,h⟩
theorem a5 {j pos}:PE X (.Constant .none j pos) (tC .non):=λ _ _ _ H _ I h=>Constant_none ⟨.non,H,I,rfl,h⟩
theorem aE {x j pos}:PE X (.Constant (.str x) j pos) (tC (.str x)):=λ _ _ _ H _ I h=>Calls.Constant_str ⟨.str x,H,I.tok _,⟨_,rfl⟩,h⟩
noncomputable def Gl (X:Cx) (x:Str):Prop:=X.env.kindOf x=some .globalImplicit
theorem bN {E:Value->Shared->Prop} {pins:List (Addr × Obj)} {s:Shared} {σ:St} {H:Hp} {x:Str} {u:Value} {pos:Pos} {Q:Value->Shared->Prop} (I:Inv X pins σ H s) (hg:Gl X x) (hm:X.mg x=some u) (h:Q u s)
  (hd:(x == ("__debug__":Str))=false:=by decide):wpAny (model X.prog X.w) X.A (eval (.Name x pos) X.env) Q E s:=
 Calls.Name_function_global I.ok.kind hg (Calls.loadGlobal_global (by rw [I.ok.glob];exact I.mod.glob.keeps I.bk) hm h) hd
theorem ld_blt {E:Value->Shared->Prop} {pins:List (Addr × Obj)} {s:Shared} {σ:St} {H:Hp} {x:Str} {u:Value} {pos:Pos} {Q:Value->Shared->Prop} (I:Inv X pins σ H s) (hg:Gl X x) (hm:X.mg x=none) (hv:bootBuiltins x=some u) (h:Q u s)
  (hn:x≠"__name__":=by decide) (hd:(x == ("__debug__":Str))=false:=by decide):wpAny (model X.prog X.w) X.A (eval (.Name x pos) X.env) Q E s:=by
 obtain ⟨mb,h1,h2⟩:=I.mod.blt;exact Calls.Name_function_global I.ok.kind hg (Calls.loadGlobal_builtin (by rw [I.ok.glob];exact I.mod.glob.keeps I.bk) hm (by rw [I.ok.blt];exact h1.keeps I.bk) ((h2 x hn).trans hv) h) hd
theorem aX {x:Str} {v:V} {u:Value} {pos:Pos} (hg:Gl X x) (hm:X.mg x=some u) (r:RelV v u) (hd:(x == ("__debug__":Str))=false:=by decide):PE X (.Name x pos) (tC v):=
 λ _ _ _ H _ I h=>bN I hg hm ⟨v,H,I,r,h⟩ hd
theorem pe_bltn {x:Str} {v:V} {u:Value} {pos:Pos} (hg:Gl X x) (hm:X.mg x=none) (hv:bootBuiltins x=some u) (r:RelV v u) (hn:x≠"__name__":=by decide) (hd:(x == ("__debug__":Str))=false:=by decide):PE X (.Name x pos) (tC v):=
 λ _ _ _ H _ I h=>ld_blt I hg hm hv ⟨v,H,I,r,h⟩ hn hd
noncomputable def t2I (ta tb:TE) (k:Int->Int->Hp->Prop):St->Hp->Prop:=λ σ H=>ta σ H λ x H1=>tb σ H1 λ y H2=>∃ i j,x=.int i/\y=.int j/\k i j H2
variable {a b:Expr} {ta tb:TE} {pos:Pos}
noncomputable def tCmp (p:Int->Int->Bool) (ta tb:TE):TE:=λ σ H Q=>t2I ta tb (λ i j H2=>Q (.bl (p i j)) H2) σ H
inductive ItB (Q:Bool->Hp->Prop) (x:V) (H1:Hp):Prop
 | mk (c:_) (h1:x=.bl c) (h2:Q c H1):ItB Q x H1
noncomputable def tB (t:TE):TT:=λ σ H Q=>t σ H λ x H1=>ItB Q x H1
theorem pt_val {e:Expr} {t:TE} (h:PE X e t) (he:∀ whole,isTrue e X.env whole=(do let v <- whole;standAt e.pos;holding [v] (truthy v)):=by intro _;rfl):PT X e (tB t):=by
 intro pins s σ H Q I hw;refine isTrue_plain (thn (h pins s σ H _ I hw) λ v s1 ⟨x,H1,I1,r1,q1⟩=>?_) (he _);obtain ⟨d,rfl,q⟩:=q1
 cases r1;exact cY ⟨H1,I1,q⟩
variable {tA tB':TT} {rest:List Expr}
noncomputable def tAnd (t u:TT):TT:=λ σ H Q=>t σ H λ c H1=>if c=true then u σ H1 Q else Q false H1
noncomputable def tOr (t u:TT):TT:=λ σ H Q=>t σ H λ c H1=>if c=true then Q true H1 else u σ H1 Q
noncomputable def tNot (t:TT):TT:=λ σ H Q=>t σ H λ c H1=>Q (!c) H1
theorem pw_and1 (ha:PT X a tA):PW X (.BoolOp .And [a] pos) tA:=by
 intro wh pins s σ H Q I h;refine isTrue_and (thn (ha pins s σ H Q I h) λ c s1 e=>?_)
 cases c with
 | true=>exact isTrue_and_nil e
 | false=>exact e
theorem pw_or1 (ha:PT X a tA):PW X (.BoolOp .Or [a] pos) tA:=by
 intro wh pins s σ H Q I h;refine isTrue_or (thn (ha pins s σ H Q I h) λ c s1 e=>?_)
 cases c with
 | false=>exact isTrue_or_nil e
 | true=>exact e
theorem pw_and (ha:PT X a tA) (hb:PW X (.BoolOp .And (b::rest) pos) tB'):PW X (.BoolOp .And (a::b::rest) pos) (tAnd tA tB'):=by
 intro wh pins s σ H Q I h;refine isTrue_and (thn (ha pins s σ H _ I h) λ c s1 ⟨H1,I1,q1⟩=>?_)
 cases c with
 | true=>exact hb wh pins s1 σ H1 Q I1 q1
 | false=>exact ⟨H1,I1,q1⟩
theorem pw_or (ha:PT X a tA) (hb:PW X (.BoolOp .Or (b::rest) pos) tB'):PW X (.BoolOp .Or (a::b::rest) pos) (tOr tA tB'):=by
 intro wh pins s σ H Q I h;refine isTrue_or (thn (ha pins s σ H _ I h) λ c s1 ⟨H1,I1,q1⟩=>?_)
 cases c with
 | true=>exact ⟨H1,I1,q1⟩
 | false=>exact hb wh pins s1 σ H1 Q I1 q1
theorem pt_not (ha:PT X a tA):PT X (.UnaryOp .Not a pos) (tNot tA):=by
 intro pins s σ H Q I h;exact isTrue_not (ha pins s σ H (λ c H1=>Q (!c) H1) I h)
noncomputable def tAndV (ta tb:TE):TE:=λ σ H Q=>ta σ H λ x H1=>∃ c,x=.bl c/\if c=true then tb σ H1 Q else Q (.bl false) H1
noncomputable def tOrV (ta tb:TE):TE:=λ σ H Q=>ta σ H λ x H1=>∃ c,x=.bl c/\if c=true then Q (.bl true) H1 else tb σ H1 Q
noncomputable def tNotV (ta:TE):TE:=λ σ H Q=>ta σ H λ x H1=>∃ c,x=.bl c/\Q (.bl (!c)) H1
theorem bU {op} {t:TE} (h:PE X a t):PE X (.BoolOp op [a] pos) t:=λ pins s σ H Q I hw=>BoolOp_one (h pins s σ H Q I hw)
theorem pe_and (ha:PE X a ta) (hb:PE X (.BoolOp .And (b::rest) pos) tb):PE X (.BoolOp .And (a::b::rest) pos) (tAndV ta tb):=by
 intro pins s σ H Q I h;refine BoolOp_and (thn (ha pins s σ H _ I h) λ v s1 ⟨x,H1,I1,r1,q1⟩=>?_);obtain ⟨c,rfl,q1⟩:=q1
 cases r1;refine cY ?_
 cases c with
 | true=>exact hb pins s1 σ H1 Q I1 q1
 | false=>exact ⟨.bl false,H1,I1,rfl,q1⟩
theorem pe_or (ha:PE X a ta) (hb:PE X (.BoolOp .Or (b::rest) pos) tb):PE X (.BoolOp .Or (a::b::rest) pos) (tOrV ta tb):=by
 intro pins s σ H Q I h;refine BoolOp_or (thn (ha pins s σ H _ I h) λ v s1 ⟨x,H1,I1,r1,q1⟩=>?_);obtain ⟨c,rfl,q1⟩:=q1
 cases r1;refine cY ?_
 cases c with
 | false=>exact hb pins s1 σ H1 Q I1 q1
 | true=>exact ⟨.bl true,H1,I1,rfl,q1⟩
theorem pe_not (ha:PE X a ta):PE X (.UnaryOp .Not a pos) (tNotV ta):=by
 intro pins s σ H Q I h;refine UnaryOp_ (thn (ha pins s σ H _ I h) λ v s1 ⟨x,H1,I1,r1,q1⟩=>?_);obtain ⟨c,rfl,q1⟩:=q1
 cases r1;exact not_of (cY ⟨.bl (!c),H1,I1,rfl,q1⟩)
noncomputable def tIf (t:TT) (ta tb:TE):TE:=λ σ H Q=>t σ H λ c H1=>if c=true then ta σ H1 Q else tb σ H1 Q
theorem pe_ifExp {c:Expr} (hc:PT X c tA) (ha:PE X a ta) (hb:PE X b tb):PE X (.IfExp c a b pos) (tIf tA ta tb):=by
 intro pins s σ H Q I h;refine wpAny_IfExp (thn (hc pins s σ H _ I h) λ d s1 ⟨H1,I1,q1⟩=>?_)
 cases d with
 | true=>exact ha pins s1 σ H1 Q I1 q1
 | false=>exact hb pins s1 σ H1 Q I1 q1
end
end L2
namespace L2
open PySem PySem.Spec PyProof.Rows
noncomputable def SqL (K:W.Frag) (H:Hp) (a:Addr) (xs:List V):Prop:=
 Rd H a (.lst xs)∨
  ∃ (o:Obj) (its:Array Value) (n:Nat),K.lookup a=some o/\o.cls=.type "list"/\o.dict=none/\o.data=.seq its n/\its.size<=sizeLine/\Vals xs its.toList
noncomputable def SqT (K:W.Frag) (H:Hp) (a:Addr) (xs:List V):Prop:=
 Rd H a (.tup xs)∨
  ∃ (o:Obj) (its:Array Value) (n:Nat),K.lookup a=some o/\o.cls=.type "tuple"/\o.data=.seq its n/\its.size<=sizeLine/\Vals xs its.toList
noncomputable def absV:Value->Option V
 | .none=>some .non
 | .bool b=>some (.bl b)
 | .int i _=>some (.int i)
 | .str x _=>some (.str x)
 | .bytes b _=>some (.byt b)
 | .float b _=>some (.flt b)
 | .ref a=>some (.ref a)
 | .type n=>some (.ty n)
 | _=>none
theorem RelV.abs {x:V} {u:Value} (r:RelV x u):absV u=some x:=by
 cases x with
 | non=>cases r;rfl
 | bl _=>cases r;rfl
 | int _=>obtain ⟨t,rfl⟩:=r;rfl
 | str _=>obtain ⟨t,rfl⟩:=r;rfl
 | byt _=>obtain ⟨t,rfl⟩:=r;rfl
 | flt _=>obtain ⟨t,rfl⟩:=r;rfl
 | ref _=>cases r;rfl
 | ty _=>cases r;rfl
theorem RelV.inj {x y:V} {u:Value} (r:RelV x u) (q:RelV y u):x=y:=cU (r.abs.symm.trans q.abs)
theorem Vals.inj:∀ {xs ys:List V} {us:List Value},Vals xs us->Vals ys us->xs=ys
 | _,_,_,.nil,.nil=>rfl
 | _,_,_,.cons r t,.cons r' t'=>by rw [r.inj r',Vals.inj t t']
section
variable {X:Cx} {pins:List (Addr × Obj)} {σ:St} {H:Hp} {s:Shared} {a:Addr} {xs ys:List V}
theorem SqL.of {K:W.Frag} (h:H a=some (.lst xs)):SqL K H a xs:=.inl (.inl h)
theorem SqT.of {K:W.Frag} (h:H a=some (.tup xs)):SqT K H a xs:=.inl (.inl h)
theorem Inv.list (I:Inv X pins σ H s) (h:SqL X.K H a xs):∃ its:List Value,Vals xs its/\PlainL s.heap a its.toArray/\xs.length<=sizeLine:=by
 rcases h with h | ⟨o,its,n,hk,hc,hd,hs,hz,r⟩
 ·obtain ⟨z,its,n,r,e⟩:=h.ok I.hok;exact ⟨its,r,⟨_,n,e,rfl,rfl,rfl⟩,z⟩
 ·refine ⟨its.toList,r,⟨o,n,I.kIn a o hk,hc,hd,by simpa using hs⟩,?_⟩;have e:=r.length;simp only [cM] at e;omega
theorem Inv.tuple (I:Inv X pins σ H s) (h:SqT X.K H a xs):∃ its:List Value,Vals xs its/\IsTup s.heap a its.toArray/\xs.length<=sizeLine:=by
 rcases h with h | ⟨o,its,n,hk,hc,hs,hz,r⟩
 ·obtain ⟨z,its,r,p⟩:=h.ok I.hok;exact ⟨its,r,p,z⟩
 ·refine ⟨its.toList,r,⟨o,I.kIn a o hk,hc,n,by simpa using hs⟩,?_⟩;have e:=r.length;simp only [cM] at e;omega
theorem Inv.list_inj (I:Inv X pins σ H s) (h:SqL X.K H a xs) (h':SqL X.K H a ys):xs=ys:=by
 obtain ⟨its,r,⟨o,n,e,_,_,d⟩,_⟩:=I.list h;obtain ⟨its',r',⟨o',n',e',_,_,d'⟩,_⟩:=I.list h';rw [e] at e';cases e';rw [d] at d';injection d' with d1 _
 have:its=its':=by simpa using congrArg Array.toList d1
 subst this;exact r.inj r'
end
noncomputable abbrev Cx.wish (X:Cx) (E:Value->Shared->Prop):Cx:={ X with xe:=E }
noncomputable abbrev Cx.nox (X:Cx):Cx:=X.wish λ _ _=>False
theorem Cx.Ok.wish {X:Cx} (ok:X.Ok) (E:Value->Shared->Prop):(X.wish E).Ok:=
 ⟨ok.mod,ok.kind,ok.glob,ok.blt,ok.above,ok.inj,ok.has,ok.cab,ok.hd,ok.frames,ok.stk,ok.exf,ok.bs,ok.bsz,ok.noex,ok.exfs,ok.funs,ok.frf⟩
theorem Cx.Ok.unwish {X:Cx} {E:Value->Shared->Prop} (ok:(X.wish E).Ok):X.Ok:=
 ⟨ok.mod,ok.kind,ok.glob,ok.blt,ok.above,ok.inj,ok.has,ok.cab,ok.hd,ok.frames,ok.stk,ok.exf,ok.bs,ok.bsz,ok.noex,ok.exfs,ok.funs,ok.frf⟩
section
variable {X:Cx} {pins:List (Addr × Obj)} {σ:St} {H:Hp} {s:Shared} {E:Value->Shared->Prop}
theorem Inv.wish (I:Inv X pins σ H s) (E:Value->Shared->Prop):Inv (X.wish E) pins σ H s:=⟨I.ok.wish E,I.os,I.bare,I.base,I.loc,I.cell,I.free,I.freeC,I.pin,I.hok,I.len⟩
theorem Inv.unwish (I:Inv (X.wish E) pins σ H s):Inv X pins σ H s:=⟨I.ok.unwish,I.os,I.bare,I.base,I.loc,I.cell,I.free,I.freeC,I.pin,I.hok,I.len⟩
theorem SP.unwish {D:Ends} {f:Flow} {s':Shared} (h:SP (X.wish E) pins D f s'):SP X pins D f s':=by
 cases f with
 | next=>obtain ⟨σ',H',I,q⟩:=h;exact ⟨σ',H',I.unwish,q⟩
 | brk=>obtain ⟨σ',H',I,q⟩:=h;exact ⟨σ',H',I.unwish,q⟩
 | cont=>obtain ⟨σ',H',I,q⟩:=h;exact ⟨σ',H',I.unwish,q⟩
 | ret u=>obtain ⟨v,σ',H',I,r,q⟩:=h;exact ⟨v,σ',H',I.unwish,r,q⟩
theorem PSs.nox {st:List Stmt} {t:TS} (h:PSs X.nox st t):PSs X st t:=λ pins s σ H D I hw=>
 db (h pins s σ H D (I.wish _) hw) (λ _ _ q=>q.unwish) λ _ _ z=>False.elim z
end
section
variable {X:Cx} {st:Stmt} {rest:List Stmt} {t u:TS} {e:Expr} {te:TE} {pos:Pos}
noncomputable def tNext:TS:=λ D σ H=>D.nx σ H
noncomputable def tSeq (t u:TS):TS:=λ D σ H=>t { D with nx:=u D } σ H
theorem au:PSs X [] tNext:=λ _ _ σ H _ I h=>wpAny_execs_nil ⟨σ,H,I,h⟩
theorem ag (h1:PS X st t) (h2:PSs X rest u):PSs X (st::rest) (tSeq t u):=by
 intro pins s σ H D I h;refine wpAny_execs_cons (thn (h1 pins s σ H { D with nx:=u D } I h) λ f s1 q=>?_)
 cases f with
 | next=>
  obtain ⟨σ',H',I',q⟩:=q;exact h2 pins s1 σ' H' D I' q
 | ret v=>exact q
 | brk=>exact q
 | cont=>exact q
theorem ah (h1:PS X st t):PSs X [st] t:=by
 intro pins s σ H D I h;refine wpAny_execs_cons (thn (h1 pins s σ H D I h) λ f s1 q=>?_)
 cases f with
 | next=>exact wpAny_execs_nil q
 | ret v=>exact q
 | brk=>exact q
 | cont=>exact q
noncomputable def tRet (te:TE):TS:=λ D σ H=>te σ H D.rt
theorem am (he:PE X e te):PS X (.Return (some e) pos) (tRet te):=by
 intro pins s σ H D I h;exact wpAny_Return_some (thn (he pins s σ H _ I h) λ v s1 ⟨x,H1,I1,r1,q1⟩=>⟨x,σ,H1,I1,r1,q1⟩)
noncomputable def tIfS (c:TT) (t u:TS):TS:=λ D σ H=>c σ H λ b H1=>if b=true then t D σ H1 else u D σ H1
theorem aN {c:Expr} {a b:List Stmt} {tc:TT} (hc:PT X c tc) (ha:PSs X a t) (hb:PSs X b u):PS X (.If c a b pos) (tIfS tc t u):=by
 intro pins s σ H D I h;refine wpAny_If (thn (hc pins s σ H _ I h) λ d s1 ⟨H1,I1,q1⟩=>?_)
 cases d with
 | true=>exact ha pins s1 σ H1 D I1 q1
 | false=>exact hb pins s1 σ H1 D I1 q1
noncomputable def tNever:TS:=λ _ _ _=>False
theorem ps_never:PS X st tNever:=λ _ _ _ _ _ _ h=>h.elim
end
noncomputable abbrev TG:=V->St->Hp->(St->Hp->Prop)->Prop
noncomputable abbrev TGs:=List V->St->Hp->(St->Hp->Prop)->Prop
noncomputable def PG (X:Cx) (target:Expr) (t:TG):Prop:=
 ∀ (pins:List (Addr × Obj)) (s:Shared) (σ:St) (H:Hp) (v:V) (u:Value) (Q:St->Hp->Prop),Inv X pins σ H s->RelV v u->t v σ H Q->
  wpAny (model X.prog X.w) X.A (assign target X.env u) (λ _ s'=>∃ σ' H',Inv X pins σ' H' s'/\Q σ' H') X.xe s
noncomputable abbrev TSet:=V->V->V->Hp->(Hp->Prop)->Prop
noncomputable def PSet (X:Cx) (t:TSet):Prop:=
 ∀ (pins:List (Addr × Obj)) (s:Shared) (σ:St) (H:Hp) (o i v:V) (ov iv u:Value) (Q:Hp->Prop),Inv X pins σ H s->RelV o ov->RelV i iv->RelV v u->t o i v H Q->
  wpAny (model X.prog X.w) X.A (setItem ov iv u) (λ _ s'=>∃ H',Inv X pins σ H' s'/\Q H') X.xe s
noncomputable abbrev TIp:=V->V->Hp->VK->Prop
section
variable {X:Cx} {pos:Pos}
noncomputable def gName (i:Nat):TG:=λ v σ H Q=>Q (σ.set i (some v)) H
theorem ce {i:Nat} {x:Str} (hN:X.N.Nodup) (hi:X.N[i]?=some x) (hx:Loc X.env.scope x) (hf:X.fn x=true∨X.env.scope.names.lookup x=some .local:=by first | exact .inl rfl | exact .inr rfl | assumption):PG X (.Name x pos) (gName i):=by
 intro pins s σ H v u Q I r h;exact wpAny_assign_Name (bf I hN hi hx r (λ s' I'=>⟨_,H,I',h⟩) hf)
inductive IgCons (t:TG) (u:TGs) (vs:List V) (σ:St) (H:Hp) (Q:St->Hp->Prop):Prop
 | mk (v:_) (r:_) (h1:vs=v::r) (h2:t v σ H λ σ' H'=>u r σ' H' Q):IgCons t u vs σ H Q
inductive IgTup (K:W.Frag) (n:Nat) (t:TGs) (v:V) (σ:St) (H:Hp) (Q:St->Hp->Prop):Prop
 | mk (a:_) (xs:_) (h1:v=.ref a) (h2:SqT K H a xs) (h3:xs.length=n) (h4:t xs σ H Q):IgTup K n t v σ H Q
noncomputable def gSub (to ti:TE) (t:TSet):TG:=λ v σ H Q=>to σ H λ o H1=>ti σ H1 λ i H2=>t o i v H2 λ H3=>Q σ H3
theorem pg_sub {o i:Expr} {to ti:TE} {t:TSet} (ho:PE X o to) (hi:PE X i ti) (hs:PSet X t)
  (ha:∀ v,assign (.Subscript o i pos) X.env v=(do
   let ov <- holding [v] (eval o X.env)
   let iv <- holding [v,ov] (eval i X.env)
   standAt pos
   holding [v,ov,iv] (setItem ov iv v)
   release [v,ov,iv] []):=by intro _;rfl):PG X (.Subscript o i pos) (gSub to ti t):=by
 intro pins s σ H v u Q I r h;rw [ha];refine cq (wpAny_holding (thn (ho pins s σ H _ I h) λ ov s1 ⟨x,H1,I1,r1,q1⟩=>?_));refine cq (wpAny_holding (thn (hi pins s1 σ H1 _ I1 q1) λ iv s2 ⟨y,H2,I2,r2,q2⟩=>?_));refine cq (wpAny_standAt (cq (wpAny_holding (thn (hs pins s2 σ H2 x y v ov iv u _ I2 r1 r2 r q2) λ _ s3 ⟨H3,I3,q3⟩=>?_))));exact wpAny_release ⟨σ,H3,I3,q3⟩
noncomputable def tAsg (te:TE) (g:TG):TS:=λ D σ H=>te σ H λ x H1=>g x σ H1 D.nx
theorem ps_asg {tg e:Expr} {te:TE} {g:TG} (he:PE X e te) (hg:PG X tg g) (hs:swapsWithSole [tg] e pos.line X.env=pure false:=by rfl) (hw:swappedStores [tg] e X.env=pure none:=by rfl)
  (h1:(assignEach [tg] X.env).map (·.2)=[assign tg X.env]:=by rfl):PS X (.Assign [tg] e pos) (tAsg te g):=by
 intro pins s σ H D I h;refine wpAny_Assign_stores (thn (he pins s σ H _ I h) λ v s1 ⟨x,H1,I1,r1,q1⟩=>?_) hs hw;rw [h1];exact thn (hg pins s1 σ H1 x v _ I1 r1 q1) λ _ s2 q=>q
theorem ak {i:Nat} {x:Str} {e:Expr} {te:TE} {pos':Pos} (hN:X.N.Nodup) (hi:X.N[i]?=some x) (hx:Loc X.env.scope x) (he:PE X e te) (hs:swapsWith e (some (.Name x pos')) pos.line X.env=pure false:=by rfl) (hf:X.fn x=true∨X.env.scope.names.lookup x=some .local:=by first | exact .inl rfl | exact .inr rfl | assumption) :
  PS X (.Assign [.Name x pos'] e pos) (tAsg te (gName i)):=by
 intro pins s σ H D I h;refine wpAny_Assign_Name (thn (he pins s σ H _ I h) λ v s1 ⟨y,H1,I1,r1,q1⟩=>?_) hs;exact bf I1 hN hi hx r1 (λ s2 I2=>⟨_,H1,I2,q1⟩) hf
inductive ItPar (i:Nat) (j:Nat) (D:Ends) (σ:St) (vs:List V) (H1:Hp):Prop
 | mk (v:_) (w:_) (h1:vs=[v,w]) (h2:D.nx ((σ.set i (some v)).set j (some w)) H1):ItPar i j D σ vs H1
noncomputable def tPar (i j:Nat) (ta:TA):TS:=λ D σ H=>ta σ H λ vs H1=>ItPar i j D σ vs H1
theorem ps_par {i j:Nat} {x y:Str} {a b:Expr} {ta:TA} {px py pt:Pos} {kt k2 pt2} (hc:X.calm=true) (hN:X.N.Nodup) (hi:X.N[i]?=some x) (hj:X.N[j]?=some y) (hij:i≠j)
  (hx:X.env.scope.names.lookup x=some .local) (hy:X.env.scope.names.lookup y=some .local) (ha:PA X [a,b] ta)
  (hw:swappedStores [.Tuple [.Name x px,.Name y py] kt pt] (.Tuple [a,b] k2 pt2) X.env=pure (some [x,y]))
  (hs:swapsWithSole [.Tuple [.Name x px,.Name y py] kt pt] (.Tuple [a,b] k2 pt2) pos.line X.env=pure false:=by rfl) :
  PS X (.Assign [.Tuple [.Name x px,.Name y py] kt pt] (.Tuple [a,b] k2 pt2) pos) (tPar i j ta):=by
 intro pins s σ H D I h;rw [exec_Assign_arm];refine cq (wpAny_standAt ?_);rw [hs];refine cq (cJ ?_);rw [if_neg (by decide)];refine cq (Tuple_ (thn (ha _ pins s σ H _ I h) λ us s1 ⟨vs,H1,I1,r1,q1⟩=>?_));obtain ⟨v,w,e1,q1⟩:=q1;subst e1
 obtain ⟨u1,u2,rfl,rv,rw'⟩:∃ u1 u2,us=[u1,u2]/\RelV v u1/\RelV w u2:=by
  cases r1 with
  | cons p q=>
   cases q with
   | cons p' q'=>
    cases q';exact ⟨_,_,rfl,p,p'⟩
 refine wpAny_newObj_type ?_ (zL2);have I2:Inv X pins σ H1 { s1 with heap:=s1.heap.push { cls:=.type "tuple",data:=.seq [u1,u2].toArray } }:=I1.kept (t':=s1.toks) λ b o e=>cu _ e;rw [hw];refine cq (cJ ?_);show wpAny (model X.prog X.w) X.A (do rule "assign.swapped-stores";let items <- unpackItems (.ref s1.heap.objs.size) 2 none;assignInOrder [λ v=>bindName X.env y v,λ v=>bindName X.env x v] items.reverse;pure Flow.next) _ _ _;refine cq (wpAny_rule (cq (unpackItems_tuple (items:=#[u1,u2]) (I.ok.hd hc) (IsTup.new s1.heap _) λ h' hx'=>?_)));have I3:=I2.kept (h':=h') (t':=s1.toks) λ b o e=>hx' b o (cT (cx e)) e;show wpAny _ _ (assignInOrder [λ v=>bindName X.env y v,λ v=>bindName X.env x v] [u2,u1] >>= λ _=>pure Flow.next) _ _ _;refine cq (assignInOrder_cons (wpAny_bindName (bf I3 hN hj (.inl hy) rw' (λ s2 I4=>?_) (.inr hy))));refine assignInOrder_cons (wpAny_bindName (bf I4 hN hi (.inl hx) rv (λ s3 I5=>assignInOrder_nil (cJ ?_)) (.inr hx)));rw [List.set_comm _ _ (Ne.symm hij)] at I5;exact ⟨_,H1,I5,q1⟩
end
section
variable {X:Cx} {pos:Pos}
noncomputable def tWhile (c:TT) (tb:TS):TS:=λ D σ H=>∃ W:Nat->St->Hp->Prop,(∃ m,W m σ H)/\∀ m σ H,W m σ H->
 c σ H λ b H1=>if b=true then ∃ N:St->Hp->Prop,(∀ σ' H',N σ' H'->∃ m',m'<m/\W m' σ' H')/\tb { D with nx:=N,ct:=N,bk:=D.nx } σ H1 else D.nx σ H1
theorem ps_while {c:Expr} {body:List Stmt} {tc:TT} {tb:TS} (hp:PassesOwn (model X.prog X.w) X.A X.env X.xe) (hc:PT X c tc) (hb:PSs X body tb):PS X (.While c body [] pos) (tWhile tc tb):=by
 intro pins s σ H D I h;obtain ⟨W,⟨m0,w0⟩,turn⟩:=h;refine wpAny_While (codeAny_whileLoop (λ n s'=>∃ σ' H',Inv X pins σ' H' s'/\W n σ' H') ?_ m0 ⟨σ,H,I,w0⟩);rintro n s1 ⟨σ1,H1,I1,w1⟩;refine wpAny_passesOwn hp (thn (hc pins s1 σ1 H1 _ I1 (turn n σ1 H1 w1)) λ b s2 ⟨H2,I2,q2⟩=>?_)
 cases b with
 | true=>
  obtain ⟨N,hN,q2⟩:=q2;rw [if_pos rfl];refine wpAny_passesOwn hp (thn (hb pins s2 σ1 H2 _ I2 q2) λ f s3 q3=>?_)
  cases f with
  | next=>
   obtain ⟨σ3,H3,I3,n3⟩:=q3;obtain ⟨m',hm,w3⟩:=hN σ3 H3 n3;exact ⟨m',hm,σ3,H3,I3,w3⟩
  | cont=>
   obtain ⟨σ3,H3,I3,n3⟩:=q3;obtain ⟨m',hm,w3⟩:=hN σ3 H3 n3;exact ⟨m',hm,σ3,H3,I3,w3⟩
  | brk=>exact q3
  | ret v=>exact q3
 | false=>
  rw [if_neg cw];exact wpAny_execs_nil ⟨σ1,H2,I2,q2⟩
end
structure It where
 go:Nat->Hp->Prop
 yld:Nat->Hp->V->Hp->Prop
 stop:Nat->Hp->Prop
noncomputable def FpOk (X:Cx) (pins:List (Addr × Obj)) (H:Hp) (b:Addr):Prop:=
 H b=none/\b≠X.env.locals/\b ∉ X.fs/\(b∈X.ex∨X.s₀.heap.objs.size<=b)/\(∀ x c,X.env.cells.lookup x=some c->c≠b)/\∀ p∈X.pn++pins,p.1≠b
theorem Inv.fpOk {X:Cx} {pins:List (Addr × Obj)} {σ:St} {H H':Hp} {s:Shared} {b:Addr} (I:Inv X pins σ H s) (hb:s.heap.objs.size<=b) (hn:H' b=none):FpOk X pins H' b:=by
 refine ⟨hn,Nat.ne_of_gt (cF I.lt hb),I.nofs hb,.inr (cn I.sz hb),λ x c e z=>?_,λ p hp z=>?_⟩
 ·obtain ⟨v,q⟩:=I.cell x c e;exact absurd (cF q.lt (by rw [z];exact hb)) (Nat.lt_irrefl _)
 ·exact absurd (cF (cx (I.pin p hp).1) (by rw [z];exact hb)) (Nat.lt_irrefl _)
structure Turn (P:Program) (w:World) (K:W.Frag) (tg:Expr) (J:It) (fp:List Addr) (it:Addr) (tn:Nat->Heap->Prop):Prop where
 mem:it∈fp
 obj:∀ i h,tn i h->∀ b∈fp,∃ o,h.get? b=some o/\∀ v,o.data≠.cell v
 keep:∀ i h h',tn i h->(∀ b∈fp,∀ o,h.get? b=some o->h'.get? b=some o)->tn i h'
 item:∀ (X:Cx),X.prog=P->X.w=w->X.K=K->X.calm=true->∀ (i:Nat) (pins:List (Addr × Obj)) (s:Shared) (σ:St) (H:Hp) (E:Value->Shared->Prop),Inv X pins σ H s->(∀ b∈fp,FpOk X pins H b)->tn i s.heap->J.go i H->
  wpAny (model P w) X.A (pyNext (.ref it)) (λ r s1=>∃ u,r=some u/\
   wpAny (model P w) X.A (letOwnedTupleGo tg (.ref it) u) (λ _ s2=>∃ x H',Inv X pins σ H' s2/\RelV x u/\J.yld i H x H'/\tn (i+1) s2.heap/\∀ b∈fp,H' b=none) E s1) E s
 done:∀ (X:Cx),X.prog=P->X.w=w->X.K=K->X.calm=true->∀ (i:Nat) (pins:List (Addr × Obj)) (s:Shared) (σ:St) (H:Hp) (E:Value->Shared->Prop),Inv X pins σ H s->(∀ b∈fp,FpOk X pins H b)->tn i s.heap->J.stop i H->
  wpAny (model P w) X.A (pyNext (.ref it)) (λ r s1=>r=none/\Inv X pins σ H s1) E s
 self:∀ (A:Around) (i:Nat) (s:Shared) (Q:Value->Shared->Prop) (E:Value->Shared->Prop),tn i s.heap->Q (.ref it) s->wpAny (model P w) A (pyIter (.ref it)) Q E s
noncomputable abbrev TI:=St->Hp->(It->Hp->Prop)->Prop
noncomputable def PIE (X:Cx) (pins:List (Addr × Obj)) (σ:St) (tg:Expr) (R:It->Hp->Prop) (itv:Value) (s2:Shared):Prop:=
 ∃ (it:Addr) (fp:List Addr) (tn:Nat->Heap->Prop) (J:It) (H':Hp),itv=.ref it/\Inv X pins σ H' s2/\Turn X.prog X.w X.K tg J fp it tn/\tn 0 s2.heap/\(∀ b∈fp,FpOk X pins H' b)/\R J H'
noncomputable def PI (X:Cx) (tg iter:Expr) (wi:TI):Prop:=
 ∀ (pins:List (Addr × Obj)) (s:Shared) (σ:St) (H:Hp) (R:It->Hp->Prop),Inv X pins σ H s->wi σ H R->
  wpAny (model X.prog X.w) X.A (eval iter X.env) (λ v s1=>wpAny (model X.prog X.w) X.A (pyIter v) (PIE X pins σ tg R) X.xe s1) X.xe s
theorem go_of {M:Model} {A:Around} {E:Value->Shared->Prop} {s:Shared} {tg:Expr} {it:Addr} {u:Value} {o:Obj} {n:String} {vs:Array Value} {Q:Unit->Shared->Prop} (ho:s.heap.get? it=some o) (hc:o.cls=.type n) (hd:o.data=.fields vs)
    (hn:["enumerate","zip","dict_itemiterator","dict_reverseitemiterator","odict_iterator","itertools.zip_longest","itertools.pairwise"].contains n=false) (hQ:Q () s):wpAny M A (letOwnedTupleGo tg (.ref it) u) Q E s:=by
  unfold letOwnedTupleGo
  cases tg <;> first
    | exact cJ hQ
    | (cases u <;> first
        | exact cJ hQ
        | (refine cq (wpAny_load ho ?_)
           rw [hc,hd];show wpAny M A (if (["enumerate","zip","dict_itemiterator","dict_reverseitemiterator","odict_iterator","itertools.zip_longest","itertools.pairwise"].contains n && vs[0]? == some (rawInt _))=true then _ else _) Q E s;rw [if_neg (by intro h;rw [hn,Bool.false_and] at h;cases h)];exact cJ hQ))
noncomputable def Itl (K:W.Frag) (a:Addr):It:=
 ⟨λ i H=>∃ xs x,SqL K H a xs/\xs[i]?=some x,λ i H x H'=>H'=H/\∀ xs,SqL K H a xs->xs[i]?=some x,λ i H=>∃ xs,SqL K H a xs/\xs.length<=i⟩
noncomputable def Itt (K:W.Frag) (a:Addr):It:=
 ⟨λ i H=>∃ xs x,SqT K H a xs/\xs[i]?=some x,λ i H x H'=>H'=H/\∀ xs,SqT K H a xs->xs[i]?=some x,λ i H=>∃ xs,SqT K H a xs/\xs.length<=i⟩
noncomputable def Itr (lo:Int) (n:Nat):It:=⟨λ i _=>i<n,λ i H x H'=>H'=H/\x=.int (lo+i),λ i _=>n<=i⟩
theorem turn_list {P:Program} {w:World} {K:W.Frag} {tg:Expr} (a it:Addr):Turn P w K tg (Itl K a) [it] it (λ i h=>h.IsListIter it a i) where
 mem:=by simp
 obj:=λ i h st b hb=>by
  have e:b=it:=by simpa using hb
  subst e;obtain ⟨o,e,c,d⟩:=st;exact ⟨o,e,λ v z=>by rw [d] at z;cases z⟩
 keep:=λ i h h' st k=>st.at λ o e=>k it (by simp) o e
 item:=by
  intro X hP hw hK hc i pins s σ H E I hf st hg;subst hP hw hK;obtain ⟨xs,x,hq,hx⟩:=hg;obtain ⟨its,rv,p,hz⟩:=I.list hq;obtain ⟨u,hu,ru⟩:=rv.get hx;obtain ⟨f0,f1,f2,f3,f4,f5⟩:=hf it (by simp);refine wpAny_pyNext_list_item st p.isList (x:=u) (by simpa using hu) λ h' st' sb=>?_;have I1:Inv X pins σ H { s with heap:=h' }:=I.turned (t':=s.toks) (λ b o hb e=>(sb.2 b hb).trans e) f0 f1 f3 f4 f5;obtain ⟨o,e,c,d⟩:=id st';exact ⟨u,rfl,go_of (s:={ s with heap:=h' }) e c d (by decide) ⟨x,H,I1,ru,⟨rfl,λ ys hy=>by rw [I.list_inj hy hq];exact hx⟩,st',λ b hb=>(hf b hb).1⟩⟩
 done:=by
  intro X hP hw hK hc i pins s σ H E I hf st hg;subst hP hw hK;obtain ⟨xs,hq,hx⟩:=hg;obtain ⟨its,rv,p,hz⟩:=I.list hq;obtain ⟨f0,f1,f2,f3,f4,f5⟩:=hf it (by simp);have hl:=rv.length;exact wpAny_pyNext_list_end (I.ok.hd hc) st p.isList (by simp;omega) λ h' eb=>⟨rfl,I.turned (t':=s.toks) (λ b o hb e=>eb b o hb e) f0 f1 f3 f4 f5⟩
 self:=λ _ _ _ _ _ st h=>wpAny_pyIter_listiter st h
theorem turn_range {P:Program} {w:World} {K:W.Frag} {tg:Expr} (it:Addr) (lo:Int) (n:Nat):Turn P w K tg (Itr lo n) [it] it (λ i h=>IsRangeIter h it (lo+(i:Nat)*1) ((n:Int)-(i:Nat)) 1) where
 mem:=by simp
 obj:=λ i h st b hb=>by
  have e:b=it:=by simpa using hb
  subst e
  exact ⟨_,st,λ v z=>by
   have z':Data.fields _=Data.cell v:=z
   cases z'⟩
 keep:=λ i h h' st k=>k it (by simp) _ st
 item:=by
  intro X hP hw hK hc i pins s σ H E I hf st hg;subst hP hw hK;obtain ⟨f0,f1,f2,f3,f4,f5⟩:=hf it (by simp);have W:=Walks.range (prog:=X.prog) (w:=X.w) (I.ok.hd hc) it lo 1 n;refine W.item i s _ _ hg st λ v h' tk hv st' kk=>?_;obtain ⟨t,rfl⟩:=hv;have I1:Inv X pins σ H { s with heap:=h',toks:=tk }:=I.turned (λ b o hb e=>kk b o (by simpa using hb) e) f0 f1 f3 f4 f5;refine ⟨_,rfl,go_of (s:={ s with heap:=h',toks:=tk }) (n:="range_iterator") st' rfl rfl (by decide) ⟨.int (lo+i),H,I1,⟨t,?_⟩,⟨rfl,rfl⟩,st',λ b hb=>(hf b hb).1⟩⟩;rw [Int.mul_one]
 done:=by
  intro X hP hw hK hc i pins s σ H E I hf st hg;subst hP hw hK;obtain ⟨f0,f1,f2,f3,f4,f5⟩:=hf it (by simp);exact wpAny_pyNext_range_end (I.ok.hd hc) st (by have:n<=i:=hg;omega) λ h' eb=>⟨rfl,I.turned (t':=s.toks) (λ b o hb e=>eb b o hb e) f0 f1 f3 f4 f5⟩
 self:=λ _ _ _ _ _ st h=>wpAny_pyIter_rangeiter st h
end L2
namespace L2
open PySem PySem.Spec PyProof.Rows
section
variable {X:Cx} {tg:Expr}
inductive IiList (K:W.Frag) (R:It->Hp->Prop) (x:V) (H1:Hp):Prop
 | mk (a:_) (h1:x=.ref a) (h2:(∃ xs,SqL K H1 a xs)) (h3:R (Itl K a) H1):IiList K R x H1
noncomputable def iList (K:W.Frag) (tl:TE):TI:=λ σ H R=>tl σ H λ x H1=>IiList K R x H1
inductive IiTup (K:W.Frag) (R:It->Hp->Prop) (x:V) (H1:Hp):Prop
 | mk (a:_) (h1:x=.ref a) (h2:(∃ xs,SqT K H1 a xs)) (h3:R (Itt K a) H1):IiTup K R x H1
theorem pi_list {l:Expr} {tl:TE} (hl:PE X l tl):PI X tg l (iList X.K tl):=by
 intro pins s σ H R I h;refine thn (hl pins s σ H _ I h) λ v s1 ⟨x,H1,I1,r1,q1⟩=>?_;obtain ⟨a,e,⟨xs,hq⟩,q⟩:=q1;subst e
 cases r1;obtain ⟨its,rv,p,hz⟩:=I1.list hq;refine wpAny_pyIter_list p.isList ?_;refine ⟨s1.heap.objs.size,[s1.heap.objs.size],_,_,H1,rfl,I1.kept (t':=s1.toks) λ b o e=>cu _ e,turn_list a _,⟨_,cN _ rfl,rfl,rfl⟩,λ b hb=>?_,q⟩;have e:b=s1.heap.objs.size:=by simpa using hb
 subst e;exact I1.fpOk (cy _) (I1.hok.fresh (cy _))
theorem range_it {pins:List (Addr × Obj)} {σ:St} {H:Hp} {s:Shared} {R:It->Hp->Prop} {E:Value->Shared->Prop} {lo hi:Int} {t u v:Tok} {tk:Nat} (I:Inv X pins σ H s) (h1:-(2 ^ 62)<=lo) (h2:lo<2 ^ 62) (h3:-(2 ^ 62)<=hi) (h4:hi<2 ^ 62)
  (q:R (Itr lo (hi-lo).toNat) H):wpAny (model X.prog X.w) X.A (pyIter (.ref s.heap.objs.size)) (PIE X pins σ tg R) E { s with heap:=s.heap.push { cls:=.type "range",data:=.fields #[.int lo t,.int hi u,.int 1 v] },toks:=tk }:=by
 refine wpAny_pyIter_range (IsRange.new ..) (small_one h1 h2 h3 h4) ?_;have I1:Inv X pins σ H { s with heap:=s.heap.push { cls:=.type "range",data:=.fields #[.int lo t,.int hi u,.int 1 v] },toks:=tk }:=I.kept λ b o e=>cu _ e
 refine ⟨(s.heap.push { cls:=.type "range",data:=.fields #[.int lo t,.int hi u,.int 1 v] }).objs.size,[(s.heap.push { cls:=.type "range",data:=.fields #[.int lo t,.int hi u,.int 1 v] }).objs.size],_,_,H,rfl,
  I1.kept (t':=tk) λ b o e=>cu _ e,turn_range _ lo (hi-lo).toNat,?_,λ b hb=>?_,q⟩
 ·have e1:lo+((0:Nat):Int)*1=lo:=by simp
  have e2:(((hi-lo).toNat:Nat):Int)-((0:Nat):Int)=Builtin.Range.rangeSize lo hi 1:=by rw [rangeSize_one];split <;> omega
  show IsRangeIter _ _ (lo+((0:Nat):Int)*1) ((((hi-lo).toNat:Nat):Int)-((0:Nat):Int)) 1;rw [e1,e2];exact cN _ rfl
 ·have e:b=(s.heap.push { cls:=.type "range",data:=.fields #[.int lo t,.int hi u,.int 1 v] }).objs.size:=by simpa using hb
  subst e;exact I1.fpOk (cy _) (I1.hok.fresh (cy _))
noncomputable def iRng1 (ta:TA):TI:=λ σ H R=>ta σ H λ vs H1=>∃ j:Int,vs=[.int j]/\-(2 ^ 62)<=j/\j<2 ^ 62/\R (Itr 0 j.toNat) H1
theorem pi_range1 {a:Expr} {ta:TA} {p pos:Pos} (hg:Gl X "range") (hm:X.mg "range"=none) (ha:PA X [a] ta) (hs:starEach [a] X.env=[(false,eval a X.env)]:=by rfl):PI X tg (.Call (.Name "range" p) [a] [] pos) (iRng1 ta):=by
 intro pins s σ H R I h;refine Call_ (ld_blt I hg hm boot_range (PyProof.Rows.callWith_type1 (thn (ha pos pins s σ H _ I h) λ us s1 ⟨vs,H1,I1,r1,q1⟩=>?_) hs rfl));obtain ⟨j,e,q1,q2,q⟩:=q1;subst e
 cases r1 with
 | cons r rr=>
  cases rr;obtain ⟨t,rfl⟩:=r;exact call_range_1 (range_it I1 (by omega) (by omega) q1 q2 (by simpa using q))
noncomputable def tFor (wi:TI) (g:TG) (tb:TS):TS:=λ D σ H=>wi σ H λ J H1=>∃ W:Nat->Nat->St->Hp->Prop,(∃ m,W 0 m σ H1)/\∀ i m σ H,W i m σ H->
 (J.stop i H/\D.nx σ H)∨(J.go i H/\∃ N:St->Hp->Prop,(∀ σ' H',N σ' H'->∃ m',m'<m/\W (i+1) m' σ' H')/\∀ x H',J.yld i H x H'->g x σ H' λ σ2 H2=>tb { D with nx:=N,ct:=N,bk:=D.nx } σ2 H2)
noncomputable def pinsAt (fp:List Addr) (h:Heap):List (Addr × Obj):=fp.filterMap λ b=>(h.get? b).map λ o=>(b,o)
theorem aV {fp:List Addr} {h:Heap} {b:Addr} {o:Obj} (hb:b∈fp) (e:h.get? b=some o):(b,o)∈pinsAt fp h:=List.mem_filterMap.mpr ⟨b,hb,by rw [e];rfl⟩
theorem of_pinsAt {fp:List Addr} {h:Heap} {p:Addr × Obj} (hp:p∈pinsAt fp h):p.1∈fp/\h.get? p.1=some p.2:=by
 obtain ⟨b,hb,e⟩:=List.mem_filterMap.mp hp
 cases q:h.get? b with
 | none=>rw [q] at e;cases e
 | some o=>
  rw [q] at e;have e':(b,o)=p:=cU e;subst e';exact ⟨hb,q⟩
theorem Inv.pinned {pins:List (Addr × Obj)} {σ:St} {H:Hp} {s:Shared} {fp:List Addr} (I:Inv X pins σ H s) (hf:∀ b∈fp,FpOk X pins H b) (ho:∀ b∈fp,∃ o,s.heap.get? b=some o/\∀ v,o.data≠.cell v):Inv X (pins++pinsAt fp s.heap) σ H s:=
 I.pins_of λ p hp=>(List.mem_append.mp hp).elim (λ z=>I.pin p (cD _ z)) λ z=>by
  obtain ⟨hb,e⟩:=of_pinsAt z;obtain ⟨f0,f1,f2,_⟩:=hf p.1 hb;obtain ⟨o,e',d⟩:=ho p.1 hb;rw [e] at e';cases e';exact ⟨e,f0,f1,f2,d⟩
theorem Inv.unpinned {pins pl:List (Addr × Obj)} {σ:St} {H:Hp} {s:Shared} (I:Inv X (pins++pl) σ H s):Inv X pins σ H s:=I.pins_of λ p hp=>I.pin p (cD _ (List.mem_append_left _ hp))
theorem ps_for {iter:Expr} {body:List Stmt} {wi:TI} {g:TG} {tb:TS} {pos:Pos} (hp:PassesOwn (model X.prog X.w) X.A X.env X.xe) (hc:X.calm=true) (hi:PI X tg iter wi) (hg:PG X tg g) (hb:PSs X body tb)
  (hs:∀ x,foldedSetIterable iter X.env x=pure x:=by intro _;rfl):PS X (.For tg iter body [] pos) (tFor wi g tb):=by
 intro pins s σ H D I h;refine wpAny_For (thn (hi pins s σ H _ I h) λ v s1 h1=>thn h1 λ itv s2 h2=>?_) hs;obtain ⟨it,fp,tn,J,H2,e,I2,T,st2,f2,W,⟨m0,w0⟩,turn⟩:=h2;subst e;have stat:∀ {H':Hp},(∀ b∈fp,H' b=none)->∀ b∈fp,FpOk X pins H' b:=λ hn b hb=>⟨hn b hb,(f2 b hb).2⟩;refine codeAny_forLoop_any (λ n s'=>∃ i σ' H',Inv X pins σ' H' s'/\tn i s'.heap/\(∀ b∈fp,H' b=none)/\W i n σ' H') ?_ m0 ⟨0,σ,H2,I2,st2,λ b hb=>(f2 b hb).1,w0⟩;rintro n s3 ⟨i,σ3,H3,I3,st3,fr3,w3⟩;rcases turn i n σ3 H3 w3 with ⟨stop,qn⟩ | ⟨go,N,hN,step⟩
 ·refine wpAny_passesOwn hp (thn (T.done X rfl rfl rfl hc i pins s3 σ3 H3 X.xe I3 (stat fr3) st3 stop) λ r s4 ⟨hr,I4⟩=>?_);subst hr;exact wpAny_execs_nil ⟨σ3,H3,I4,qn⟩
 ·refine wpAny_passesOwn hp (thn (T.item X rfl rfl rfl hc i pins s3 σ3 H3 X.xe I3 (stat fr3) st3 go) λ r s4 ⟨u,hr,h4⟩=>?_);subst hr;refine wpAny_passesOwn hp (thn h4 λ _ s5 ⟨x,H5,I5,r5,y5,st5,fr5⟩=>?_);have I5':=I5.pinned (stat fr5) (T.obj _ _ st5);refine wpAny_passesOwn hp (thn (hg _ s5 σ3 H5 x u _ I5' r5 (step x H5 y5)) λ _ s6 ⟨σ6,H6,I6,q6⟩=>?_);refine wpAny_passesOwn hp (thn (hb _ s6 σ6 H6 _ I6 q6) λ f s7 q7=>?_)
  have again:∀ {σ7:St} {H7:Hp},Inv X (pins++pinsAt fp s5.heap) σ7 H7 s7->N σ7 H7->∃ m,m<n/\∃ i σ' H',Inv X pins σ' H' s7/\tn i s7.heap/\(∀ b∈fp,H' b=none)/\W i m σ' H':=λ {σ7 H7} I7 n7=>by
   obtain ⟨m',hm,w7⟩:=hN σ7 H7 n7;refine ⟨m',hm,i+1,σ7,H7,I7.unpinned,T.keep _ _ _ st5 λ b hb o e=>(I7.pin (b,o) (cD _ (cD _ (aV hb e)))).1,λ b hb=>?_,w7⟩;obtain ⟨o,e,d⟩:=T.obj _ _ st5 b hb;exact (I7.pin (b,o) (cD _ (cD _ (aV hb e)))).2.1
  cases f with
  | next=>obtain ⟨σ7,H7,I7,n7⟩:=q7;exact again I7 n7
  | cont=>obtain ⟨σ7,H7,I7,n7⟩:=q7;exact again I7 n7
  | brk=>obtain ⟨σ7,H7,I7,q7⟩:=q7;exact ⟨σ7,H7,I7.unpinned,q7⟩
  | ret v=>obtain ⟨x7,σ7,H7,I7,r7,q7⟩:=q7;exact ⟨x7,σ7,H7,I7.unpinned,r7,q7⟩
end
theorem for_range {lo:Int} {n:Nat} {g:TG} {tb:TS} {D:Ends} {σ:St} {H:Hp} (Pv:Nat->St->Hp->Prop) (h0:Pv 0 σ H)
  (hs:∀ i σ H,i<n->Pv i σ H->g (.int (lo+i)) σ H λ σ2 H2=>tb { D with nx:=Pv (i+1),ct:=Pv (i+1),bk:=D.nx } σ2 H2) (hd:∀ σ H,Pv n σ H->D.nx σ H) :
  ∃ W:Nat->Nat->St->Hp->Prop,(∃ m,W 0 m σ H)/\∀ i m σ H,W i m σ H->
   ((Itr lo n).stop i H/\D.nx σ H)∨((Itr lo n).go i H/\∃ N:St->Hp->Prop,(∀ σ' H',N σ' H'->∃ m',m'<m/\W (i+1) m' σ' H')/\∀ x H',(Itr lo n).yld i H x H'->g x σ H' λ σ2 H2=>tb { D with nx:=N,ct:=N,bk:=D.nx } σ2 H2):=by
 refine ⟨λ i m σ H=>m=n-i/\i<=n/\Pv i σ H,⟨n,by simp,da _,h0⟩,?_⟩;rintro i m σ H ⟨rfl,hi,p⟩;by_cases hlt:i<n
 ·refine .inr ⟨hlt,Pv (i+1),λ σ' H' p'=>⟨n-(i+1),by omega,rfl,hlt,p'⟩,λ x H' y=>?_⟩;obtain ⟨e,y⟩:=y;subst e y;exact hs i σ _ hlt p
 ·have e:i=n:=by omega
  subst e;exact .inl ⟨cy _,hd σ H p⟩
theorem while_by {c:TT} {tb:TS} {D:Ends} {σ:St} {H:Hp} (Pv:St->Hp->Prop) (μ:St->Hp->Nat) (h0:Pv σ H)
  (hs:∀ σ H,Pv σ H->c σ H λ b H1=>if b=true then tb { D with nx:=λ σ' H'=>Pv σ' H'/\μ σ' H' < μ σ H,ct:=λ σ' H'=>Pv σ' H'/\μ σ' H' < μ σ H,bk:=D.nx } σ H1 else D.nx σ H1)
  (mono:∀ σ H Q Q',(∀ b H1,Q b H1->Q' b H1)->c σ H Q->c σ H Q'):tWhile c tb D σ H:=by
 refine ⟨λ m σ H=>m = μ σ H/\Pv σ H,⟨_,rfl,h0⟩,?_⟩;rintro m σ H ⟨rfl,p⟩;refine mono σ H _ _ (λ b H1 q=>?_) (hs σ H p)
 cases b with
 | true=>exact ⟨_,λ σ' H' ⟨p',l⟩=>⟨_,l,rfl,p'⟩,q⟩
 | false=>exact q
end L2
namespace L2
open PySem PySem.Spec PyProof.Rows
noncomputable abbrev R2:=V->V->Hp->VK->Prop
noncomputable def OpR (X:Cx) (f:Value->Value->Sem Value) (r:R2):Prop:=
 ∀ (pins:List (Addr × Obj)) (s:Shared) (σ:St) (H:Hp) (x y:V) (v u:Value) (Q:VK),Inv X pins σ H s->RelV x v->RelV y u->r x y H Q->
  wpAny (model X.prog X.w) X.A (f v u) (EP X pins σ Q) X.xe s
noncomputable def UnR (X:Cx) (f:Value->Sem Value) (r:V->Hp->VK->Prop):Prop:=
 ∀ (pins:List (Addr × Obj)) (s:Shared) (σ:St) (H:Hp) (x:V) (v:Value) (Q:VK),Inv X pins σ H s->RelV x v->r x H Q->
  wpAny (model X.prog X.w) X.A (f v) (EP X pins σ Q) X.xe s
noncomputable def bJ (X:Cx) (f:Value) (r:List V->Hp->VK->Prop):Prop:=
 ∀ (pins:List (Addr × Obj)) (s:Shared) (σ:St) (H:Hp) (xs:List V) (us:List Value) (Q:VK),Inv X pins σ H s->Vals xs us->r xs H Q->
  wpAny (model X.prog X.w) X.A (call f us) (EP X pins σ Q) X.xe s
noncomputable def tOp (r:R2) (ta tb:TE):TE:=λ σ H Q=>ta σ H λ x H1=>tb σ H1 λ y H2=>r x y H2 Q
noncomputable def tUn (r:V->Hp->VK->Prop) (ta:TE):TE:=λ σ H Q=>ta σ H λ x H1=>r x H1 Q
noncomputable def rI (C:Int->Int->Prop) (g:Int->Int->V):R2:=λ x y H Q=>∃ i j,x=.int i/\y=.int j/\C i j/\Q (g i j) H
inductive IrI0 (g:Int->Int->V) (x:V) (y:V) (H:Hp) (Q:VK):Prop
 | mk (i:_) (j:_) (h1:x=.int i) (h2:y=.int j) (h3:Q (g i j) H):IrI0 g x y H Q
noncomputable def rI0 (g:Int->Int->V):R2:=λ x y H Q=>IrI0 g x y H Q
inductive IrU (g:Int->V) (x:V) (H:Hp) (Q:VK):Prop
 | mk (i:_) (h1:x=.int i) (h2:Q (g i) H):IrU g x H Q
noncomputable def rU (g:Int->V):V->Hp->VK->Prop:=λ x H Q=>IrU g x H Q
section
variable {X:Cx} {a b c:Expr} {ta tb tc:TE} {pos:Pos}
theorem binT (ha:PE X a ta) (hb:PE X b tb) {pins:List (Addr × Obj)} {s:Shared} {σ:St} {H:Hp} {R:V->V->Hp->Prop} (I:Inv X pins σ H s)
  (h:ta σ H λ x H1=>tb σ H1 λ y H2=>R x y H2) {Q:Value->Shared->Prop} {f:Value->Value->Sem Value}
  (hf:∀ v u s2 x y H2,Inv X pins σ H2 s2->RelV x v->RelV y u->R x y H2->wpAny (model X.prog X.w) X.A (f v u) Q X.xe s2) :
  wpAny (model X.prog X.w) X.A (eval a X.env) (λ v s₁=>wpAny (model X.prog X.w) X.A (eval b X.env) (λ u s₂=>wpAny (model X.prog X.w) X.A (f v u) Q X.xe s₂) X.xe s₁) X.xe s:=by
 refine thn (ha pins s σ H _ I h) λ v s1 ⟨x,H1,I1,r1,q1⟩=>?_;refine thn (hb pins s1 σ H1 _ I1 q1) λ u s2 ⟨y,H2,I2,r2,q2⟩=>?_;exact hf v u s2 x y H2 I2 r1 r2 q2
theorem aj {op:Operator} {r:R2} (ho:OpR X (binaryOp op) r) (ha:PE X a ta) (hb:PE X b tb):PE X (.BinOp a op b pos) (tOp r ta tb):=by
 intro pins s σ H Q I h;exact wpAny_BinOp (binT ha hb I h λ v u s2 x y H2 I2 rx ry q=>ho pins s2 σ H2 x y v u Q I2 rx ry q)
theorem pe_un {op:UnaryOp} {r:V->Hp->VK->Prop} (ho:UnR X (unaryOp op) r) (ha:PE X a ta):PE X (.UnaryOp op a pos) (tUn r ta):=by
 intro pins s σ H Q I h;exact UnaryOp_ (thn (ha pins s σ H _ I h) λ v s1 ⟨x,H1,I1,r1,q1⟩=>ho pins s1 σ H1 x v Q I1 r1 q1)
theorem opI {f:Value->Value->Sem Value} {C:Int->Int->Prop} {g:Int->Int->Int}
  (rule:∀ (i j:Int) (t u:Tok) (s:Shared) (Q:Value->Shared->Prop) (E:Value->Shared->Prop),C i j->Q (.int (g i j) s.toks) { s with toks:=s.toks+1 }->wpAny (model X.prog X.w) X.A (f (.int i t) (.int j u)) Q E s) :
  OpR X f (rI C λ i j=>.int (g i j)):=by
 intro pins s σ H x y v u Q I rx ry h;obtain ⟨i,j,rfl,rfl,hc,q⟩:=h;obtain ⟨t,rfl⟩:=rx;obtain ⟨t',rfl⟩:=ry;exact rule i j t t' s _ _ hc ⟨.int (g i j),H,I.tok _,⟨_,rfl⟩,q⟩
theorem opI0 {f:Value->Value->Sem Value} {g:Int->Int->Int}
  (rule:∀ (i j:Int) (t u:Tok) (s:Shared) (Q:Value->Shared->Prop) (E:Value->Shared->Prop),Q (.int (g i j) s.toks) { s with toks:=s.toks+1 }->wpAny (model X.prog X.w) X.A (f (.int i t) (.int j u)) Q E s) :
  OpR X f (rI0 λ i j=>.int (g i j)):=by
 intro pins s σ H x y v u Q I rx ry h;obtain ⟨i,j,rfl,rfl,q⟩:=h;obtain ⟨t,rfl⟩:=rx;obtain ⟨t',rfl⟩:=ry;exact rule i j t t' s _ _ ⟨.int (g i j),H,I.tok _,⟨_,rfl⟩,q⟩
theorem opB0 {f:Value->Value->Sem Value} {g:Int->Int->Bool}
  (rule:∀ (i j:Int) (t u:Tok) (s:Shared) (Q:Value->Shared->Prop) (E:Value->Shared->Prop),Q (.bool (g i j)) s->wpAny (model X.prog X.w) X.A (f (.int i t) (.int j u)) Q E s) :
  OpR X f (rI0 λ i j=>.bl (g i j)):=by
 intro pins s σ H x y v u Q I rx ry h;obtain ⟨i,j,rfl,rfl,q⟩:=h;obtain ⟨t,rfl⟩:=rx;obtain ⟨t',rfl⟩:=ry;exact rule i j t t' s _ _ ⟨.bl (g i j),H,I,rfl,q⟩
noncomputable def CDiv (i j:Int):Prop:=0<j/\j<1073741824
noncomputable def CPow (i j:Int):Prop:=0<=j/\j<=1000000/\i.natAbs<2 ^ 64
theorem op_add:OpR X (binaryOp .Add) (rI0 λ i j=>.int (i+j)):=opI0 λ _ _ _ _ _ _ _ q=>add_int q
theorem op_sub:OpR X (binaryOp .Sub) (rI0 λ i j=>.int (i-j)):=opI0 λ _ _ _ _ _ _ _ q=>sub_int q
theorem bt:OpR X (binaryOp .FloorDiv) (rI CDiv λ i j=>.int (i / j)):=opI λ i j _ _ _ _ _ hc q=>by
 have h1:(0:Int)<j:=hc.1;have h2:j<1073741824:=hc.2;exact floordiv_int (by omega) (by rw [Int.fdiv_eq_ediv_of_nonneg i (by omega)];exact q) (.inl (PyProof.noPylong_small (by omega)))
theorem aH:OpR X (binaryOp .Mod) (rI (λ _ j=>0<j) λ i j=>.int (i % j)):=opI λ i j _ _ _ _ _ hc q=>by
 have h1:(0:Int)<j:=hc;exact mod_int' (by omega) (by rw [Int.fmod_eq_emod_of_nonneg i (by omega)];exact q)
theorem unI {f:Value->Sem Value} {g:Int->Int}
  (rule:∀ (i:Int) (t:Tok) (s:Shared) (Q:Value->Shared->Prop) (E:Value->Shared->Prop),Q (.int (g i) s.toks) { s with toks:=s.toks+1 }->wpAny (model X.prog X.w) X.A (f (.int i t)) Q E s) :
  UnR X f (rU λ i=>.int (g i)):=by
 intro pins s σ H x v Q I rx h;obtain ⟨i,rfl,q⟩:=h;obtain ⟨t,rfl⟩:=rx;exact rule i t s _ _ ⟨.int (g i),H,I.tok _,⟨_,rfl⟩,q⟩
theorem un_neg:UnR X (unaryOp .USub) (rU λ i=>.int (-i)):=unI λ _ _ _ _ _ q=>neg_int q
end
noncomputable def scal:V->V->Bool
 | .non,.non=>true | .non,.int _=>true | .int _,.non=>true | .non,.bl _=>true | .bl _,.non=>true | .non,.str _=>true | .str _,.non=>true
 | .int _,.int _=>true | .bl _,.bl _=>true | .str _,.str _=>true | .byt _,.byt _=>true
 | .int _,.str _=>true | .str _,.int _=>true | .bl _,.str _=>true | .str _,.bl _=>true
 | _,_=>false
noncomputable def rEq:R2:=λ x y H Q=>scal x y=true/\Q (.bl (decide (x=y))) H
noncomputable def rNe:R2:=λ x y H Q=>scal x y=true/\Q (.bl (!decide (x=y))) H
theorem dec_int {i j:Int}:decide (V.int i=V.int j)=(i == j):=by
 rw [Bool.eq_iff_iff];simp
theorem dec_bl {i j:Bool}:decide (V.bl i=V.bl j)=(i == j):=by
 rw [Bool.eq_iff_iff];simp
theorem dec_str {i j:Str}:decide (V.str i=V.str j)=(i == j):=by
 rw [Bool.eq_iff_iff];simp
theorem dec_byt {i j:Array UInt8}:decide (V.byt i=V.byt j)=(i.toList == j.toList):=by
 rw [Bool.eq_iff_iff]
 cases i
 cases j;simp
section
variable {X:Cx} {a b c:Expr} {ta tb tc:TE} {pos:Pos}
theorem ap {pins:List (Addr × Obj)} {σ:St} {H:Hp} {s:Shared} {Q:VK} {k k':Bool} (I:Inv X pins σ H s) (q:Q (.bl k) H) (e:k=k'):EP X pins σ Q (.bool k') s:=by
 subst e;exact ⟨.bl k,H,I,rfl,q⟩
theorem a7:OpR X (compareOp .Eq) rEq:=by
 intro pins s σ H x y v u Q I rx ry h;obtain ⟨hs,q⟩:=h
 cases x with
 | non=>
  cases rx
  cases y with
  | non=>cases ry;exact PySem.EqNone.eq_none_none (ap I q (by simp))
  | bl j=>cases ry;exact PySem.EqNone.eq_none_bool (ap I q (by simp))
  | int j=>obtain ⟨t',rfl⟩:=ry;exact PySem.EqNone.eq_none_int (ap I q (by simp))
  | str j=>obtain ⟨t',rfl⟩:=ry;exact PySem.EqNone.eq_none_str (ap I q (by simp))
  | _=>exact absurd (show false=true from hs) cw
 | bl i=>
  cases rx
  cases y with
  | non=>cases ry;exact PySem.EqNone.eq_bool_none (ap I q (by simp))
  | bl j=>cases ry;exact eq_bool (ap I q dec_bl)
  | str j=>obtain ⟨t',rfl⟩:=ry;exact PySem.EqMixed.eq_bool_str (ap I q (by simp))
  | _=>exact absurd (show false=true from hs) cw
 | int i=>
  obtain ⟨t,rfl⟩:=rx
  cases y with
  | non=>cases ry;exact PySem.EqNone.eq_int_none (ap I q (by simp))
  | int j=>obtain ⟨t',rfl⟩:=ry;exact eq_int (ap I q dec_int)
  | str j=>obtain ⟨t',rfl⟩:=ry;exact PySem.EqMixed.eq_int_str (ap I q (by simp))
  | _=>exact absurd (show false=true from hs) cw
 | str i=>
  obtain ⟨t,rfl⟩:=rx
  cases y with
  | non=>cases ry;exact PySem.EqNone.eq_str_none (ap I q (by simp))
  | bl j=>cases ry;exact PySem.EqMixed.eq_str_bool (ap I q (by simp))
  | int j=>obtain ⟨t',rfl⟩:=ry;exact PySem.EqMixed.eq_str_int (ap I q (by simp))
  | str j=>obtain ⟨t',rfl⟩:=ry;exact eq_str (ap I q dec_str)
  | _=>exact absurd (show false=true from hs) cw
 | byt i=>
  obtain ⟨t,rfl⟩:=rx
  cases y with
  | byt j=>obtain ⟨t',rfl⟩:=ry;exact PySem.W.eq_bytes (ap I q dec_byt)
  | _=>exact absurd (show false=true from hs) cw
 | _=>cases y <;> exact absurd (show false=true from hs) cw
theorem op_ne:OpR X (compareOp .NotEq) rNe:=by
 intro pins s σ H x y v u Q I rx ry h;obtain ⟨hs,q⟩:=h
 cases x with
 | non=>
  cases rx
  cases y with
  | non=>cases ry;exact PySem.EqNone.ne_none_none (ap I q (by simp))
  | bl j=>cases ry;exact PySem.EqNone.ne_none_bool (ap I q (by simp))
  | int j=>obtain ⟨t',rfl⟩:=ry;exact PySem.EqNone.ne_none_int (ap I q (by simp))
  | str j=>obtain ⟨t',rfl⟩:=ry;exact PySem.EqNone.ne_none_str (ap I q (by simp))
  | _=>exact absurd (show false=true from hs) cw
 | bl i=>
  cases rx
  cases y with
  | non=>cases ry;exact PySem.EqNone.ne_bool_none (ap I q (by simp))
  | bl j=>cases ry;exact ne_bool (ap I q (congrArg not dec_bl))
  | str j=>obtain ⟨t',rfl⟩:=ry;exact PySem.EqMixed.ne_bool_str (ap I q (by simp))
  | _=>exact absurd (show false=true from hs) cw
 | int i=>
  obtain ⟨t,rfl⟩:=rx
  cases y with
  | non=>cases ry;exact PySem.EqNone.ne_int_none (ap I q (by simp))
  | int j=>obtain ⟨t',rfl⟩:=ry;exact ne_int (ap I q (congrArg not dec_int))
  | str j=>obtain ⟨t',rfl⟩:=ry;exact PySem.EqMixed.ne_int_str (ap I q (by simp))
  | _=>exact absurd (show false=true from hs) cw
 | str i=>
  obtain ⟨t,rfl⟩:=rx
  cases y with
  | non=>cases ry;exact PySem.EqNone.ne_str_none (ap I q (by simp))
  | bl j=>cases ry;exact PySem.EqMixed.ne_str_bool (ap I q (by simp))
  | int j=>obtain ⟨t',rfl⟩:=ry;exact PySem.EqMixed.ne_str_int (ap I q (by simp))
  | str j=>obtain ⟨t',rfl⟩:=ry;exact ne_str (ap I q (congrArg not dec_str))
  | _=>exact absurd (show false=true from hs) cw
 | byt i=>
  obtain ⟨t,rfl⟩:=rx
  cases y with
  | byt j=>obtain ⟨t',rfl⟩:=ry;exact PySem.W.ne_bytes (ap I q (congrArg not dec_byt))
  | _=>exact absurd (show false=true from hs) cw
 | _=>cases y <;> exact absurd (show false=true from hs) cw
theorem op_lt:OpR X (compareOp .Lt) (rI0 λ i j=>.bl (decide (i<j))):=opB0 λ _ _ _ _ _ _ _ q=>lt_int q
theorem op_le:OpR X (compareOp .LtE) (rI0 λ i j=>.bl (decide (i<=j))):=opB0 λ _ _ _ _ _ _ _ q=>le_int q
theorem op_gt:OpR X (compareOp .Gt) (rI0 λ i j=>.bl (decide (j<i))):=opB0 λ _ _ _ _ _ _ _ q=>gt_int q
theorem op_in_str:OpR X (compareOp .In) (λ x y H Q=>∃ i j,x=.str i/\y=.str j/\Q (.bl (!(Builtin.Str.occurrences j i 0 j.length 1).isEmpty)) H):=by
 intro pins s σ H x y v u Q I rx ry h;obtain ⟨i,j,rfl,rfl,q⟩:=h;obtain ⟨t,rfl⟩:=rx;obtain ⟨t',rfl⟩:=ry;exact in_str (ap I q rfl)
theorem op_notN:OpR X (compareOp .IsNot) (λ x y H Q=>y=.non/\Q (.bl (!decide (x=.non))) H):=by
 intro pins s σ H x y v u Q I rx ry h;obtain ⟨rfl,q⟩:=h
 cases ry;refine isnot_none_gen (ap I q ?_)
 cases x <;> first
  | (cases rx;rfl)
  | (obtain ⟨t,rfl⟩:=rx;rfl)
theorem op_notin_str:OpR X (compareOp .NotIn) (λ x y H Q=>∃ i j,x=.str i/\y=.str j/\Q (.bl (!(!(Builtin.Str.occurrences j i 0 j.length 1).isEmpty))) H):=by
 intro pins s σ H x y v u Q I rx ry h;obtain ⟨i,j,rfl,rfl,q⟩:=h;obtain ⟨t,rfl⟩:=rx;obtain ⟨t',rfl⟩:=ry;exact notIn_str (ap I q rfl)
theorem aq (b:Expr) {op:CmpOp} (h:op≠.In:=by decide) (h2:op≠.NotIn:=by decide):behindInMarks op b=false:=by
 have e1:(op == CmpOp.In)=false:=by cases op <;> first | rfl | exact absurd rfl h
 have e2:(op == CmpOp.NotIn)=false:=by cases op <;> first | rfl | exact absurd rfl h2
 cases b <;> simp [behindInMarks,e1,e2]
theorem pe_cmpR {op:CmpOp} {r:R2} (ho:OpR X (compareOp op) r) (ha:PE X a ta) (hb:PE X b tb) (hm:behindInMarks op b=false):PE X (.Compare a [op] [b] pos) (tOp r ta tb):=by
 intro pins s σ H Q I h;exact wpAny_Compare1 (binT ha hb I h λ v u s2 x y H2 I2 rx ry q=>ho pins s2 σ H2 x y v u Q I2 rx ry q) hm
inductive ItTest (Q:Bool->Hp->Prop) (x:V) (H':Hp):Prop
 | mk (k:_) (h1:x=.bl k) (h2:Q k H'):ItTest Q x H'
noncomputable def tTest (t:TE):TT:=λ σ H Q=>t σ H λ x H'=>ItTest Q x H'
theorem al {op:CmpOp} {r:R2} (ho:OpR X (compareOp op) r) (ha:PE X a ta) (hb:PE X b tb) (hm:behindInMarks op b=false):PT X (.Compare a [op] [b] pos) (tTest (tOp r ta tb)):=by
 intro pins s σ H Q I h
 refine wpAny_isTrue_Compare1 (thn (ha pins s σ H _ I h) λ v s1 ⟨x,H1,I1,r1,q1⟩=>thn (hb pins s1 σ H1 _ I1 q1) λ u s2 ⟨y,H2,I2,r2,q2⟩=>
  thn (ho pins s2 σ H2 x y v u _ I2 r1 r2 q2) λ c s3 ⟨z,H3,I3,r3,k,e,q3⟩=>?_) hm
 subst e
 cases r3;exact cY ⟨H3,I3,q3⟩
noncomputable def tChain (r r':R2) (ta tb tc:TE):TE:=λ σ H Q=>ta σ H λ x H1=>tb σ H1 λ y H2=>r x y H2 λ z H3=>∃ k,z=.bl k/\
 (if k=true then tc σ H3 λ w' H4=>r' y w' H4 Q else Q (.bl false) H3)
theorem pe_chain {op op':CmpOp} {r r':R2} (ho:OpR X (compareOp op) r) (ho':OpR X (compareOp op') r') (ha:PE X a ta) (hb:PE X b tb) (hc:PE X c tc)
  (hm:lastMarks [op,op'] [b,c]=false:=by with_unfolding_all rfl):PE X (.Compare a [op,op'] [b,c] pos) (tChain r r' ta tb tc):=by
 intro pins s σ H Q I h
 refine Compare_chain (thn (ha pins s σ H _ I h) λ v s1 ⟨x,H1,I1,r1,q1⟩=>chain_link (thn (hb pins s1 σ H1 _ I1 q1) λ u s2 ⟨y,H2,I2,r2,q2⟩=>
  thn (ho pins s2 σ H2 x y v u _ I2 r1 r2 q2) λ d s3 ⟨z,H3,I3,r3,k,e,q3⟩=>?_)) hm
 subst e
 cases r3;refine cY ?_
 cases k with
 | false=>exact ite_ff ⟨.bl false,H3,I3,rfl,q3⟩
 | true=>exact ite_tt (chain_last (thn (hc pins s3 σ H3 _ I3 q3) λ w' s4 ⟨z',H4,I4,r4,q4⟩=>ho' pins s4 σ H4 y z' u w' Q I4 r2 r4 q4))
theorem pt_chain {op op':CmpOp} {r r':R2} (ho:OpR X (compareOp op) r) (ho':OpR X (compareOp op') r') (ha:PE X a ta) (hb:PE X b tb) (hc:PE X c tc)
  (hm:lastMarks [op,op'] [b,c]=false:=by with_unfolding_all rfl):PT X (.Compare a [op,op'] [b,c] pos) (tTest (tChain r r' ta tb tc)):=by
 intro pins s σ H Q I h
 refine isTrue_chain (thn (ha pins s σ H _ I h) λ v s1 ⟨x,H1,I1,r1,q1⟩=>test_link (thn (hb pins s1 σ H1 _ I1 q1) λ u s2 ⟨y,H2,I2,r2,q2⟩=>
  thn (ho pins s2 σ H2 x y v u _ I2 r1 r2 q2) λ d s3 ⟨z,H3,I3,r3,k,e,q3⟩=>?_)) hm
 subst e
 cases r3;refine cY ?_
 cases k with
 | false=>
  obtain ⟨k',e',q'⟩:=q3
  cases e';exact ite_ff ⟨H3,I3,q'⟩
 | true=>
  refine ite_tt (test_last (thn (hc pins s3 σ H3 _ I3 q3) λ w' s4 ⟨z',H4,I4,r4,q4⟩=>thn (ho' pins s4 σ H4 y z' u w' _ I4 r2 r4 q4) λ d' s5 ⟨z2,H5,I5,r5,k2,e2,q5⟩=>?_));subst e2
  cases r5;exact cY ⟨H5,I5,q5⟩
theorem line63:(sizeLine:Nat)<2 ^ 63:=by rw [sizeLine_eq];decide
theorem az:OpR X (binaryOp .Add) (λ x y H Q=>∃ i j,x=.str i/\y=.str j/\i.length+j.length<=sizeLine/\Q (.str (i++j)) H):=by
 intro pins s σ H x y v u Q I rx ry h;obtain ⟨i,j,rfl,rfl,hz,q⟩:=h;obtain ⟨t,rfl⟩:=rx;obtain ⟨t',rfl⟩:=ry;exact add_str (λ t' tk=>⟨.str (i++j),H,I.tok _,⟨_,rfl⟩,q⟩) hz
theorem vals1 {x:V} {us:List Value} (r:Vals [x] us):∃ u,us=[u]/\RelV x u:=by
 cases r with
 | cons r1 r2=>cases r2;exact ⟨_,rfl,r1⟩
theorem call_abs:bJ X (.builtin "abs") (λ xs H Q=>∃ i,xs=[.int i]/\Q (.int (if i<0 then -i else i)) H):=by
 intro pins s σ H xs us Q I r h;obtain ⟨i,rfl,q⟩:=h;obtain ⟨u,rfl,t,rfl⟩:=vals1 r;exact call_abs_int λ u tk=>⟨.int (if i<0 then -i else i),H,I.tok _,⟨_,rfl⟩,q⟩
theorem ay:bJ X (.type "str") (λ xs H Q=>∃ i,xs=[.int i]/\i.natAbs.log2<1920/\Q (.str (toString i)) H):=by
 intro pins s σ H xs us Q I r h;obtain ⟨i,rfl,hz,q⟩:=h;obtain ⟨u,rfl,t,rfl⟩:=vals1 r;exact PySem.P.str_of_int hz ⟨.str _,H,I.tok _,⟨_,rfl⟩,q⟩
end
end L2
namespace L2
open PySem PySem.Spec PyProof.Rows
structure ObjM (h:Heap) (x dx C:Addr) (mA:Str->Option Value):Prop where
 obj:h.get? x=some (PySem.W.instObj C dx)
 ns:h.Ns1 dx mA
 ne:dx≠x
theorem lookIn_ns {h:Heap} {dx:Addr} {mA:Str->Option Value} (n:h.Ns1 dx mA):∃ od,h.get? dx=some od/\∀ name,PySem.W.lookIn name od=some (mA name):=by
 obtain ⟨o,es,ep,ho,hd,hk,_,hm⟩:=n;refine ⟨o,ho,λ name=>?_⟩;have e:=hm name;unfold nsFind findBy at e;rw [<- Array.find?_toList] at e;unfold PySem.W.lookIn;rw [hd];dsimp only
 split
 ·rename_i y q;rw [q] at e;exact congrArg some e
 ·rename_i q;rw [q] at e
  have a:es.toList.any (·.refKey)=false:=by
   rw [List.any_eq_false];intro y hy;obtain ⟨z,t,hkey⟩:=hk y (Array.mem_toList_iff.mp hy);simp [DictEntry.refKey,hkey]
  have a':¬ es.toList.any (·.refKey)=true:=by rw [a];exact cw
  rw [if_neg a'];exact congrArg some e
theorem ObjM.look {h:Heap} {x dx C:Addr} {mA:Str->Option Value} (I:ObjM h x dx C mA):∃ od,PySem.W.InstAt h x (PySem.W.instObj C dx) C (some od)/\∀ name,PySem.W.lookIn name od=some (mA name):=
 let ⟨od,ho,hl⟩:=lookIn_ns I.ns
 ⟨od,⟨I.obj,rfl,rfl,ho⟩,hl⟩
section
variable {prog:Program} {w:World} {A:Around} {E:Value->Shared->Prop} {s:Shared} {K:W.Frag} {x dx C f:Addr} {mA:Str->Option Value} {name:Str} {v:Value}
theorem get_map {expr:Bool} {Q:Value->Shared->Prop} (X:K.In s.heap) (I:ObjM s.heap x dx C mA) (hg:PySem.W.plainGet K C name=true) (hh:PySem.W.hasDictIn K C=true)
  (ha:PySem.W.findIn K (.ref C) name=some none) (hv:mA name=some v) (hv':PySem.W.handedIn v=true) (h:Q v { s with toks:=s.toks+1 }) :
  wpAny (model prog w) A (getAttr (.ref x) name expr) Q E s:=by
 obtain ⟨od,J,hl⟩:=I.look;exact PySem.W.get_value X J (PySem.W.plainGet_of hg).1 (PySem.W.findObj_own hh ha rfl (by rw [hl,hv])) hv' h
theorem get_meth {pl:Sem Bool} {Q:Value × List Value->Shared->Prop} (X:K.In s.heap) (I:ObjM s.heap x dx C mA) (hg:PySem.W.plainGet K C name=true)
  (hf:PySem.W.findIn K (.ref C) name=some (some (.ref f))) (ht:PySem.W.isFn K (.ref f)=true) (hv:mA name=none) (h:Q (.ref f,[.ref x]) s) :
  wpAny (model prog w) A (getMethod (.ref x) name pl) Q E s:=by
 obtain ⟨od,J,hl⟩:=I.look;exact PySem.W.method_fn X J (PySem.W.plainGet_of hg).1 (PySem.W.plainGet_of hg).2 hf (beq_iff_eq.mp ht) (by show (PySem.W.lookIn name od).map (·.isSome)=some false;rw [hl,hv];rfl) h
theorem set_map {ns:List Str} {Q:Unit->Shared->Prop} (X:K.In s.heap) (I:ObjM s.heap x dx C mA)
  (hs:PySem.W.findIn K (.ref C) "__setattr__"=some (some (.builtin "object.__setattr__"))) (hp:PySem.W.plainOver K C=true) (ht:PySem.W.takerIn K C name=some none) (hh:PySem.W.hasDictIn K C=true)
  (hw:PySem.Within mA ns) (hsz:ns.length<=sizeLine)
  (h:∀ h',ObjM h' x dx C (λ y=>if y=name then some v else mA y)->Heap.SameBut dx s.heap h'->Q () { s with heap:=h',toks:=s.toks+2 }) :
  wpAny (model prog w) A (setAttr (.ref x) name v) Q E s:=by
 obtain ⟨od,J,hl⟩:=I.look;refine PySem.W.set_plain X J hs (PySem.W.osa_open (s:={ s with toks:=s.toks+1 }) (r:=none) X J hp ht λ b=>?_);obtain ⟨cd,hc,hd'⟩:=PySem.W.any_some hh;have hx:s.heap.get? x=some ⟨.ref C,some dx,.plain,#[]⟩:=I.obj;refine cq (cJ (cq (cq (wpAny_loadPart hx (cq (PySem.W.Looks.here (s:={ s with toks:=s.toks+1 }) (PySem.W.looks_clsIn X hc) ?_))))));rw [hd'];refine cJ (a:=some dx) (cq (cJ (cq ?_)));refine wpAny_nsSet1 (s:={ s with toks:=s.toks+1 }) I.ns λ h' hn2 hs2=>?_;obtain ⟨oD,esD,epD,hoD,hdD,hcD⟩:=hn2.count (PySem.Within.cons name v hw);refine cq (wpAny_lookBehind hoD (by rw [hdD];exact pastItsLine_dict (cn hcD (by rw [cH];omega))) ?_);exact cJ (h _ ⟨(hs2.2 _ (Ne.symm I.ne)).trans I.obj,hn2,I.ne⟩ hs2)
theorem make_map {R:Result->Shared->Prop} {vs:List Value} {kw:List (Str × Value)} (X:K.In s.heap) (hm:PySem.W.makesIn K C=true)
  (hi:PySem.W.findIn K (.ref C) "__init__"=some (some (.ref f))) (hf:PySem.W.typeIn K (.ref f)=some (.type "function"))
  (h:codeAny (model prog w) (A.under (.builtin "type.__call__" ⟨.ref C::vs,kw⟩)) (.call (.ref f) ⟨.ref (s.heap.objs.size+1)::vs,kw⟩) (PySem.W.InitBack (s.heap.objs.size+1) R)
   { s with heap:=(s.heap.push PySem.W.emptyDict).push (PySem.W.instObj C s.heap.objs.size) }) :
  codeAny (model prog w) A (.call (.ref C) ⟨vs,kw⟩) R s:=by
 obtain ⟨hh,g,d,t,os⟩:=s;exact PySem.W.make_core (PySem.W.makes_of X hm) (PySem.W.looks_findIn X hi) (λ self=>PySem.W.bind_fn X self hf) (.inl rfl) h
end
noncomputable def bC (f:Str) (v:V):List (Str × V)->List (Str × V)
 | []=>[(f,v)]
 | (g,x)::r=>if g=f then (g,v)::r else (g,x)::bC f v r
theorem lookup_putF (f g:Str) (v:V):∀ fs:List (Str × V),(bC f v fs).lookup g=if g=f then some v else fs.lookup g
 | []=>by
  show List.lookup g [(f,v)]=_;by_cases h:g=f
  ·have hb:(g == f)=true:=beq_iff_eq.mpr h;simp only [List.lookup,hb,if_pos h]
  ·have hb:(g == f)=false:=cW.mpr h;simp only [List.lookup,hb,if_neg h]
 | (k,x)::r=>by
  have ih:=lookup_putF f g v r;rw [show bC f v ((k,x)::r)=(if k=f then (k,v)::r else (k,x)::bC f v r) from rfl];by_cases hk:k=f
  ·rw [if_pos hk];by_cases h:g=k
   ·have hb:(g == k)=true:=beq_iff_eq.mpr h;simp only [List.lookup,hb,if_pos (h.trans hk)]
   ·have hb:(g == k)=false:=cW.mpr h;simp only [List.lookup,hb,if_neg (λ e:g=f=>h (e.trans hk.symm))]
  ·rw [if_neg hk];by_cases h:g=k
   ·have hb:(g == k)=true:=beq_iff_eq.mpr h;simp only [List.lookup,hb,if_neg (λ e:g=f=>hk (h.symm.trans e))]
   ·have hb:(g == k)=false:=cW.mpr h;simp only [List.lookup,hb];exact ih
theorem keys_putF (f:Str) (v:V):∀ fs:List (Str × V),f∈(bC f v fs).map (·.1)/\∀ g,g∈fs.map (·.1)->g∈(bC f v fs).map (·.1)
 | []=>⟨by simp [bC],λ g h=>by simp at h⟩
 | (k,x)::r=>by
  obtain ⟨i1,i2⟩:=keys_putF f v r;rw [show bC f v ((k,x)::r)=(if k=f then (k,v)::r else (k,x)::bC f v r) from rfl];by_cases hk:k=f
  ·rw [if_pos hk];subst hk;exact ⟨by simp,λ g h=>by simpa using h⟩
  ·rw [if_neg hk];refine ⟨?_,λ g h=>?_⟩
   ·rw [List.map_cons];exact cK _ i1
   ·rw [List.map_cons] at h ⊢;rcases cQ.mp h with e | e
    ·exact cQ.mpr (.inl e)
    ·exact cK _ (i2 g e)
theorem length_putF (f:Str) (v:V):∀ fs:List (Str × V),(bC f v fs).length<=fs.length+1
 | []=>by simp [bC]
 | (k,x)::r=>by
  have ih:=length_putF f v r;rw [show bC f v ((k,x)::r)=(if k=f then (k,v)::r else (k,x)::bC f v r) from rfl];by_cases hk:k=f
  ·rw [if_pos hk,cH,cH];omega
  ·rw [if_neg hk,cH,cH];omega
theorem RelO.some_of {v:V} {o:Option Value} (r:RelO (some v) o):∃ u,o=some u/\RelV v u:=by
 cases o with
 | none=>exact (show False from r).elim
 | some u=>exact ⟨u,rfl,r⟩
theorem RelO.none_of {o:Option Value} (r:RelO none o):o=none:=by
 cases o with
 | none=>rfl
 | some u=>exact (show False from r).elim
theorem handed_of {v:V} {u:Value} (r:RelV v u):PySem.W.handedIn u=true:=by
 cases v with
 | non=>cases (show u=Value.none from r);rfl
 | bl b=>cases (show u=Value.bool b from r);rfl
 | int i=>obtain ⟨t,e⟩:=(show ∃ t,u=Value.int i t from r);cases e;rfl
 | str x=>obtain ⟨t,e⟩:=(show ∃ t,u=Value.str x t from r);cases e;rfl
 | byt b=>obtain ⟨t,e⟩:=(show ∃ t,u=Value.bytes b t from r);cases e;rfl
 | flt b=>obtain ⟨t,e⟩:=(show ∃ t,u=Value.float b t from r);cases e;rfl
 | ref a=>cases (show u=Value.ref a from r);rfl
 | ty n=>cases (show u=Value.type n from r);rfl
section
variable {P:Program} {w:World} {H H':Hp} {h h':Heap} {a C dx:Addr} {fs fs':List (Str × V)}
theorem ins_get (hok:HOk P w H h) (e:H a=some (.ins C dx fs)):∃ mA,ObjM h a dx C mA/\(∀ f,RelO (fs.lookup f) (mA f))/\PySem.Within mA (fs.map (·.1))/\fs.length<=1000/\H dx=some (.own a):=by
 obtain ⟨d,z,ne,ob,mA,n,r,q⟩:=(show ObjOk P w H h a (.ins C dx fs) from hok a _ e);exact ⟨mA,⟨ob,n,ne⟩,r,q,z,d⟩
end
structure Cls (K:W.Frag) (C:Addr):Prop where
 pg:PySem.W.plainGet K C Str.empty=true
 hd:PySem.W.hasDictIn K C=true
 po:PySem.W.plainOver K C=true
 sa:PySem.W.findIn K (.ref C) "__setattr__"=some (some (.builtin "object.__setattr__"))
theorem Cls.get {K:W.Frag} {C:Addr} (c:Cls K C) (f:Str):PySem.W.plainGet K C f=true:=c.pg
noncomputable def NoAttr (K:W.Frag) (C:Addr) (f:Str):Prop:=PySem.W.findIn K (.ref C) f=some none
theorem NoAttr.taker {K:W.Frag} {C:Addr} {f:Str} (n:NoAttr K C f):PySem.W.takerIn K C f=some none:=by
 unfold PySem.W.takerIn;rw [show PySem.W.findIn K (.ref C) f=some none from n];rfl
structure Con (K:W.Frag) (C:Addr) (f:Str) (v:V) (u:Value):Prop where
 at_:PySem.W.findIn K (.ref C) f=some (some u)
 rel:RelV v u
 get:PySem.W.specialIn K u "__get__"=some none
 cp:PySem.W.copiedNames.contains f=false
structure Meth (K:W.Frag) (C:Addr) (m:Str) (f:Addr):Prop where
 at_:PySem.W.findIn K (.ref C) m=some (some (.ref f))
 fn:PySem.W.isFn K (.ref f)=true
 kp:PySem.W.keepIn K (.ref f)=true
section
variable {X:Cx} {pins:List (Addr × Obj)} {σ:St} {H:Hp} {s:Shared} {a C dx:Addr} {fs:List (Str × V)} {f:Str} {v:V} {A:Around} {E:Value->Shared->Prop}
theorem getattr_ok {b:Bool} {Q:Value->Shared->Prop} (I:Inv X pins σ H s) (e:H a=some (.ins C dx fs)) (c:Cls X.K C) (n:NoAttr X.K C f) (l:fs.lookup f=some v)
  (h:∀ u s',Inv X pins σ H s'->RelV v u->Q u s'):wpAny (model X.prog X.w) A (getAttr (.ref a) f b) Q E s:=by
 obtain ⟨mA,O,r,_,_,_⟩:=ins_get I.hok e;obtain ⟨u,hu,ru⟩:=RelO.some_of (v:=v) (o:=mA f) (by rw [<- l];exact r f);exact get_map I.kIn O (c.get f) c.hd n hu (handed_of ru) (h u _ (I.tok _) ru)
theorem getmeth_ok {m:Str} {g:Addr} {pl:Sem Bool} {Q:Value × List Value->Shared->Prop} (I:Inv X pins σ H s) (e:H a=some (.ins C dx fs)) (c:Cls X.K C) (k:Meth X.K C m g) (l:fs.lookup m=none)
  (h:Q (.ref g,[.ref a]) s):wpAny (model X.prog X.w) A (getMethod (.ref a) m pl) Q E s:=by
 obtain ⟨mA,O,r,_,_,_⟩:=ins_get I.hok e;have hn:mA m=none:=RelO.none_of (by rw [<- l];exact r m);exact get_meth I.kIn O (c.get m) k.at_ k.fn hn h
theorem setattr_ok {y:V} {u:Value} {Q:Unit->Shared->Prop} (I:Inv X pins σ H s) (e:H a=some (.ins C dx fs)) (c:Cls X.K C) (n:NoAttr X.K C f) (hl:fs.length<1000) (ry:RelV y u)
  (h:∀ s',Inv X pins σ (upd H a (.ins C dx (bC f y fs))) s'->Q () s'):wpAny (model X.prog X.w) A (setAttr (.ref a) f u) Q E s:=by
 obtain ⟨mA,O,r,wi,_,ho⟩:=ins_get I.hok e;have hz:(fs.map (·.1)).length<=sizeLine:=by rw [cA,sizeLine_eq];omega
 refine set_map I.kIn O c.sa c.po n.taker c.hd wi hz λ h' O' sb=>h _ ?_;have hd:∃ o,h'.get? dx=some o:=let ⟨o,_,_,e',_⟩:=O'.ns;⟨o,e'⟩
 refine I.write (x:=a) (e:=dx) (by rw [e];exact True.intro) (.inr ho) (λ b q hb z=>(sb.2 b hb).trans z) hd ?_;refine ⟨by rw [ar O.ne];exact ho,?_,O.ne,O'.obj,_,O'.ns,λ g=>?_,λ g hg=>?_⟩
 ·have:=length_putF f y fs;omega
 ·show RelO ((bC f y fs).lookup g) (if g=f then some u else mA g);rw [lookup_putF];by_cases q:g=f
  ·rw [if_pos q,if_pos q];exact ry
  ·rw [if_neg q,if_neg q];exact r g
 ·by_cases q:g=f
  ·rw [q];exact (keys_putF f y fs).1
  ·refine (keys_putF f y fs).2 g (wi g λ z=>hg ?_);show (if g=f then some u else mA g)=none;rw [if_neg q];exact z
theorem Inv.made (I:Inv X pins σ H s):Inv X pins σ (upd (upd H s.heap.objs.size (.own (s.heap.objs.size+1))) (s.heap.objs.size+1) (.ins C s.heap.objs.size []))
  { s with heap:=(s.heap.push PySem.W.emptyDict).push (PySem.W.instObj C s.heap.objs.size) }:=by
 have e1:(s.heap.push PySem.W.emptyDict).get? s.heap.objs.size=some PySem.W.emptyDict:=cN s.heap rfl
 have e2:((s.heap.push PySem.W.emptyDict).push (PySem.W.instObj C s.heap.objs.size)).get? (s.heap.objs.size+1)=some (PySem.W.instObj C s.heap.objs.size):=by
  have:=cN (s.heap.push PySem.W.emptyDict) (o:=PySem.W.instObj C s.heap.objs.size) rfl
  rwa [Heap.size_push] at this
 have e3:(s.heap.push PySem.W.emptyDict).Ns s.heap.objs.size (λ _=>none):=⟨PySem.W.emptyDict,#[],_,e1,rfl,(λ e he=>absurd he (by simp)),λ _=>rfl⟩;have I1:=I.laid (a:=s.heap.objs.size) (o:=.own (s.heap.objs.size+1)) (h':=s.heap.push PySem.W.emptyDict) (t':=s.toks) (λ b u q=>cu _ q) (cy _) ⟨_,e1⟩;refine I1.laid (a:=s.heap.objs.size+1) (o:=.ins C s.heap.objs.size []) (t':=s.toks) (λ b u q=>cu _ q) (Nat.le_of_eq (Heap.size_push _ _)) ?_;have ne:s.heap.objs.size≠s.heap.objs.size+1:=cT (Nat.lt_succ_self _);refine ⟨by rw [ar ne,ai],da _,ne,e2,λ _=>none,(Heap.Ns1.of_empty e3).at λ o q=>cu _ q,λ _=>True.intro,λ y hy=>absurd rfl hy⟩
theorem attr_of {prog:Program} {w:World} {env:Env} {e:Expr} {f:Str} {pos:Pos} {s:Shared} {Q:Value->Shared->Prop} (hb:attributeBase e f env (eval e env)=eval e env)
  (h:wpAny (model prog w) A (eval e env) (λ o s₁=>wpAny (model prog w) A (getAttr o f true) Q E s₁) E s):wpAny (model prog w) A (eval (.Attribute e f pos) env) Q E s:=
 Attribute_any_ h (by rw [arm_eval_Attribute,hb])
end
inductive ItFld (K:W.Frag) (f:Str) (Q:VK) (x:V) (H1:Hp):Prop
 | mk (a:_) (C:_) (dx:_) (fs:_) (v:_) (h1:x=.ref a) (h2:H1 a=some (.ins C dx fs)) (h3:Cls K C) (h4:NoAttr K C f) (h5:fs.lookup f=some v) (h6:Q v H1):ItFld K f Q x H1
noncomputable def sFld (K:W.Frag) (ta tv:TE) (f:Str):TS:=λ D σ H=>tv σ H λ y H1=>ta σ H1 λ x H2=>∃ a C dx fs,x=.ref a/\H2 a=some (.ins C dx fs)/\Cls K C/\NoAttr K C f/\fs.length<1000/\
 D.nx σ (upd H2 a (.ins C dx (bC f y fs)))
section
variable {X:Cx} {o e value:Expr} {f:Str} {pos pos' tpos:Pos} {ta tv:TE}
theorem ps_fld (ha:PE X o ta) (hv:PE X value tv) (hs:swapsWith value (some (.Attribute o f pos')) pos.line X.env=pure false):PS X (.Assign [.Attribute o f pos'] value pos) (sFld X.K ta tv f):=by
 intro pins s σ H D I h;refine plainObj_wpAny_Assign_Attribute (thn (hv pins s σ H _ I h) λ u s1 ⟨y,H1,I1,ry,q⟩=>thn (ha pins s1 σ H1 _ I1 q) λ ov s2 ⟨x,H2,I2,rx,a,C,dx,fs,ex,ea,c,n,l,q2⟩=>?_) hs;subst ex;obtain rfl:ov=Value.ref a:=rx;exact setattr_ok I2 ea c n l ry λ s3 I3=>⟨σ,_,I3,q2⟩
end
section
variable {X:Cx} {pins:List (Addr × Obj)} {σ:St} {H:Hp} {s:Shared} {A:Around} {E:Value->Shared->Prop} {Q:Value->Shared->Prop} {c:Value} {b:Bool}
inductive TyOf (K:W.Frag) (H:Hp):V->Value->Prop where
 | non:TyOf K H .non (.type "NoneType")
 | bl (x:Bool):TyOf K H (.bl x) (.type "bool")
 | int (i:Int):TyOf K H (.int i) (.type "int")
 | str (x:Str):TyOf K H (.str x) (.type "str")
 | flt (x:UInt64):TyOf K H (.flt x) (.type "float")
 | lst {a:Addr} {xs:List V} (e:H a=some (.lst xs)):TyOf K H (.ref a) (.type "list")
 | frz {a:Addr} {o:Obj} {xs:List V} (e:H a=some (.frz o (.lst xs))):TyOf K H (.ref a) (.type "list")
 | tup {a:Addr} {xs:List V} (e:H a=some (.tup xs)):TyOf K H (.ref a) (.type "tuple")
 | dK {a:Addr} {kvs:List (Key × V)} (e:H a=some (.dK kvs)):TyOf K H (.ref a) (.type "dict")
 | dT {a:Addr} {kvs:List (List Key × V)} (e:H a=some (.dT kvs)):TyOf K H (.ref a) (.type "dict")
 | ins {a C dx:Addr} {fs:List (Str × V)} (e:H a=some (.ins C dx fs)) (cl:Cls K C) (ha:PySem.W.findIn K (.ref C) "__class__"=some (some (.builtin "object.__class__")))
   (hn:PySem.W.specialIn K (.builtin "object.__class__") "__get__"=some (some (.builtin "getset_descriptor.__get__"))) (htk:PySem.W.takesIn K (.builtin "object.__class__")=some true)
   (hm:PySem.W.mroIn K C (.type "object")=some true):TyOf K H (.ref a) (.ref C)
theorem isinst_ok {x:V} {u t:Value} (I:Inv X pins σ H s) (rx:RelV x u) (ty:TyOf X.K H x t) (e:PySem.W.kitOne X.K t c=some b) (h:∀ tk,Q (.bool b) { s with toks:=tk }) :
  wpAny (model X.prog X.w) A (call (.builtin "isinstance") [u,c]) Q E s:=by
 cases ty with
 | non=>cases (show u=Value.none from rx);exact cV PySem.W.kitx_none I.kIn True.intro e (λ z=>nomatch z) h
 | bl y=>cases (show u=Value.bool y from rx);exact cV PySem.W.kitx_bool I.kIn True.intro e (λ z=>nomatch z) h
 | int i=>obtain ⟨t,q⟩:=(show ∃ t,u=Value.int i t from rx);cases q;exact cV PySem.W.kitx_int I.kIn True.intro e (λ z=>nomatch z) h
 | str y=>obtain ⟨t,q⟩:=(show ∃ t,u=Value.str y t from rx);cases q;exact cV PySem.W.kitx_str I.kIn True.intro e (λ z=>nomatch z) h
 | flt y=>obtain ⟨t,q⟩:=(show ∃ t,u=Value.float y t from rx);cases q;exact cV PySem.W.kitx_float I.kIn True.intro e (λ z=>nomatch z) h
 | @lst a xs ea=>
  cases (show u=Value.ref a from rx);obtain ⟨_,_,n,_,h1⟩:=(show ObjOk X.prog X.w H s.heap a (.lst xs) from I.hok a _ ea);exact cV PySem.W.kitx_list I.kIn ⟨_,h1,rfl⟩ e (λ z=>nomatch z) h
 | @frz a ob xs ea=>
  cases (show u=Value.ref a from rx);obtain ⟨_,_,_,n,_,h1⟩:=(show ObjOk X.prog X.w H s.heap a (.frz ob (.lst xs)) from I.hok a _ ea);exact cV PySem.W.kitx_list I.kIn ⟨_,h1,rfl⟩ e (λ z=>nomatch z) h
 | @tup a xs ea=>
  cases (show u=Value.ref a from rx);obtain ⟨_,_,_,p⟩:=(show ObjOk X.prog X.w H s.heap a (.tup xs) from I.hok a _ ea);obtain ⟨o,h1,h2,_⟩:=p;exact cV PySem.W.kitx_tuple I.kIn ⟨o,h1,h2⟩ e (λ z=>nomatch z) h
 | @dK a kvs ea=>
  cases (show u=Value.ref a from rx);obtain ⟨_,_,vs,_,p⟩:=(show ObjOk X.prog X.w H s.heap a (.dK kvs) from I.hok a _ ea);obtain ⟨o,es,ep,h1,h2,_⟩:=p;exact cV PySem.W.kitx_dict I.kIn ⟨o,h1,h2.1⟩ e (λ z=>nomatch z) h
 | @dT a kvs ea=>
  cases (show u=Value.ref a from rx);obtain ⟨_,_,xs,_,o,es,ep,h1,h2,_⟩:=(show ObjOk X.prog X.w H s.heap a (.dT kvs) from I.hok a _ ea);exact cV PySem.W.kitx_dict I.kIn ⟨o,h1,h2.1⟩ e (λ z=>nomatch z) h
 | @ins a C dx fs ea cl ha hn htk hm=>
  cases (show u=Value.ref a from rx);obtain ⟨mA,O,_⟩:=ins_get I.hok ea;obtain ⟨od,J,_⟩:=O.look;exact cV (PySem.W.kitx_own (cl.get _) cl.hd ha hn htk hm) I.kIn J e (λ z=>nomatch z) h
end
end L2
namespace L2
open PySem PySem.Spec PyProof.Rows
structure Room (k:Nat) (A:Around):Prop where
 hd:A.handled=none
 dp:A.depth+3*k+5<recursionLimit
 un:A.units+16*k+200<cLine
theorem Room.mono {j k:Nat} {A:Around} (r:Room k A) (h:j<=k):Room j A:=⟨r.hd,by have:=r.dp;omega,by have:=r.un;omega⟩
theorem Room.deeper {k:Nat} {A:Around} (r:Room (k+1) A) (env:Env):Room k (A.deeper env):=
 ⟨r.hd,by have:=r.dp;show A.depth+1+3*k+5<_;omega,by have:=r.un;show A.units+3+16*k+200<_;omega⟩
theorem make_depth {A:Around} {C:Addr} {us:List Value} {kw:List (Str × Value)}:(A.under (.builtin "type.__call__" ⟨.ref C::us,kw⟩)).depth=A.depth+1:=by
 first | rfl | simp [Around.under,Code.weight,Code.isCreation,Code.isGuard,Code.isCaller,Code.frames,Code.isFrame,guardIds]
theorem make_units {A:Around} {C:Addr} {us:List Value} {kw:List (Str × Value)}:(A.under (.builtin "type.__call__" ⟨.ref C::us,kw⟩)).units=A.units+1:=by
 first | rfl | simp [Around.under,Code.cUnits,Code.frames,Code.isFrame]
theorem Room.make {k:Nat} {A:Around} (r:Room (k+1) A) (C:Addr) (us:List Value) (kw:List (Str × Value)):Room k (A.under (.builtin "type.__call__" ⟨.ref C::us,kw⟩)):=
 ⟨r.hd,by have:=r.dp;rw [make_depth];omega,by have:=r.un;rw [make_units];omega⟩
theorem Room.depth {k:Nat} {A:Around} (r:Room k A):A.depth<recursionLimit:=by have:=r.dp;omega
theorem Room.units {k:Nat} {A:Around} (r:Room k A):A.units+64<cLine:=by have:=r.un;omega
noncomputable def tNil:TA:=λ _ H Q=>Q [] H
noncomputable def tCons (ta:TE) (tr:TA):TA:=λ σ H Q=>ta σ H λ x H1=>tr σ H1 λ xs H2=>Q (x::xs) H2
section
variable {X:Cx} {e:Expr} {es:List Expr} {te:TE} {t:TA} {pos:Pos}
theorem ae:PA X [] tNil:=λ _ _ _ _ H Q I h=>Calls.spliced_nil ⟨[],H,I,.nil,h⟩
theorem aa (ha:PE X e te) (hr:PA X es t) (hs:starEach (e::es) X.env=(false,eval e X.env)::starEach es X.env:=by rfl):PA X (e::es) (tCons te t):=by
 intro pos pins s σ H Q I h;rw [hs];show wpAny _ _ (spliced ((false,eval e X.env)::backTo pos (starEach es X.env))) _ _ s;refine Calls.spliced_cons (thn (ha pins s σ H _ I h) λ u s1 ⟨x,H1,I1,r1,q1⟩=>?_);exact thn (hr pos pins s1 σ H1 _ I1 q1) λ us s2 ⟨xs,H2,I2,r2,q2⟩=>⟨x::xs,H2,I2,.cons r1 r2,q2⟩
noncomputable def tTup (t:TA):TE:=λ σ H Q=>t σ H λ xs H1=>xs.length<=sizeLine/\∀ p,H1 p=none->Q (.ref p) (upd H1 p (.tup xs))
noncomputable def tLst (t:TA):TE:=λ σ H Q=>t σ H λ xs H1=>xs.length<=sizeLine/\∀ p,H1 p=none->Q (.ref p) (upd H1 p (.lst xs))
theorem bT {x1} (h:PA X es t):PE X (.Tuple es x1 pos) (tTup t):=by
 intro pins s σ H Q I hq;refine wpAny_Tuple_spliced (thn (h pos pins s σ H _ I hq) λ us s1 ⟨xs,H1,I1,r,z,q⟩=>⟨by rw [<- r.length];exact z,?_⟩);have hf:H1 s1.heap.objs.size=none:=I1.hok.fresh (cy _);refine ⟨.ref s1.heap.objs.size,upd H1 s1.heap.objs.size (.tup xs),I1.laid (t':=s1.toks) (λ b u e=>cu _ e) (cy _) ?_,rfl,q _ hf⟩;exact ⟨z,us,r,⟨_,cN _ rfl,rfl,_,rfl⟩⟩
theorem pe_lst (h:PA X es t):PE X (.List es pos) (tLst t):=by
 intro pins s σ H Q I hq;refine wpAny_List_spliced (thn (h pos pins s σ H _ I hq) λ us s1 ⟨xs,H1,I1,r,z,q⟩=>⟨by rw [<- r.length];exact z,?_⟩);have hf:H1 s1.heap.objs.size=none:=I1.hok.fresh (cy _);refine ⟨.ref s1.heap.objs.size,upd H1 s1.heap.objs.size (.lst xs),I1.laid (t':=s1.toks) (λ b u e=>cu _ e) (cy _) ?_,rfl,q _ hf⟩;exact ⟨z,us,0,r,cN _ rfl⟩
end
noncomputable abbrev Sp:=List V->Hp->VK->XK->Prop
noncomputable abbrev CXT:=List Env->Hp->Shared->XK->Value->Shared->Prop
structure Env0 (P:Program) (w:World) (K:W.Frag) (mg:Str->Option Value) (base:Heap) (A:Around) (outer:List Env) (s:Shared) (H:Hp):Prop where
 frames:A.frames=some outer
 mod:Mod K mg base
 bs:∀ b o,base.get? b=some o->s.heap.get? b=some o/\H b=none
 bsz:base.objs.size<=s.heap.objs.size
 funs:s.heap.FunFrames base outer
 frf:∀ b∈frs outer,H b=none
 hok:HOk P w H s.heap
 bare:AllBare s.gens
noncomputable def CE (outer:List Env) (P:Program) (w:World) (H:Hp) (s:Shared) (Q:VK) (u:Value) (s':Shared):Prop:=
 ∃ v H',s'.os=s.os/\AllBare s'.gens/\Un (frs outer) [] H H' s.heap s'.heap/\HOk P w H' s'.heap/\RelV v u/\Q v H'
noncomputable def CR (CX:CXT) (outer:List Env) (P:Program) (w:World) (H:Hp) (s:Shared) (Q:VK) (E:XK) (r:Result) (s':Shared):Prop:=
 match r with
 | .ok (.ret u)=>CE outer P w H s Q u s'
 | .ok _=>False
 | .error e=>CX outer H s E e s'
structure FnOk (P:Program) (w:World) (K:W.Frag) (mg:Str->Option Value) (base:Heap) (CX:CXT) (k:Nat) (f:Addr) (fd:FuncData) (ps:List Str) (sp:Sp):Prop where
 len:∀ vs H Q E,sp vs H Q E->vs.length=ps.length
 run:∀ (A:Around) (outer:List Env) (s:Shared) (H:Hp) (args:Args) (us:List Value) (vs:List V) (Q:VK) (E:XK),Room k A->Env0 P w K mg base A outer s H->BindsTo s fd args (ps.zip us)->Vals vs us->sp vs H Q E->
  codeAny (model P w) A (.call (.ref f) args) (CR CX outer P w H s Q E) s
theorem Env0.make {P:Program} {w:World} {K:W.Frag} {mg:Str->Option Value} {base:Heap} {A:Around} {outer:List Env} {s:Shared} {H:Hp} (e:Env0 P w K mg base A outer s H) (C:Addr) (us:List Value) (kw:List (Str × Value)) :
  Env0 P w K mg base (A.under (.builtin "type.__call__" ⟨.ref C::us,kw⟩)) outer s H:=⟨by first | exact e.frames | (simpa [Around.under,Code.envs,Code.isFrame,pushEnvs] using e.frames),e.mod,e.bs,e.bsz,e.funs,e.frf,e.hok,e.bare⟩
section
variable {X:Cx} {pins:List (Addr × Obj)} {σ:St} {H:Hp} {s s':Shared}
theorem Inv.env0 (I:Inv X pins σ H s):Env0 X.prog X.w X.K X.mg X.base X.A X.stack s H:=
 ⟨I.ok.frames,I.ok.mod,I.bs,cn I.ok.bsz I.sz,I.stack,I.stkFree,I.hok,I.bare⟩
theorem Inv.after {Q:VK} {u:Value} (I:Inv X pins σ H s) (h:CE X.stack X.prog X.w H s Q u s'):EP X pins σ Q u s':=by
 obtain ⟨v,H',os,bare,un,hok,r,q⟩:=h;obtain ⟨hh,g,d,t,os'⟩:=s';obtain rfl:os'=s.os:=os;exact ⟨v,H',I.call (h':=hh) (g':=g) (d':=d) (t':=t) (ch:=[]) un hok bare (λ b z=>absurd z (by simp)),r,q⟩
end
noncomputable def tCall (sp:Sp) (dvs:List V) (E:XK) (t:TA):TE:=λ σ H Q=>t σ H λ vs H1=>sp (vs++dvs) H1 Q E
inductive ItMeth (C:Addr) (m:Str) (sp:Sp) (dvs:List V) (E:XK) (t:TA) (σ:St) (Q:VK) (x:V) (H1:Hp):Prop
 | mk (a:_) (dx:_) (fs:_) (h1:x=.ref a) (h2:H1 a=some (.ins C dx fs)) (h3:fs.lookup m=none) (h4:t σ H1 λ vs H2=>sp (x::(vs++dvs)) H2 Q E):ItMeth C m sp dvs E t σ Q x H1
noncomputable def Binds (K:W.Frag) (fd:FuncData) (ps:List Str) (ds:List Value):Prop:=
 ∀ (s:Shared) (us:List Value),K.In s.heap->(us++ds).length=ps.length->BindsTo s fd ⟨us,[]⟩ (ps.zip (us++ds))
theorem Binds.all {K:W.Frag} {fd:FuncData} {ps:List Str} (h:∀ us:List Value,us.length=ps.length->bindArgs fd ⟨us,[]⟩=pure (ps.zip us)):Binds K fd ps []:=λ s us _ hl=>by
 rw [List.append_nil] at hl ⊢;exact .of_eq (h us hl)
noncomputable def bI (CX:CXT) (X:Cx) (E:XK):Prop:=∀ (pins:List (Addr × Obj)) (σ:St) (H:Hp) (s:Shared) (e:Value) (s':Shared),Inv X pins σ H s->CX X.stack H s E e s'->X.xe e s'
section
variable {X:Cx} {CX:CXT} {k:Nat} {f C:Addr} {fd:FuncData} {ps:List Str} {sp:Sp} {dvs:List V} {ds:List Value} {E:XK} {x m:Str} {p pos apos:Pos} {e o:Expr} {es:List Expr} {ta:TE} {t:TA}
theorem run_fn {pins:List (Addr × Obj)} {σ:St} {H:Hp} {s:Shared} {Q:VK} {us:List Value} {vs:List V} (F:FnOk X.prog X.w X.K X.mg X.base CX k f fd ps sp) (hr:Room k X.A) (hb:Binds X.K fd ps ds) (hd:Vals dvs ds) (hx:bI CX X E)
  (I:Inv X pins σ H s) (r:Vals vs us) (h:sp (vs++dvs) H Q E):wpAny (model X.prog X.w) X.A (call (.ref f) us) (EP X pins σ Q) X.xe s:=by
 have r2:Vals (vs++dvs) (us++ds):=r.append hd;have hl:(us++ds).length=ps.length:=by rw [<- r2.length];exact F.len _ _ _ _ h
 refine wpAny_call (codeAny_mono (F.run X.A X.stack s H ⟨us,[]⟩ (us++ds) (vs++dvs) Q E hr I.env0 (hb s us I.kIn hl) r2 h) λ r s' hq=>?_)
 cases r with
 | error e=>exact hx pins σ H s e s' I hq
 | ok fl=>
  cases fl with
  | ret u=>exact I.after hq
  | next=>exact False.elim hq
  | brk=>exact False.elim hq
  | cont=>exact False.elim hq
theorem pe_call (F:FnOk X.prog X.w X.K X.mg X.base CX k f fd ps sp) (hr:Room k X.A) (hg:Gl X x) (hm:X.mg x=some (.ref f)) (hk:PySem.W.keepIn X.K (.ref f)=true) (hb:Binds X.K fd ps ds) (hd:Vals dvs ds) (hx:bI CX X E)
  (ha:PA X (e::es) t) (hdb:(x == ("__debug__":Str))=false:=by decide) (he:starEach (e::es) X.env=(false,eval e X.env)::starEach es X.env:=by rfl) (hpl:(backTo pos (starEach es X.env)).any (·.1)=false:=by rfl) :
  PE X (.Call (.Name x p) (e::es) [] pos) (tCall sp dvs E t):=by
 intro pins s σ H Q I h;refine wpAny_Call_Name_kw (bN I hg hm ?_ hdb);refine PySem.W.callWith_K (h₀:=X.base) I.ok.mod.kin hk (thn (ha pos pins s σ H _ I h) λ us s1 ⟨vs,H1,I1,r,q⟩=>⟨I1.kIn,?_⟩) he hpl;exact run_fn F hr hb hd hx I1 r q
structure Mk (K:W.Frag) (C f:Addr):Prop where
 makes:PySem.W.makesIn K C=true
 init:PySem.W.findIn K (.ref C) "__init__"=some (some (.ref f))
 fn:PySem.W.isFn K (.ref f)=true
 kp:PySem.W.keepIn K (.ref C)=true
theorem run_make {pins:List (Addr × Obj)} {σ:St} {H:Hp} {s:Shared} {Q:VK} {us:List Value} {vs:List V} (M:Mk X.K C f) (F:FnOk X.prog X.w X.K X.mg X.base CX k f fd ps sp) (hr:Room (k+1) X.A) (hb:Binds X.K fd ps ds) (hd:Vals dvs ds)
  (hx:bI CX X E) (I:Inv X pins σ H s) (r:Vals vs us)
  (h:∀ x dx,H x=none->H dx=none->dx≠x->sp (.ref x::(vs++dvs)) (upd (upd H dx (.own x)) x (.ins C dx [])) (λ v H2=>v=.non/\Q (.ref x) H2) E) :
  wpAny (model X.prog X.w) X.A (call (.ref C) us) (EP X pins σ Q) X.xe s:=by
 have hq:=h (s.heap.objs.size+1) s.heap.objs.size (I.hok.fresh (Nat.le_succ _)) (I.hok.fresh (cy _)) (cT (Nat.lt_succ_self _));have I2:=Inv.made (C:=C) I;have r2:Vals (V.ref (s.heap.objs.size+1)::(vs++dvs)) (Value.ref (s.heap.objs.size+1)::(us++ds)):=.cons rfl (r.append hd)
 have hl:(Value.ref (s.heap.objs.size+1)::us++ds).length=ps.length:=by
  have e:=r2.length;rw [F.len _ _ _ _ hq] at e;exact e.symm
 refine wpAny_call (make_map (f:=f) I.kIn M.makes M.init (beq_iff_eq.mp M.fn) (codeAny_mono (F.run _ X.stack _ _ ⟨Value.ref (s.heap.objs.size+1)::us,[]⟩ (Value.ref (s.heap.objs.size+1)::(us++ds)) _ _ E (hr.make C us [])
  (I2.env0.make C us []) (hb _ (Value.ref (s.heap.objs.size+1)::us) I2.kIn hl) r2 hq) λ r s' hq'=>?_))
 cases r with
 | error e=>exact hx pins σ _ _ e s' I2 hq'
 | ok fl=>
  cases fl with
  | ret u=>
   obtain ⟨v,H',I3,rv,ev,q3⟩:=I2.after hq';subst ev;exact ⟨rv,⟨V.ref (s.heap.objs.size+1),H',I3,rfl,q3⟩⟩
  | next=>exact False.elim hq'
  | brk=>exact False.elim hq'
  | cont=>exact False.elim hq'
end
section
variable {X:Cx} {CX:CXT} {k:Nat} {f C:Addr} {fd:FuncData} {ps ks:List Str} {sp:Sp} {E:XK} {x m:Str} {p pos apos kpos:Pos} {e o:Expr} {es:List Expr} {kws:List Keyword} {te ta:TE} {t tk:TA} {nm:Option Str}
variable {g:List Value->List Value->List Value} {gV:List V->List V->List V}
end
structure FnScope (N P:List Str) (sc:Scope):Prop where
 kind:sc.kind=.function
 co:sc.isCoroutine=false
 gen:sc.isGenerator=false
 nd:N.Nodup
 pre:N.take P.length=P
 par:∀ x∈P,sc.names.lookup x=some .local∨sc.names.lookup x=some .cell
 nofree:∀ y∈sc.names,y.2≠.free
theorem bindL_out {kindOf:Str->Option NameKind} {x:Str}:∀ {binds:List (Str × Value)} {m:Str->Option Value},(∀ v,(x,v) ∉ binds)->bindL kindOf binds m x=m x
 | [],_,_=>rfl
 | (n,v)::r,m,h=>by
  unfold bindL;rw [bindL_out λ w hw=>h w (cK _ hw)]
  split
  ·have:x≠n:=by rintro rfl;exact h v cE
   simp [this]
  ·rfl
theorem bindC_out {kindOf:Str->Option NameKind} {x:Str}:∀ {binds:List (Str × Value)} {m:Str->Option Value},(∀ v,(x,v) ∉ binds)->bindC kindOf binds m x=m x
 | [],_,_=>rfl
 | (n,v)::r,m,h=>by
  unfold bindC;rw [bindC_out λ w hw=>h w (cK _ hw)]
  split
  ·rfl
  ·have:x≠n:=by rintro rfl;exact h v cE
   simp [this]
theorem bindL_get {kindOf:Str->Option NameKind} {x:Str} {v:Value}:∀ {P:List Str} {vs:List Value} {i:Nat} {m:Str->Option Value},P.Nodup->P[i]?=some x->vs[i]?=some v->kindOf x=some .local->
  bindL kindOf (P.zip vs) m x=some v
 | [],_,_,_,_,h,_,_=>by simp at h
 | _::_,[],_,_,_,_,h,_=>by simp at h
 | p::P,w::vs,0,m,nd,h1,h2,hk=>by
  simp at h1 h2;subst h1;subst h2;show bindL kindOf ((p,w)::P.zip vs) m p=_;unfold bindL;rw [bindL_out λ v hv=>(List.nodup_cons.mp nd).1 (List.of_mem_zip hv).1,if_pos hk];simp
 | p::P,w::vs,i+1,m,nd,h1,h2,hk=>by
  show bindL kindOf ((p,w)::P.zip vs) m x=_;unfold bindL;exact bindL_get (i:=i) (List.nodup_cons.mp nd).2 (by simpa using h1) (by simpa using h2) hk
theorem bindC_get {kindOf:Str->Option NameKind} {x:Str} {v:Value}:∀ {P:List Str} {vs:List Value} {i:Nat} {m:Str->Option Value},P.Nodup->P[i]?=some x->vs[i]?=some v->kindOf x≠some .local->
  bindC kindOf (P.zip vs) m x=some v
 | [],_,_,_,_,h,_,_=>by simp at h
 | _::_,[],_,_,_,_,h,_=>by simp at h
 | p::P,w::vs,0,m,nd,h1,h2,hk=>by
  simp at h1 h2;subst h1;subst h2;show bindC kindOf ((p,w)::P.zip vs) m p=_;unfold bindC;rw [bindC_out λ v hv=>(List.nodup_cons.mp nd).1 (List.of_mem_zip hv).1,if_neg hk];simp
 | p::P,w::vs,i+1,m,nd,h1,h2,hk=>by
  show bindC kindOf ((p,w)::P.zip vs) m x=_;unfold bindC;exact bindC_get (i:=i) (List.nodup_cons.mp nd).2 (by simpa using h1) (by simpa using h2) hk
noncomputable def ba (N:List Str) (vs:List V):St:=vs.map some++List.replicate (N.length-vs.length) none
noncomputable def aM (CX:CXT) (P:Program) (w:World) (K:W.Frag) (mg:Str->Option Value) (base:Heap) (N:List Str) (qual:Str) (scope:Scope) (f:Addr) (cd:Value) (A:Around) (outer:List Env) (s:Shared) (H:Hp) (E:XK):Cx where
 prog:=P
 w:=w
 K:=K
 mg:=mg
 base:=base
 A:=A.deeper (envOfC qual scope s.heap.objs.size f cd)
 N:=N
 s₀:=s
 H₀:=H
 env:=envOfC qual scope s.heap.objs.size f cd
 outer:=outer
 stack:=envOfC qual scope s.heap.objs.size f cd::outer
 ex:=[]
 calm:=true
 fn:=λ _=>true
 pn:=[]
 xe:=λ e s'=>wpAny (model P w) (A.deeper (envOfC qual scope s.heap.objs.size f cd)) (leaving (envOfC qual scope s.heap.objs.size f cd) e) (λ _ s''=>CX outer H s E e s'') (λ e' s''=>CX outer H s E e' s'') s'
theorem cell_has {sc:Scope} {n:Nat} {x:Str} (h:sc.names.lookup x=some .cell):∃ c,(cellsFrom n sc.names []).lookup x=some c:=by
 have q:=PySem.W.cellsFrom_some sc.names n [] (.inl h);exact Option.isSome_iff_exists.mp q
theorem inv_start {CX:CXT} {P:Program} {w:World} {K:W.Frag} {mg:Str->Option Value} {base:Heap} {N ps:List Str} {qual:Str} {scope:Scope} {f:Addr} {cd:Value} {A:Around} {outer:List Env} {s s1:Shared} {H:Hp} {E:XK} {us:List Value} {vs:List V}
  (S:FnScope N ps scope) (hd:A.handled=none) (e0:Env0 P w K mg base A outer s H) (hl:vs.length=ps.length) (r:Vals vs us)
  (x:InCallC s s.heap.objs.size (bindL (envOfC qual scope s.heap.objs.size f cd).kindOf (ps.zip us) λ _=>none) (cellsFrom (s.heap.objs.size+1) scope.names []) (bindC (envOfC qual scope s.heap.objs.size f cd).kindOf (ps.zip us) λ _=>none) s1) :
  Inv (aM CX P w K mg base N qual scope f cd A outer s H E) [] (ba N vs) H s1:=by
 have hpl:ps.length<=N.length:=by have:=congrArg List.length S.pre;rw [List.length_take] at this;omega
 obtain ⟨h1,tk,rfl,hk⟩:=x.done;have noA:∀ b:Addr,b ∉ (aM CX P w K mg base N qual scope f cd A outer s H E).ex:=λ b z=>absurd (show b∈([]:List Addr) from z) (by simp)
 refine ⟨⟨e0.mod,S.kind,rfl,rfl,cy _,λ y z c h1 h2=>?_,λ y hy=>?_,λ y c _ h=>?_,λ _=>hd,Around.frames_deeper e0.frames,.inr ⟨rfl,rfl⟩,λ b z=>absurd z (noA b),e0.bs,e0.bsz,λ b _ _=>noA b,λ b z=>absurd z (noA b),e0.funs,e0.frf⟩,
  rfl,e0.bare,Un.kept hk,⟨_,x.toInCall.ns,λ i y v h1 h2 h3=>?_⟩,λ y c h=>⟨_,x.cell y c h⟩,e0.hok.fresh (cy _),λ y c h=>?_,λ p hp=>absurd (show p∈([]:List (Addr × Obj)) from hp) (by simp),e0.hok.kept hk,?_⟩
 ·exact name_of_addr x.apart (cX h1) (cX h2)
 ·have hy:scope.names.lookup y=some .cell∨scope.names.lookup y=some .free:=hy;rcases hy with hy | hy
  ·exact cell_has hy
  ·exact absurd rfl (S.nofree _ (cX hy))
 ·exact Nat.le_of_lt (x.above y c (cX h))
 ·have hi:i<vs.length:=by
   unfold ba at h2;by_cases hi:i<vs.length
   ·exact hi
   ·rw [List.getElem?_append_right (by simpa using hi)] at h2;rw [List.getElem?_replicate] at h2
    split at h2 <;> cases h2
  have ha:vs[i]?=some v:=by
   unfold ba at h2;rw [List.getElem?_append_left (by simpa using hi),List.getElem?_map] at h2
   cases e:vs[i]? with
   | none=>rw [e] at h2;cases h2
   | some a=>rw [e] at h2;cases h2;rfl
  obtain ⟨u,hu,rv⟩:=r.get ha
  have hp:ps[i]?=some y:=by
   rw [<- S.pre,List.getElem?_take_of_lt (by omega)];exact h1
  have ndP:ps.Nodup:=by rw [<- S.pre];exact S.nd.sublist (List.take_sublist _ _)
  refine ⟨u,rv,?_⟩;rcases S.par y (List.mem_of_getElem? hp) with k | k
  ·exact .inl ⟨k,bindL_get ndP hp hu k⟩
  ·obtain ⟨c,e⟩:=cell_has (n:=s.heap.objs.size+1) k;refine .inr ⟨.inl k,c,e,?_⟩;have q:=x.cell y c e;rw [bindC_get ndP hp hu (by show scope.names.lookup y≠_;rw [k];decide)] at q;exact q
 ·exact e0.hok.fresh (Nat.le_of_lt (x.above y c (cX h)))
 ·unfold ba;show _=N.length;rw [cZ,cA,List.length_replicate];omega
theorem fn_of {CX:CXT} {P:Program} {w:World} {K:W.Frag} {mg:Str->Option Value} {base:Heap} {k:Nat} {f:Addr} {name qual:Str} {params:Arguments} {body:List Stmt} {scope:Scope} {dV kV doc pm cdv ct oc:Value} {an od:Option Addr}
  {osl:Array (Option Value)} {N ps:List Str} {sp:Sp} (lk:K.lookup f=some ⟨oc,od,.func (PySem.W.fnOf name qual params body scope dV kV doc pm an cdv ct),osl⟩) (hcd:PySem.W.codeIn K cdv qual=true) (S:FnScope N ps scope)
  (len:∀ vs H Q E,sp vs H Q E->vs.length=ps.length)
  (hbody:∀ (A:Around) (outer:List Env) (s:Shared) (H:Hp) (vs:List V) (Q:VK) (E:XK),Room k (A.deeper (envOfC qual scope s.heap.objs.size f cdv))->sp vs H Q E->
   ∃ t,PSs (aM CX P w K mg base N qual scope f cdv A outer s H E) body t/\t { nx:=λ _ H'=>Q .non H',rt:=Q } (ba N vs) H) :
  FnOk P w K mg base CX (k+1) f (PySem.W.fnOf name qual params body scope dV kV doc pm an cdv ct) ps sp:=by
 refine ⟨len,λ A outer s H args us vs Q E hr e0 hb r hsp=>?_⟩;have hl:=len _ _ _ _ hsp;have KX:K.In s.heap:=e0.mod.kin.keeps λ b o e=>(e0.bs b o e).1;have lim:s.heap.NoLimit:=e0.mod.nolimit.keeps λ b o e=>(e0.bs b o e).1
 have hkind:∀ y∈ps.zip us,scope.names.lookup y.1=some .local∨(scope.names.lookup y.1=some .cell/\((cellsFrom (s.heap.objs.size+1) scope.names []).lookup y.1).isSome=true):=λ⟨n,v⟩ hy=>by
  rcases S.par n (List.of_mem_zip hy).1 with q | q
  ·exact .inl q
  ·exact .inr ⟨q,PySem.W.cellsFrom_some _ _ _ (.inl q)⟩
 refine codeAny_call_function hr.depth (KX _ _ lk) rfl S.co S.gen rfl (PySem.W.codeRec_of KX hcd) (hb _ _ _ _ ?_);refine wpAny_newFunctionEnv_cells S.kind hkind λ env he s1 x=>?_;subst he;refine ⟨lim.keeps x.toInCall.keep,codeAny_func ?_⟩;obtain ⟨t,ht,hq⟩:=hbody A outer s H vs Q E (hr.deeper _) hsp;have I:Inv (aM CX P w K mg base N qual scope f cdv A outer s H E) [] (ba N vs) H s1:=inv_start S hr.hd e0 hl r x;refine db (ht [] s1 (ba N vs) H _ I hq) (λ fl s' hs=>?_) λ e s' hs=>hs
 have fin:∀ {σ':St} {H':Hp} {v:V} {u:Value},Inv (aM CX P w K mg base N qual scope f cdv A outer s H E) [] σ' H' s'->RelV v u->Q v H'->CE outer P w H s Q u s':=
  λ {σ' H' v u} J rv q=>⟨v,H',J.os,J.bare,J.base,J.hok,rv,q⟩
 cases fl with
 | ret u=>
  obtain ⟨v,σ',H',J,rv,q⟩:=hs;exact fin J rv q
 | next=>
  obtain ⟨σ',H',J,q⟩:=hs;exact fin (v:=V.non) (u:=Value.none) J rfl q
 | brk=>
  obtain ⟨_,_,_,q⟩:=hs;exact False.elim q
 | cont=>
  obtain ⟨_,_,_,q⟩:=hs;exact False.elim q
end L2
namespace L2
open PySem PySem.Spec PyProof.Rows
section
variable {X:Cx} {x:Str} {p pos:Pos} {e:Expr} {es:List Expr} {t:TA} {id T:String} {r:List V->Hp->VK->Prop}
noncomputable def tCB (r:List V->Hp->VK->Prop) (t:TA):TE:=λ σ H Q=>t σ H λ vs H1=>r vs H1 Q
theorem ao (hc:bJ X (.builtin id) r) (hg:Gl X x) (hm:X.mg x=none) (hv:bootBuiltins x=some (.builtin id)) (ha:PA X (e::es) t) (hn:x≠"__name__":=by decide) (hdb:(x == ("__debug__":Str))=false:=by decide)
  (he:starEach (e::es) X.env=(false,eval e X.env)::starEach es X.env:=by rfl) (hpl:(backTo pos (starEach es X.env)).any (·.1)=false:=by rfl):PE X (.Call (.Name x p) (e::es) [] pos) (tCB r t):=by
 intro pins s σ H Q I h;refine wpAny_Call_Name_kw (ld_blt I hg hm hv ?_ hn hdb);exact PyProof.Rows.callWith_builtin1 (thn (ha pos pins s σ H _ I h) λ us s1 ⟨vs,H1,I1,r1,q1⟩=>hc pins s1 σ H1 vs us Q I1 r1 q1) he hpl
theorem aJ (hc:bJ X (.type T) r) (hg:Gl X x) (hm:X.mg x=none) (hv:bootBuiltins x=some (.type T)) (ha:PA X (e::es) t) (hn:x≠"__name__":=by decide) (hdb:(x == ("__debug__":Str))=false:=by decide)
  (he:starEach (e::es) X.env=(false,eval e X.env)::starEach es X.env:=by rfl) (hpl:(backTo pos (starEach es X.env)).any (·.1)=false:=by rfl):PE X (.Call (.Name x p) (e::es) [] pos) (tCB r t):=by
 intro pins s σ H Q I h;refine wpAny_Call_Name_kw (ld_blt I hg hm hv ?_ hn hdb);exact PyProof.Rows.callWith_type1 (thn (ha pos pins s σ H _ I h) λ us s1 ⟨vs,H1,I1,r1,q1⟩=>hc pins s1 σ H1 vs us Q I1 r1 q1) he hpl
end
end L2
namespace HT
open PySem PyProof.Rows
noncomputable def lexLt:List Int->List Int->Bool
 | [],[]=>false
 | [],_::_=>true
 | _::_,[]=>false
 | x::xs,y::ys=>if x=y then lexLt xs ys else decide (x<y)
section
open PySem.SeqAt
open PySem.AutoSeq1 (wpAny_loadPart')
open PySem.MeetsSeq PySem.MeetsSeq2 PySem.MeetsSeq3
end
section
variable {prog:Program} {w:World} {A:Around} {E:Value->Shared->Prop} {s:Shared}
noncomputable def sIx (n d:Nat):Option Int->Nat
 | none=>d
 | some v=>if v<0 then (v+(n:Int)).toNat else min v.toNat n
theorem sIx_nat (n d k:Nat):sIx n d (some (k:Int))=min k n:=by
 show (if (k:Int)<0 then ((k:Int)+(n:Int)).toNat else min (k:Int).toNat n)=min k n;rw [if_neg (by omega),Int.toNat_natCast]
end
end HT
namespace L2
open PySem PySem.Spec PyProof.Rows
noncomputable abbrev TO:=St->Hp->(Option Int->Hp->Prop)->Prop
noncomputable def PO (X:Cx) (e:Option Expr) (t:TO):Prop:=
 ∀ (pins:List (Addr × Obj)) (s:Shared) (σ:St) (H:Hp) (Q:Option Int->Hp->Prop),Inv X pins σ H s->t σ H Q->
  wpAny (model X.prog X.w) X.A (evalPart e X.env) (λ u s'=>∃ o H',Inv X pins σ H' s'/\IsPart u o/\Q o H') X.xe s
noncomputable def tNoPart:TO:=λ _ H Q=>Q none H
noncomputable def tPart (t:TE):TO:=λ σ H Q=>t σ H λ x H1=>∃ i,x=.int i/\Q (some i) H1
section
variable {X:Cx} {e:Expr} {te:TE} {lo hi:Option Expr} {tl th:TO} {pos p2:Pos}
theorem br:PO X none tNoPart:=by
 intro pins s σ H Q I h;rw [evalPart_none];exact cJ ⟨none,H,I,.none,h⟩
theorem a6 (h:PE X e te):PO X (some e) (tPart te):=by
 intro pins s σ H Q I hw;rw [evalPart_some];refine thn (h pins s σ H _ I hw) λ u s1 ⟨x,H1,I1,r1,q1⟩=>?_;obtain ⟨i,rfl,q⟩:=q1;obtain ⟨t,rfl⟩:=r1;exact ⟨some i,H1,I1,.int i t,q⟩
noncomputable def SlR (X:Cx) (r:V->Option Int->Option Int->Hp->VK->Prop):Prop:=
 ∀ (pins:List (Addr × Obj)) (s:Shared) (σ:St) (H:Hp) (x:V) (v vl vu:Value) (lo hi:Option Int) (sl:Addr) (Q:VK),Inv X pins σ H s->RelV x v->s.heap.IsSliceOf sl vl vu .none->IsPart vl lo->IsPart vu hi->r x lo hi H Q->
  ∃ T id,typeLookup (.type T) "__getitem__"=pure (some (.builtin id))/\s.TypeIs v T/\wpAny (model X.prog X.w) X.A (getItem v (.ref sl)) (EP X pins σ Q) X.xe s
noncomputable def tSl (r:V->Option Int->Option Int->Hp->VK->Prop) (te:TE) (tl th:TO):TE:=λ σ H Q=>te σ H λ x H1=>tl σ H1 λ l H2=>th σ H2 λ u H3=>r x l u H3 Q
theorem aZ {r:V->Option Int->Option Int->Hp->VK->Prop} (hr:SlR X r) (he:PE X e te) (hl:PO X lo tl) (hu:PO X hi th):PE X (.Subscript e (.Slice lo hi none p2) pos) (tSl r te tl th):=by
 intro pins s σ H Q I h;refine Subscript_ (thn (he pins s σ H _ I h) λ v s1 ⟨x,H1,I1,r1,q1⟩=>?_);refine wpAny_Slice (thn (hl pins s1 σ H1 _ I1 q1) λ vl s2 ⟨l,H2,I2,pl,q2⟩=>thn (hu pins s2 σ H2 _ I2 q2) λ vu s3 ⟨u,H3,I3,pu,q3⟩=>?_);rw [evalPart_none];refine cJ ?_;have I4:Inv X pins σ H3 { s3 with heap:=s3.heap.push { cls:=.type "slice",data:=.fields #[vl,vu,.none] } }:=I3.kept (t':=s3.toks) λ b ob q=>cu _ q;obtain ⟨T,id,hT,ht,hg⟩:=hr pins { s3 with heap:=s3.heap.push { cls:=.type "slice",data:=.fields #[vl,vu,.none] } } σ H3 x v vl vu l u s3.heap.objs.size Q I4 r1 (Heap.IsSliceOf.new ..) pl pu q3;show wpAny (model X.prog X.w) X.A (subscriptTail e (.Slice lo hi none p2) v (.ref s3.heap.objs.size)) (EP X pins σ Q) X.xe { s3 with heap:=s3.heap.push { cls:=.type "slice",data:=.fields #[vl,vu,.none] } };exact tail_any (ops:=[.ref s3.heap.objs.size,v]) ht hT hg (by with_unfolding_all rfl)
noncomputable def cutV (xs:List V) (lo hi:Option Int):List V:=(xs.drop (HT.sIx xs.length 0 lo)).take (HT.sIx xs.length xs.length hi-HT.sIx xs.length 0 lo)
theorem cutV_length (xs:List V) (lo hi:Option Int):(cutV xs lo hi).length<=xs.length:=by
 unfold cutV;rw [List.length_take,List.length_drop];omega
end
end L2
namespace L2
open PySem PySem.Spec PyProof.Rows
noncomputable def ixN (n:Nat) (i:Int):Option Nat:=if 0<=i then (if i<n then some i.toNat else none) else if -(n:Int)<=i then some (i+n).toNat else none
noncomputable def atI {α:Type} (xs:List α) (i:Int):Option α:=(ixN xs.length i).bind λ j=>xs[j]?
theorem ixN_seq {n:Nat} {i:Int} {j:Nat} (h:ixN n i=some j):seqIndex? i n=some j/\j<n/\-(n:Int)<=i/\i<n:=by
 unfold ixN at h;by_cases h0:0<=i
 ·rw [if_pos h0] at h;by_cases h1:i<n
  ·rw [if_pos h1] at h;have e:i.toNat=j:=cU h;exact ⟨by rw [seqIndex_of h0 h1,e],by omega,by omega,h1⟩
  ·rw [if_neg h1] at h;cases h
 ·rw [if_neg h0] at h;by_cases h1:-(n:Int)<=i
  ·rw [if_pos h1] at h;have e:(i+n).toNat=j:=cU h;exact ⟨by rw [seqIndex_neg (by omega) h1,e],by omega,h1,by omega⟩
  ·rw [if_neg h1] at h;cases h
theorem atI_get {α:Type} {xs:List α} {i:Int} {v:α} (h:atI xs i=some v):∃ j,seqIndex? i xs.length=some j/\xs[j]?=some v/\j<xs.length/\-(xs.length:Int)<=i/\i<xs.length:=by
 unfold atI at h
 cases e:ixN xs.length i with
 | none=>rw [e] at h;cases h
 | some j=>
  rw [e] at h;obtain ⟨h1,h2,h3,h4⟩:=ixN_seq e;exact ⟨j,h1,h,h2,h3,h4⟩
theorem cm {α:Type} {xs:List α} {j:Nat} {v:α} (h:xs[j]?=some v):atI xs (j:Int)=some v:=by
 have hj:j<xs.length:=(cI.mp h).1
 have e:ixN xs.length (j:Int)=some j:=by
  unfold ixN;rw [if_pos (by omega),if_pos (by omega)];simp
 unfold atI;rw [e];exact h
noncomputable def PlainIx (b:Expr):Prop:=∀ o i,subscripted b false o i=operate [o,i] (getItem o i)
noncomputable def IxR (X:Cx) (r:R2):Prop:=
 ∀ (value slice:Expr) (pins:List (Addr × Obj)) (s:Shared) (σ:St) (H:Hp) (x y:V) (v u:Value) (Q:VK),Inv X pins σ H s->RelV x v->RelV y u->r x y H Q->
  subscripted slice false v u=operate [v,u] (getItem v u)->wpAny (model X.prog X.w) X.A (subscriptTail value slice v u) (EP X pins σ Q) X.xe s
noncomputable def MtR (X:Cx) (id:String) (r:V->List V->Hp->VK->Prop):Prop:=
 ∀ (pins:List (Addr × Obj)) (s:Shared) (σ:St) (H:Hp) (x:V) (xs:List V) (v:Value) (us:List Value) (Q:VK),Inv X pins σ H s->RelV x v->Vals xs us->r x xs H Q->
  wpAny (model X.prog X.w) X.A (call (.builtin id) (v::us)) (EP X pins σ Q) X.xe s
section
variable {X:Cx} {a b:Expr} {ta tb:TE} {pos:Pos}
theorem aO {r:R2} (hr:IxR X r) (ha:PE X a ta) (hb:PE X b tb) (hs:PlainIx b):PE X (.Subscript a b pos) (tOp r ta tb):=by
 intro pins s σ H Q I h;exact Subscript_ (binT ha hb I h λ v u s2 x y H2 I2 rx ry q=>hr a b pins s2 σ H2 x y v u Q I2 rx ry q (hs _ _))
inductive IrIxL (K:W.Frag) (x:V) (y:V) (H:Hp) (Q:VK):Prop
 | mk (p:_) (xs:_) (i:_) (v:_) (h1:x=.ref p) (h2:y=.int i) (h3:SqL K H p xs) (h4:atI xs i=some v) (h5:Q v H):IrIxL K x y H Q
noncomputable def rIxL (K:W.Frag):R2:=λ x y H Q=>IrIxL K x y H Q
inductive IrIxT (K:W.Frag) (x:V) (y:V) (H:Hp) (Q:VK):Prop
 | mk (p:_) (xs:_) (i:_) (v:_) (h1:x=.ref p) (h2:y=.int i) (h3:SqT K H p xs) (h4:atI xs i=some v) (h5:Q v H):IrIxT K x y H Q
noncomputable def rIxT (K:W.Frag):R2:=λ x y H Q=>IrIxT K x y H Q
noncomputable def rIxS:R2:=λ x y H Q=>∃ z i c,x=.str z/\y=.int i/\z.length<=sizeLine/\atI z.cps.toList i=some c/\Q (.str ⟨#[c]⟩) H
theorem aR:IxR X (rIxL X.K):=by
 intro value slice pins s σ H x y v u Q I rx ry h hs;obtain ⟨p,xs,i,z,rfl,rfl,hq,he,q⟩:=h
 cases rx;obtain ⟨t,rfl⟩:=ry;obtain ⟨its,r,pl,hz⟩:=I.list hq;obtain ⟨j,h1,h2,h3,h4,h5⟩:=atI_get he;obtain ⟨w,ew,rw'⟩:=r.get h2;have hl:=r.length;have hn:=line63;have fin:EP X pins σ Q w s:=⟨z,H,I,rw',q⟩;by_cases h0:0<=i
 ·have hj:i.toNat=j:=by
   rw [seqIndex_of h0 h5] at h1;exact cU h1
  exact item_listR pl.isList h0 (by omega) (by rw [hj];simpa using ew) fin hs
 ·have hj:(i+(its.toArray.size:Int)).toNat=j:=by
   rw [seqIndex_neg (by omega) h4] at h1;rw [cz,<- hl];exact cU h1
  exact subscriptTail_builtinR (x:=w) pl.isList.typeIs slot_list_getitem.lookup
   (wpAny_getItem_list_neg (Q:=λ r s'=>r=w/\EP X pins σ Q r s') pl.isList (by omega) (by rw [cz] <;> omega) (by omega) (by rw [hj];simpa using ew) ⟨rfl,fin⟩) hs
theorem bw:IxR X (rIxT X.K):=by
 intro value slice pins s σ H x y v u Q I rx ry h hs;obtain ⟨p,xs,i,z,rfl,rfl,hq,he,q⟩:=h
 cases rx;obtain ⟨t,rfl⟩:=ry;obtain ⟨its,r,pl,hz⟩:=I.tuple hq;obtain ⟨j,h1,h2,h3,h4,h5⟩:=atI_get he;obtain ⟨w,ew,rw'⟩:=r.get h2;have hl:=r.length;have hn:=line63;have fin:EP X pins σ Q w s:=⟨z,H,I,rw',q⟩
 exact subscriptTail_builtinR (x:=w) pl.typeIs slot_tuple_getitem.lookup
  (getItem_tuple (j:=j) (Q:=λ r s'=>r=w/\EP X pins σ Q r s') pl (by omega) (by omega) (by rw [cz,<- hl];exact h1) (by simpa using ew) ⟨rfl,fin⟩) hs
theorem ix_str:IxR X rIxS:=by
 intro value slice pins s σ H x y v u Q I rx ry h hs;obtain ⟨z,i,c,rfl,rfl,hz,he,q⟩:=h;obtain ⟨t,rfl⟩:=rx;obtain ⟨t',rfl⟩:=ry;obtain ⟨j,h1,h2,h3,h4,h5⟩:=atI_get he;have hl:z.cps.toList.length=z.length:=by simp [Str.length]
 rw [hl] at h1 h4 h5;have hn:=line63
 exact tail_any (c8 s z t) slot_str_getitem.lookup (getItem_str (c:=c) (by
  have e1:decide (i < -(2 ^ 63:Int))=false:=cv (by omega);have e2:decide (i ≥ 2 ^ 63)=false:=cv (by omega);rw [e1,e2,Bool.or_false]) (by rw [h1];simpa using h2) ⟨.str ⟨#[c]⟩,H,I.tok _,⟨_,rfl⟩,q⟩) hs
theorem mapSeq_set (its:List Value) (n j:Nat) (u:Value):Obj.mapSeq (·.setIfInBounds j u) { cls:=.type "list",data:=.seq its.toArray n } = { cls:=.type "list",data:=.seq (its.set j u).toArray n }:=by
 simp [Obj.mapSeq]
theorem Inv.lst {pins:List (Addr × Obj)} {σ:St} {H:Hp} {s:Shared} {p:Addr} {xs:List V} (I:Inv X pins σ H s) (h:H p=some (.lst xs)) :
  ∃ (its:List Value) (n:Nat),Vals xs its/\s.heap.get? p=some { cls:=.type "list",data:=.seq its.toArray n }/\xs.length<=sizeLine:=by
 obtain ⟨z,its,n,r,e⟩:=I.hok p _ h;exact ⟨its,n,r,e,z⟩
theorem Inv.lstUpd {pins:List (Addr × Obj)} {σ:St} {H:Hp} {s:Shared} {p:Addr} {xs ys:List V} {its its':List Value} {n n':Nat} {f:Obj->Obj} (I:Inv X pins σ H s) (h:H p=some (.lst xs))
  (ho:s.heap.get? p=some { cls:=.type "list",data:=.seq its.toArray n }) (hf:f { cls:=.type "list",data:=.seq its.toArray n } = { cls:=.type "list",data:=.seq its'.toArray n' }) (r:Vals ys its') (hz:ys.length<=sizeLine) (t:Nat) :
  Inv X pins σ (upd H p (.lst ys)) { s with heap:=s.heap.update p f,toks:=t }:=by
 have e:(s.heap.update p f).get? p=some { cls:=.type "list",data:=.seq its'.toArray n' }:=by
  rw [Heap.get?_update_self f ho (by rw [hf] <;> rfl),hf]
 refine I.write (x:=p) (e:=p) (by rw [h];trivial) (.inl rfl) (λ b u hb q=>(c7 _ _ (Ne.symm hb)).trans q) ⟨_,e⟩ ?_;exact ⟨hz,its',n',r,e⟩
noncomputable def rSetL:V->V->V->Hp->(Hp->Prop)->Prop:=λ o i v H Q=>∃ p xs k j,o=.ref p/\i=.int k/\H p=some (.lst xs)/\ixN xs.length k=some j/\Q (upd H p (.lst (xs.set j v)))
theorem set_list:PSet X rSetL:=by
 intro pins s σ H o i v ov iv u Q I ro ri rv h;obtain ⟨p,xs,k,j,rfl,rfl,hp,hj,q⟩:=h
 cases ro;obtain ⟨t,rfl⟩:=ri;obtain ⟨its,n,r,ho,hz⟩:=I.lst hp;obtain ⟨h1,h2,h3,h4⟩:=ixN_seq hj;have hl:=r.length;have hn:=line63
 have I':Inv X pins σ (upd H p (.lst (xs.set j v))) { s with heap:=s.heap.update p (Obj.mapSeq (·.setIfInBounds j u)) }:=
  I.lstUpd hp ho (mapSeq_set its n j u) (r.set rv j) (by rw [List.length_set];exact hz) s.toks
 by_cases h0:0<=k
 ·have hk:k.toNat=j:=by
   rw [seqIndex_of h0 h4] at h1;exact cU h1
  exact PySem.W.ki_setAt ho h0 (by omega) (by rw [cz,<- hl];exact h4) (by rw [hk];exact ⟨_,I',q⟩)
 ·have hk:(k+(its.toArray.size:Int)).toNat=j:=by
   rw [seqIndex_neg (by omega) h3] at h1;rw [cz,<- hl];exact cU h1
  exact PySem.W.ki_setBack ho (by omega) (by rw [cz,<- hl];exact h3) (by omega) (by rw [hk];exact ⟨_,I',q⟩)
theorem slice_bounds (lo hi:Option Int) (n:Nat):(sliceBounds lo hi none n).1=((HT.sIx n 0 lo:Nat):Int)/\(sliceBounds lo hi none n).2.1=((HT.sIx n n hi:Nat):Int)/\(sliceBounds lo hi none n).2.2=1:=by
 refine ⟨?_,?_,rfl⟩
 ·cases lo with
  | none=>simp [sliceBounds,HT.sIx]
  | some i=>
   simp only [sliceBounds,HT.sIx,Option.getD_none,show (1:Int) > 0 by decide,if_true];by_cases h:i<0
   ·simp only [h,if_true] <;> omega
   ·simp only [h,if_false] <;> omega
 ·cases hi with
  | none=>simp [sliceBounds,HT.sIx]
  | some i=>
   simp only [sliceBounds,HT.sIx,Option.getD_none,show (1:Int) > 0 by decide,if_true];by_cases h:i<0
   ·simp only [h,if_true] <;> omega
   ·simp only [h,if_false] <;> omega
theorem slicePick_cut (its:List Value) (lo hi:Option Int):slicePick its.toArray lo hi none=((its.drop (HT.sIx its.length 0 lo)).take (HT.sIx its.length its.length hi-HT.sIx its.length 0 lo)).toArray:=by
 obtain ⟨h1,h2,h3⟩:=slice_bounds lo hi its.toArray.size;unfold slicePick;rw [h1,h2,h3];simp only [sliceRange_one,pick_run,cz] <;> rfl
inductive IrSlL (K:W.Frag) (x:V) (lo:Option Int) (hi:Option Int) (H:Hp) (Q:VK):Prop
 | mk (a:_) (xs:_) (h1:x=.ref a) (h2:SqL K H a xs) (h3:∀ p,H p=none->Q (.ref p) (upd H p (.lst (cutV xs lo hi)))):IrSlL K x lo hi H Q
noncomputable def rSlL (K:W.Frag):V->Option Int->Option Int->Hp->VK->Prop:=λ x lo hi H Q=>IrSlL K x lo hi H Q
theorem sl_list:SlR X (rSlL X.K):=by
 intro pins s σ H x v vl vu lo hi sl Q I rx hs pl pu h;obtain ⟨a,xs,rfl,hx,q⟩:=h
 cases rx;obtain ⟨its,r,ht,hz⟩:=I.list hx;have hlen:=r.length;refine ⟨"list",_,slot_list_getitem.lookup,ht.isList.typeIs,?_⟩;refine wpAny_getItem_list_slice ht.isList hs pl pu .none (by simp) ?_ (by rw [cz] <;> omega);rw [slicePick_cut,<- hlen];refine ⟨.ref s.heap.objs.size,_,I.laid (t':=s.toks) (o:=.lst (cutV xs lo hi)) (λ b ob q=>cu _ q) (cy _) ?_,rfl,q _ (I.hok.fresh (cy _))⟩;exact ⟨cn (cutV_length xs lo hi) hz,_,0,(r.drop (HT.sIx xs.length 0 lo)).take (HT.sIx xs.length xs.length hi-HT.sIx xs.length 0 lo),cN _ rfl⟩
noncomputable def a3:V->Bool
 | .non=>true
 | .bl _=>true
 | .int _=>true
 | .str _=>true
 | _=>false
noncomputable def eqV:V->V->Bool
 | .non,.non=>true
 | .bl a,.bl b=>a == b
 | .bl a,.int b=>(if a then 1 else 0) == b
 | .int a,.bl b=>a == (if b then 1 else 0)
 | .int a,.int b=>a == b
 | .str a,.str b=>a == b
 | _,_=>false
theorem eqAt_V {A:Around} {s:Shared} {y x:V} {u v:Value} (ry:RelV y u) (rx:RelV x v) (fy:a3 y=true) (fx:a3 x=true):SeqAt.EqAt A s u v (eqV y x):=by
 cases y with
 | non=>
  cases ry
  cases x with
  | non=>cases rx;exact SeqAt.EqAt.same _
  | bl b=>cases rx;exact SeqAt.EqAt.none_bool b
  | int b=>obtain ⟨t,rfl⟩:=rx;exact SeqAt.EqAt.none_int b t
  | str b=>obtain ⟨t,rfl⟩:=rx;exact SeqAt.EqAt.none_str b t
  | _=>exact absurd (show false=true from fx) cw
 | bl a=>
  cases ry
  cases x with
  | non=>cases rx;exact SeqAt.EqAt.bool_none a
  | bl b=>cases rx;exact SeqAt.EqAt.bool_bool a b
  | int b=>obtain ⟨t,rfl⟩:=rx;exact SeqAt.EqAt.bool_int a b t
  | str b=>obtain ⟨t,rfl⟩:=rx;exact SeqAt.EqAt.bool_str a b t
  | _=>exact absurd (show false=true from fx) cw
 | int a=>
  obtain ⟨t',rfl⟩:=ry
  cases x with
  | non=>cases rx;exact SeqAt.EqAt.int_none a t'
  | bl b=>cases rx;exact SeqAt.EqAt.int_bool a t' b
  | int b=>obtain ⟨t,rfl⟩:=rx;exact SeqAt.EqAt.int_int a t' b t
  | str b=>obtain ⟨t,rfl⟩:=rx;exact SeqAt.EqAt.int_str a t' b t
  | _=>exact absurd (show false=true from fx) cw
 | str a=>
  obtain ⟨t',rfl⟩:=ry
  cases x with
  | non=>cases rx;exact SeqAt.EqAt.str_none a t'
  | bl b=>cases rx;exact SeqAt.EqAt.str_bool a t' b
  | int b=>obtain ⟨t,rfl⟩:=rx;exact SeqAt.EqAt.str_int a t' b t
  | str b=>obtain ⟨t,rfl⟩:=rx;exact SeqAt.EqAt.str_str a t' b t
  | _=>exact absurd (show false=true from fx) cw
 | _=>exact absurd (show false=true from fy) cw
noncomputable def eqU (x:V) (u:Value):Bool:=match u with
 | .none=>eqV .non x
 | .bool b=>eqV (.bl b) x
 | .int i _=>eqV (.int i) x
 | .str z _=>eqV (.str z) x
 | _=>false
theorem eqU_of {x y:V} {u:Value} (r:RelV y u) (f:a3 y=true):eqU x u=eqV y x:=by
 cases y with
 | non=>cases r;rfl
 | bl b=>cases r;rfl
 | int i=>obtain ⟨t,rfl⟩:=r;rfl
 | str z=>obtain ⟨t,rfl⟩:=r;rfl
 | _=>exact absurd (show false=true from f) cw
theorem any_eqU {x:V}:∀ {xs:List V} {us:List Value},Vals xs us->xs.all a3=true->us.any (eqU x)=xs.any λ y=>eqV y x
 | _,_,.nil,_=>rfl
 | y::xs,u::us,.cons r t,f=>by
  rw [List.all_cons,cP] at f;rw [List.any_cons,List.any_cons,eqU_of r f.1,any_eqU t f.2]
theorem mem_eqAt {A:Around} {s:Shared} {x:V} {v:Value} (rx:RelV x v) (fx:a3 x=true):∀ {xs:List V} {us:List Value},Vals xs us->xs.all a3=true->∀ u∈us,SeqAt.EqAt A s u v (eqU x u)
 | _,_,.nil,_=>λ u hu=>by cases hu
 | y::xs,u::us,.cons r t,f=>λ u' hu=>by
  rw [List.all_cons,cP] at f;rcases cQ.mp hu with rfl | hu
  ·rw [eqU_of r f.1];exact eqAt_V r rx f.1 fx
  ·exact mem_eqAt rx fx t f.2 u' hu
noncomputable def inV (x:V) (xs:List V):Bool:=xs.any λ y=>eqV y x
noncomputable def rIn (K:W.Frag) (neg:Bool):R2:=λ x y H Q=>∃ p xs,y=.ref p/\(SqL K H p xs∨SqT K H p xs)/\a3 x=true/\xs.all a3=true/\Q (.bl (if neg then !inV x xs else inV x xs)) H
theorem op_in_seq:OpR X (compareOp .In) (rIn X.K false):=by
 intro pins s σ H x y v u Q I rx ry h;obtain ⟨p,xs,rfl,hq,fx,fs,q⟩:=h
 cases ry;rcases hq with hq | hq
 ·obtain ⟨its,r,pl,hz⟩:=I.list hq;refine SeqAt.in_listAt (eqU x) pl.isList (λ w hw=>mem_eqAt rx fx r fs w (by simpa using hw)) ⟨.bl _,H,I,rfl,?_⟩;rw [show its.toArray.any (eqU x)=its.any (eqU x) by simp,any_eqU r fs];exact q
 ·obtain ⟨its,r,pl,hz⟩:=I.tuple hq;refine SeqAt.in_tupleAt (eqU x) pl (λ w hw=>mem_eqAt rx fx r fs w (by simpa using hw)) ⟨.bl _,H,I,rfl,?_⟩;rw [show its.toArray.any (eqU x)=its.any (eqU x) by simp,any_eqU r fs];exact q
theorem call_len_seq:bJ X (.builtin "len") (λ xs H Q=>∃ p ys,xs=[.ref p]/\(SqL X.K H p ys∨SqT X.K H p ys)/\Q (.int ys.length) H):=by
 intro pins s σ H xs us Q I r h;obtain ⟨p,ys,rfl,hq,q⟩:=h;obtain ⟨u,rfl,rx⟩:=vals1 r
 cases rx;have hn:=line63;rcases hq with hq | hq
 ·obtain ⟨its,r',pl,hz⟩:=I.list hq;have hlen:=r'.length;exact Calls.call_len_list pl.isList (by simp only [cz] <;> omega) ⟨.int ys.length,H,I.tok _,⟨s.toks+1,by rw [cz,hlen]⟩,q⟩
 ·obtain ⟨its,r',pl,hz⟩:=I.tuple hq;have hlen:=r'.length;exact len_tuple pl (by simp only [cz] <;> omega) ⟨.int ys.length,H,I.tok _,⟨s.toks+1,by rw [cz,hlen]⟩,q⟩
theorem aU:bJ X (.builtin "len") (λ xs H Q=>∃ z,xs=[.str z]/\z.length<=sizeLine/\Q (.int z.length) H):=by
 intro pins s σ H xs us Q I r h;obtain ⟨z,rfl,hz,q⟩:=h;obtain ⟨u,rfl,t,rfl⟩:=vals1 r;have hn:=line63;exact len_str (by omega) ⟨.int z.length,H,I.tok _,⟨_,rfl⟩,q⟩
noncomputable def tyV (K:W.Frag) (T:String) (x:V) (H:Hp):Prop:=match x with
 | .str _=>T = "str"
 | .int _=>T = "int"
 | .ref p=>(T = "list"/\∃ xs,SqL K H p xs)∨(T = "tuple"/\∃ o,K.lookup p=some o/\o.cls=.type "tuple"/\o.dict=none)∨
   (T = "dict"/\((∃ kvs,H p=some (.dK kvs))∨∃ kvs,H p=some (.dT kvs)))∨(T = "set"/\∃ S n,H p=some (.set S n))
 | _=>False
theorem tyV_is {pins:List (Addr × Obj)} {σ:St} {H:Hp} {s:Shared} {T:String} {x:V} {v:Value} (I:Inv X pins σ H s) (r:RelV x v) (ty:tyV X.K T x H) :
  s.TypeIs v T/\∀ a,v=.ref a->∃ ob,s.heap.get? a=some ob/\ob.dict=none:=by
 cases x with
 | str z=>
  obtain ⟨t,rfl⟩:=r
  cases (show T = "str" from ty);exact ⟨c8 s z t,λ _ e=>nomatch e⟩
 | int i=>
  obtain ⟨t,rfl⟩:=r
  cases (show T = "int" from ty);exact ⟨typeIs_int s i t,λ _ e=>nomatch e⟩
 | ref p=>
  cases r;rcases ty with ⟨rfl,xs,hq⟩ | ⟨rfl,o,hk,hc,hd⟩ | ⟨rfl,hk⟩ | ⟨rfl,S,n,hk⟩
  ·obtain ⟨its,_,pl,_⟩:=I.list hq;refine ⟨pl.isList.typeIs,λ a e=>?_⟩
   cases e;obtain ⟨o,n,e,c,hd,_⟩:=pl;exact ⟨o,e,hd⟩
  ·refine ⟨⟨o,I.kIn p o hk,hc⟩,λ a e=>?_⟩
   cases e;exact ⟨o,I.kIn _ o hk,hd⟩
  ·have z:∃ o,s.heap.get? p=some o/\o.ExactDict:=by
    rcases hk with ⟨kvs,hk⟩ | ⟨kvs,hk⟩
    ·obtain ⟨_,_,_,_,o,_,_,e,ex,_⟩:=I.hok p _ hk;exact ⟨o,e,ex⟩
    ·obtain ⟨_,_,_,_,o,_,_,e,ex,_⟩:=I.hok p _ hk;exact ⟨o,e,ex⟩
   obtain ⟨o,e,ex⟩:=z;refine ⟨⟨o,e,ex.1⟩,λ a e2=>?_⟩
   cases e2;exact ⟨o,e,ex.2.1⟩
  ·obtain ⟨o,_,_,_,e,ex,_⟩:=I.hok p _ hk;refine ⟨⟨o,e,ex.1⟩,λ a e2=>?_⟩
   cases e2;exact ⟨o,e,ex.2.1⟩
 | _=>exact False.elim ty
noncomputable def tBM (K:W.Frag) (T:String) (r:V->List V->Hp->VK->Prop) (to:TE) (t:TA):TE:=λ σ H Q=>to σ H λ x H1=>tyV K T x H1/\t σ H1 λ xs H2=>r x xs H2 Q
variable {o e:Expr} {es:List Expr} {to:TE} {t:TA} {name:Str} {apos cpos:Pos} {T id:String} {r:V->List V->Hp->VK->Prop}
theorem pe_bm (pa:PlainAttrs T) (slot:Slot T name id) (hty:typeOf (.builtin id)=pure (.type "method_descriptor")) (hm:MtR X id r) (ho:PE X o to) (ha:PA X (e::es) t)
  (hbase:attributeBase o name X.env (eval o X.env)=eval o X.env:=by rfl)
  (hfew:((backTo cpos (starEach (e::es) X.env)).all (λ x=>!x.1) && (backToKw cpos (keywordEach [] X.env)).all (λ x=>x.1.isSome)
   && decide ((e::es).length+([]:List Keyword).length+(if ([]:List Keyword).isEmpty then 0 else 1)<30))=true:=by rfl)
  (hline:(apos.endLine == cpos.line)=true:=by rfl) (hs:starEach (e::es) X.env=(false,eval e X.env)::starEach es X.env:=by rfl) (hplain:(backTo cpos (starEach es X.env)).any (·.1)=false:=by rfl) :
  PE X (.Call (.Attribute o name apos) (e::es) [] cpos) (tBM X.K T r to t):=by
 intro pins s σ H Q I h;refine wpAny_Call_method_late hbase hfew hline rfl (thn (ho pins s σ H _ I h) λ v s1 ⟨x,H1,I1,r1,ty,q1⟩=>?_);obtain ⟨h1,h2⟩:=tyV_is I1 r1 ty;refine ⟨T,id,pa,slot,hty,h1,h2,?_⟩;have hA:=ha cpos pins s1 σ H1 _ I1 q1;rw [hs] at hA ⊢;refine Calls.callWith_builtin (by show (false || (backTo cpos (starEach es X.env)).any (·.1))=false;rw [hplain] <;> rfl) (Calls.evalArgs_plain ?_);exact thn hA λ us s2 ⟨vs,H2,I2,r2,q2⟩=>hm pins s2 σ H2 x vs v us Q I2 r1 r2 q2
end
end L2
namespace L2
open PySem PySem.Spec PyProof.Rows
noncomputable def MtM (X:Cx) (id:String) (r:V->List V->Hp->VK->Prop):Prop:=
 ∀ (pins:List (Addr × Obj)) (s:Shared) (σ:St) (H:Hp) (x:V) (xs:List V) (v:Value) (us:List Value) (Q:VK),Inv X pins σ H s->RelV x v->Vals xs us->r x xs H Q->
  wpAny (model X.prog X.w) X.A (call (.builtin id) (v::us)) (EP X pins σ Q) X.xe s
theorem Vals.one:∀ {x:V} {us:List Value},Vals [x] us->∃ u,us=[u]/\RelV x u
 | _,_,.cons r .nil=>⟨_,rfl,r⟩
section
variable {X:Cx} {pins:List (Addr × Obj)} {σ:St} {H:Hp} {s:Shared} {l b:Addr} {xs ys zs:List V}
theorem Inv.lset {its its':List Value} {n:Nat} {f:Array Value->Array Value} {t':Nat} (I:Inv X pins σ H s) (hH:H l=some (.lst xs))
  (e:s.heap.get? l=some { cls:=.type "list",data:=.seq its.toArray n }) (hf:f its.toArray=its'.toArray) (hv:Vals ys its') (hz:ys.length<=sizeLine) :
  Inv X pins σ (upd H l (.lst ys)) { s with heap:=s.heap.update l (Obj.mapSeq f),toks:=t' }:=by
 have q:=PySem.IsL.update e f;rw [hf] at q;refine I.write (x:=l) (e:=l) (by rw [hH];exact trivial) (.inl rfl) (λ b' u hb hu=>(c7 s.heap (Obj.mapSeq f) (Ne.symm hb)).trans hu) ⟨_,q⟩ ?_;exact ⟨hz,its',_,hv,q⟩
theorem Inv.lstM (I:Inv X pins σ H s) (hH:H l=some (.lst xs)):xs.length<=sizeLine/\∃ (its:List Value) (n:Nat),Vals xs its/\xs.length=its.length/\s.heap.get? l=some { cls:=.type "list",data:=.seq its.toArray n }:=by
 obtain ⟨z,its,n,r,e⟩:=I.hok l _ hH;exact ⟨z,its,n,r,r.length,e⟩
end
section
variable {X:Cx}
inductive IrAppend (x:V) (vs:List V) (H:Hp) (Q:VK):Prop
 | mk (l:_) (xs:_) (y:_) (h1:x=.ref l) (h2:vs=[y]) (h3:H l=some (.lst xs)) (h4:xs.length<sizeLine) (h5:Q .non (upd H l (.lst (xs++[y])))):IrAppend x vs H Q
noncomputable def rAppend:V->List V->Hp->VK->Prop:=λ x vs H Q=>IrAppend x vs H Q
theorem mt_append:MtM X "list.append" rAppend:=by
 intro pins s σ H x vs v us Q I rx rv h;obtain ⟨l,xs,y,rfl,rfl,hH,hz,q⟩:=h
 cases rx;obtain ⟨u,rfl,ru⟩:=rv.one;obtain ⟨z,its,n,r,hl,e⟩:=I.lstM hH;refine call_meets F.slot_list_append ⟨_,e,rfl⟩ F.entry_list_append (F.args_list_append_2 _ _) (PySem.list_append l its.toArray n u (by rw [cz];omega)) ⟨e,?_⟩;refine ⟨.non,_,I.lset (its':=its++[u]) hH e (by simp) (r.append (.cons ru .nil)) ?_,rfl,q⟩;rw [cZ,List.length_singleton];omega
inductive IrCat (x:V) (y:V) (H:Hp) (Q:VK):Prop
 | mk (l:_) (b:_) (xs:_) (zs:_) (h1:x=.ref l) (h2:y=.ref b) (h3:H l=some (.lst xs)) (h4:H b=some (.lst zs)) (h5:xs.length+zs.length<=sizeLine) (h6:∀ p,H p=none->Q (.ref p) (upd H p (.lst (xs++zs)))):IrCat x y H Q
end
section
variable {prog:Program} {w:World} {A:Around} {E:Value->Shared->Prop} {s:Shared}
end
section
variable {X:Cx}
end
end L2
namespace Att
open PySem PySem.W PySem.Calls PyProof.Rows
theorem ints_of_wellAll {P:Params} {h:Heap}:∀ (ns:List Int) (vs:List Value),WellAll P h vs (ns.map WData.int)->IntsAre vs ns:=by
 intro ns
 induction ns with
 | nil=>
  intro vs w;rw [List.map_nil] at w
  cases w;exact .nil
 | cons n ns ih=>
  intro vs w;rw [List.map_cons] at w
  cases w with
  | cons a b=>
   cases a;exact .cons _ _ (ih _ b)
theorem script_of {l:OpenLaw} {n:Nat} (hn:l.most=some n) {P:Params} {h:Heap} {args:List WData} {vals:List Value}
  (hpre:l.row.toRowW.claim.pre args=true) (hwl:WellAll P h vals args) :
  ∃ a vs ns,vals=[Value.ref a]/\args=[WData.list (ns.map WData.int)]/\h.get? a=some { cls:=.type "list",data:=.seq vs.toArray }/\IntsAre vs ns/\ns.length<=n:=by
 have hsh:WShape.hasAll [] args [.list .int]=true:=(pre_splitW hpre).1;have hc:l.pre.holds [] { args:=args }=true:=(pre_splitW hpre).2;obtain ⟨d,r,rfl,h1,h2⟩:=hasAllW_cons hsh;obtain rfl:=hasAllW_nil h2;obtain ⟨xs,rfl,h3⟩:=hasW_list h1;obtain ⟨ns,rfl⟩:=items_int h3
 have hlen:ns.length<=n:=by
  unfold OpenLaw.pre at hc
  have h4:(WTm.not (.lt (.lit (.int (n:Int))) (.len (.arg 0)))).holds [] { args:=[.list (ns.map .int)] }=true:=by
   have h4:=(holds_andW hc).1;rw [hn] at h4;exact h4
  have h5:=condW_of h4 (w_not (w_lt w_lit (w_len_list (w_arg rfl))));rw [cA] at h5;refine Nat.le_of_not_lt λ q=>?_;have q':(n:Int)<((ns.length:Nat):Int):=by omega
  first
   | (rw [cB q'] at h5;exact absurd h5 (by decide))
   | (simp at h5;omega)
 cases hwl with
 | cons w1 w2=>
  cases w2
  cases w1 with
  | list ho hall=>exact ⟨_,_,ns,rfl,rfl,ho,ints_of_wellAll ns _ hall,hlen⟩
theorem post_true (l:OpenLaw) (args:List WData):l.row.toRowW.claim.post args (.bool true) args=true:=
 postW_of (r:=l.row.toRowW) (X:=(true == true))
  (show WShape.has [] (.bool true) .bool=true by first | rfl | decide | simp [WShape.has,WShape.arms,WShape.armsAll])
  (show (WTm.eq .res (.lit (.bool true))).value [] { args:=args,res:=some (.bool true),after:=args }=some (.bool (true == true)) from w_eq_bool (w_res rfl) w_lit) rfl
section
variable {prog:Program} {w:World} {A:Around} {E:Value->Shared->Prop} {s:Shared} {K:Frag}
end
end Att
namespace L2
open PySem PySem.Spec PyProof.Rows
theorem vals_ints:∀ {vs:List Value} {ns:List Int},IntsAre vs ns->Vals (ns.map V.int) vs
 | _,_,.nil=>.nil
 | _,_,.cons n t h=>.cons ⟨t,rfl⟩ (vals_ints h)
noncomputable def Only (H:Hp):Prop:=∀ b,H b=none∨∃ o xs,H b=some (.frz o (.lst xs))
theorem law_call {P:Program} {w:World} {K:W.Frag} {mg mb:Str->Option Value} {CX:CXT} {k:Nat} {fa a:Addr} {fd:FuncData} {x:Str} {sp:Sp} {s₁:Shared} {vs:List Value} {ns:List Int}
  (KX:K.In s₁.heap) (hns:s₁.heap.Ns mainGlobals mg) (hb:s₁.heap.Ns builtinsNs mb) (hbb:∀ x:Str,x≠"__name__"->mb x=bootBuiltins x) (hlim:s₁.heap.NoLimit) (hg:s₁.gens = #[])
  (ha:s₁.heap.get? a=some { cls:=.type "list",data:=.seq vs.toArray }) (hi:IntsAre vs ns) (hl:ns.length<=sizeLine) (hr:Room k callerA)
  (F:∀ base:Heap,K.In base->base.Ns mainGlobals mg->FnOk P w K mg base CX k fa fd [x] sp) (hbind:∀ (s:Shared) (u:Value),BindsTo s fd ⟨[u],[]⟩ [(x,u)])
  (hsp:∀ H:Hp,Only H->SqL K H a (ns.map V.int)->sp [.ref a] H (λ v _=>v=.bl true) λ _ _ _=>False)
  (hCX:∀ H e s',CX [] H s₁ (λ _ _ _=>False) e s'->False) :
  codeAny (model P w) callerA (.call (.ref fa) ⟨[.ref a],[]⟩) (λ r s'=>r=.ok (.ret (.bool true))/\OldK s₁.heap s'.heap/\s'.os=s₁.os/\AllBare s'.gens) s₁:=by
 have rv:=vals_ints hi;have lenV:=hi.length
 have core:∀ H:Hp,Only H->SqL K H a (ns.map V.int)->HOk P w H s₁.heap->(∀ b,H b≠none->b=a)->(H a≠none->K.lookup a=none)->
   codeAny (model P w) callerA (.call (.ref fa) ⟨[.ref a],[]⟩) (λ r s'=>r=.ok (.ret (.bool true))/\OldK s₁.heap s'.heap/\s'.os=s₁.os/\AllBare s'.gens) s₁:=by
  intro H hO hS hok hA hK;have base_of:∀ {b:Addr} {o:Obj},s₁.heap.get? b=some o->H b=none->(hidT s₁.heap H).get? b=some o:=λ e n=>hidT_get e n
  have noA:∀ {b:Addr} {o:Obj} {es:Array DictEntry} {ep:Nat},s₁.heap.get? b=some o->o.data=.dict es ep->H b=none:=λ {b o es ep} e d=>by
   cases q:H b with
   | none=>rfl
   | some u=>
    have e':b=a:=hA b (by rw [q];simp);subst e';rw [ha] at e;cases e;have d':Data.seq vs.toArray _=Data.dict es ep:=d
    cases d'
  have nsK:∀ {b:Addr} {m:Str->Option Value},s₁.heap.Ns b m->(hidT s₁.heap H).Ns b m:=λ {b m} ⟨o,es,ep,e,d,r⟩=>⟨o,es,ep,base_of e (noA e d),d,r⟩
  have hKb:K.In (hidT s₁.heap H):=λ b o e=>base_of (KX b o e) (by
   cases q:H b with
   | none=>rfl
   | some u=>
    have e':b=a:=hA b (by rw [q];simp);subst e';rw [hK (by rw [q];simp)] at e;cases e)
  have hM:Mod K mg (hidT s₁.heap H):=⟨hKb,nsK hns,⟨mb,nsK hb,hbb⟩,let ⟨mc,h1,h2⟩:=hlim;⟨mc,nsK h1,h2⟩⟩;have e0:Env0 P w K mg (hidT s₁.heap H) callerA [] s₁ H:=⟨rfl,hM,λ b o e=>of_hidT e,Nat.le_of_eq (hidT_size _ _),trivial,λ b hb=>absurd (show b∈([]:List Addr) from hb) (by simp),hok,.of_eq hg⟩;refine codeAny_mono ((F _ hKb (nsK hns)).run callerA [] s₁ H ⟨[.ref a],[]⟩ [.ref a] [.ref a] _ _ hr e0 (hbind s₁ (.ref a)) (.cons rfl .nil) (hsp H hO hS)) λ r s' h=>?_
  cases r with
  | error e=>exact (hCX H e s' h).elim
  | ok fl=>
   cases fl with
   | next=>exact False.elim h
   | brk=>exact False.elim h
   | cont=>exact False.elim h
   | ret u=>
    obtain ⟨v,H',os,bare,un,hok',r',q⟩:=h;have q':v=.bl true:=q;subst q';obtain rfl:u=Value.bool true:=r';refine ⟨rfl,OldK.of_keep λ b o e=>?_,os,bare⟩
    cases q:H b with
    | none=>exact un.keep b o e q (by intro z;exact absurd (show b∈([]:List Addr) from z) (by simp)) (by simp)
    | some u=>
     rcases hO b with z | ⟨ob,xs,z⟩
     ·rw [q] at z;cases z
     ·have z2:=un.frzs b ob _ z;obtain ⟨e1,_⟩:=hok b _ z;obtain ⟨e2,_⟩:=hok' b _ z2;rw [e] at e1;cases e1;exact e2
 cases hk:K.lookup a with
 | some o=>
  have e:=KX a o hk;rw [ha] at e
  cases e;refine core (λ _=>none) (λ _=>.inl rfl) (.inr ⟨_,vs.toArray,_,hk,rfl,rfl,rfl,by rw [cz,lenV];exact hl,by simpa using rv⟩) (λ b u z=>by have z':(none:Option HO)=some u:=z;cases z') (λ b z=>absurd rfl z) λ z=>absurd rfl z
 | none=>
  refine core (λ b=>if b=a then some (.frz { cls:=.type "list",data:=.seq vs.toArray } (.lst (ns.map V.int))) else none) (λ b=>?_) (.inl (.inr ⟨{ cls:=.type "list",data:=.seq vs.toArray },if_pos rfl⟩)) (λ b u z=>?_) (λ b z=>?_) λ _=>hk
  ·by_cases hb:b=a
   ·exact .inr ⟨_,_,if_pos hb⟩
   ·exact .inl (if_neg hb)
  ·by_cases hb:b=a
   ·have z':=(if_pos hb).symm.trans z
    cases z';subst hb;exact ⟨ha,by rw [cA];exact hl,vs,_,rv,ha⟩
   ·have z':=(if_neg hb).symm.trans z
    cases z'
  ·by_cases hb:b=a
   ·exact hb
   ·exact absurd (if_neg hb) z
end L2
namespace L2
open PySem PySem.Spec PyProof.Rows
end L2
namespace L2
open PySem PySem.Spec PyProof.Rows
noncomputable def inClass (s:Stmt) (j:Nat):Stmt:=match s with
 | .ClassDef _ _ _ body _ _ _ _ _ _ _=>body.getD j (.Pass ⟨0,0,0,0⟩)
 | _=>.Pass ⟨0,0,0,0⟩
noncomputable def aT (s:Stmt):Arguments:=match s with
 | .FunctionDef _ a _ _ _ _ _ _ _ _=>a
 | _=>{ posonlyargs:=[],args:=[],vararg:=none,kwonlyargs:=[],kw_defaults:=[],kwarg:=none,defaults:=[] }
noncomputable def aB (s:Stmt):List Stmt:=match s with
 | .FunctionDef _ _ b _ _ _ _ _ _ _=>b
 | _=>[]
noncomputable def af (s:Stmt):Scope:=match s with
 | .FunctionDef _ _ _ _ _ _ sc _ _ _=>sc
 | _=>{ kind:=.function,names:=[],isGenerator:=false,isCoroutine:=false }
noncomputable abbrev CX0:CXT:=λ _ _ _ _ _ _=>False
noncomputable abbrev E0:XK:=λ _ _ _=>False
theorem aG {X:Cx}:bI CX0 X E0:=λ _ _ _ _ _ _ _ h=>h.elim
structure Fun (K:W.Frag) (x qual:Str) (st:Stmt) (f:Addr) (fd:FuncData):Prop where
 ex:∃ (oc:Value) (od:Option Addr) (kV doc pm:Value) (an:Option Addr) (cdv ct:Value) (osl:Array (Option Value)),
  fd=PySem.W.fnOf x qual (aT st) (aB st) (af st) .none kV doc pm an cdv ct/\K.lookup f=some ⟨oc,od,.func fd,osl⟩/\PySem.W.codeIn K cdv qual=true
 kp:PySem.W.keepIn K (.ref f)=true
section
variable {P:Program} {w:World} {K:W.Frag} {mg:Str->Option Value} {base:Heap}
theorem Fun.ok {x qual:Str} {st:Stmt} {f:Addr} {fd:FuncData} {N ps:List Str} {k:Nat} {sp:Sp} (F:Fun K x qual st f fd) (S:FnScope N ps (af st)) (len:∀ vs H Q E,sp vs H Q E->vs.length=ps.length)
  (hbody:∀ (cdv:Value) (A:Around) (outer:List Env) (s:Shared) (H:Hp) (vs:List V) (Q:VK) (E:XK),Room k (A.deeper (envOfC qual (af st) s.heap.objs.size f cdv))->sp vs H Q E->
   ∃ t,PSs (aM CX0 P w K mg base N qual (af st) f cdv A outer s H E).nox (aB st) t/\t { nx:=λ _ H'=>Q .non H',rt:=Q } (ba N vs) H):FnOk P w K mg base CX0 (k+1) f fd ps sp:=by
 obtain ⟨oc,od,kV,doc,pm,an,cdv,ct,osl,rfl,lk,hcd⟩:=F.ex;refine fn_of lk hcd S len λ A outer s H vs Q E hr hsp=>?_;obtain ⟨t,h,q⟩:=hbody cdv A outer s H vs Q E hr hsp;exact ⟨t,h.nox,q⟩
theorem Fun.binds {x qual:Str} {st:Stmt} {f:Addr} {fd:FuncData} {ps:List Str} (F:Fun K x qual st f fd)
  (h:∀ (kV doc pm:Value) (an:Option Addr) (cdv ct:Value) (us:List Value),us.length=ps.length->bindArgs (PySem.W.fnOf x qual (aT st) (aB st) (af st) .none kV doc pm an cdv ct) ⟨us,[]⟩=pure (ps.zip us)):Binds K fd ps []:=by
 obtain ⟨oc,od,kV,doc,pm,an,cdv,ct,osl,rfl,lk,hcd⟩:=F.ex;exact .all (h kV doc pm an cdv ct)
theorem fun_mk {x qual:Str} {st:Stmt} {f:Addr} {oc:Value} {od an:Option Addr} {osl:Array (Option Value)} {kV doc pm cdv ct:Value} (l:K.lookup f=some ⟨oc,od,.func (PySem.W.fnOf x qual (aT st) (aB st) (af st) .none kV doc pm an cdv ct),osl⟩)
  (c:PySem.W.codeIn K cdv qual=true) (k:PySem.W.keepIn K (.ref f)=true):Fun K x qual st f (PySem.W.fnOf x qual (aT st) (aB st) (af st) .none kV doc pm an cdv ct):=⟨⟨oc,od,kV,doc,pm,an,cdv,ct,osl,rfl,l,c⟩,k⟩
end
theorem small1000 {n:Nat} (h:n<=1000):n<sizeLine:=Nat.lt_of_le_of_lt h (by decide)
section
variable {X:Cx}
theorem pv (i:Nat) {x:Str} {pos:Pos} (hN:X.N[i]?=some x:=by rfl) (hv:Vis X.env.scope x:=by first | exact Or.inl rfl | exact Or.inr (Or.inl rfl) | exact Or.inr (Or.inr rfl)) (hd:(x == ("__debug__":Str))=false:=by decide)
  (hcd:(x == ("__classdict__":Str))=false:=by decide):PE X (.Name x pos) (tVar i):=pe_var hN hv hd hcd
end
theorem iteF {A B:Prop} (h:B):if false=true then A else B:=by
 rw [if_neg cw];exact h
theorem iteT {A B:Prop} (h:A):if true=true then A else B:=by
 rw [if_pos rfl];exact h
theorem ite2 {c A B:Prop} [Decidable c] (h1:c->A) (h2:¬ c->B):if c then A else B:=by
 by_cases h:c
 ·rw [if_pos h];exact h1 h
 ·rw [if_neg h];exact h2 h
theorem iteNS {c A B:Prop} [Decidable c] (hc:c) (h:B):if (!decide c)=true then A else B:=by
 rw [cB hc];exact iteF h
noncomputable def Same (H H':Hp):Prop:=∀ b o,H b=some o->H' b=some o
theorem Same.refl (H:Hp):Same H H:=λ _ _ h=>h
theorem Same.trans {H H1 H2:Hp} (a:Same H H1) (b:Same H1 H2):Same H H2:=λ c o h=>b c o (a c o h)
theorem Same.free {H H':Hp} (e:Same H H') {l:Addr} (h:H' l=Option.none):H l=Option.none:=by
 cases q:H l with
 | none=>rfl
 | some o=>
  rw [e l o q] at h
  cases h
theorem Same.seq {K:W.Frag} {H H':Hp} {a:Addr} {xs:List V} (e:Same H H') (h:SqL K H a xs):SqL K H' a xs:=by
 rcases h with (h | ⟨o,h⟩) | h
 ·exact .inl (.inl (e _ _ h))
 ·exact .inl (.inr ⟨o,e _ _ h⟩)
 ·exact .inr h
end L2
set_option maxHeartbeats 4000000
set_option exponentiation.threshold 300
namespace L2
open PySem PySem.Spec PyProof.Rows
section
variable {X:Cx}
theorem bits_le {k:Int} {n:Nat} (h:k.natAbs<2 ^ n):Builtin.Int.intBits k<=n:=by
 unfold Builtin.Int.intBits
 split
 ·exact da _
 ·rename_i h0
  have hz:k.natAbs≠0:=by
   intro z;apply h0
   have:k=0:=by omega
   simp [this]
  have:k.natAbs.log2<n:=(Nat.log2_lt hz).mpr h
  omega
noncomputable def CMulB (i j:Int):Prop:=i.natAbs<2 ^ 9000/\j.natAbs<2 ^ 9000
theorem CMulB.ok {i j:Int} (h:CMulB i j):IntMulOk i j:=by
 refine IntMulOk.of_bits (cn (bits_le h.1) (by decide)) (cn (bits_le h.2) (by decide))
theorem bM:OpR X (binaryOp .Mult) (rI CMulB λ i j=>.int (i*j)):=opI λ _ _ _ _ _ _ _ hc q=>mul_int q hc.ok
noncomputable def CDivB (_ j:Int):Prop:=j≠0/\j.natAbs<2 ^ 9000
theorem CDivB.ok {i j:Int} (h:CDivB i j):Builtin.divisionGoesByPylong i j=false:=
 PyProof.noPylong_of_log2 ((Nat.log2_lt (by have:=h.1;omega)).mpr h.2)
theorem cf:OpR X (binaryOp .FloorDiv) (rI CDivB λ i j=>.int (i.fdiv j)):=opI λ _ _ _ _ _ _ _ hc q=>floordiv_int hc.1 q (.inl hc.ok)
inductive IrIsI (K:W.Frag) (c:Value) (vs:List V) (H:Hp) (Q:VK):Prop
 | mk (x:_) (y:_) (t:_) (b:_) (h1:vs=[x,y]) (h2:(∀ u,RelV y u->u=c)) (h3:TyOf K H x t) (h4:PySem.W.kitOne K t c=some b) (h5:Q (.bl b) H):IrIsI K c vs H Q
noncomputable def rIsI (K:W.Frag) (c:Value):List V->Hp->VK->Prop:=λ vs H Q=>IrIsI K c vs H Q
theorem call_isI {c:Value}:bJ X (.builtin "isinstance") (rIsI X.K c):=by
 intro pins s σ H xs us Q I r h;obtain ⟨x,y,t,b,rfl,hc,ty,e,q⟩:=h
 cases r with
 | cons r1 r2=>
  cases r2 with
  | cons r3 r4=>
   cases r4
   have:=hc _ r3
   subst this;exact isinst_ok I r1 ty e λ tk=>⟨.bl b,H,I.tok tk,rfl,q⟩
end
section
variable {X:Cx}
noncomputable def aK (X:Cx) (pins:List (Addr × Obj)) (N':List Str) (scope:Scope) (cl:List (Str × Addr)) (C:Addr) (fp:List Addr) (s:Shared) (H:Hp):Cx:=
 { X with N:=N',s₀:=s,H₀:=H,env:=compEnvC scope cl C X.env,outer:=X.stack,stack:=X.stack,ex:=fp,fn:=λ _=>false,pn:=X.pn++pins,xe:=λ _ _=>False }
structure Clos (X:Cx) (scope:Scope) (cl:List (Str × Addr)):Prop where
 clos:closureFor scope X.env=pure cl
 sub:∀ y c,cl.lookup y=some c->X.env.cells.lookup y=some c
 has:∀ y,((relabel scope X.env).names.lookup y=some .cell∨(relabel scope X.env).names.lookup y=some .free)->∃ c,cl.lookup y=some c
theorem relabel_none {scope:Scope} {env:Env} (hf:∀ x∈scope.names,x.2≠.free):relabel scope env=scope:=by
 unfold relabel
 have:(scope.names.map λ(n,k)=>if (k == NameKind.free && env.scope.kind == .function && env.kindOf n == some .cell) then (n,NameKind.cell) else (n,k))=scope.names:=by
  refine map_eq_self λ x hx=>?_;obtain ⟨n,k⟩:=x;have h1:(k == NameKind.free)=false:=by simpa using hf _ hx
  simp [h1]
 rw [this]
theorem Clos.none {scope:Scope} (hf:∀ x∈scope.names,x.2≠.free) (hc:∀ x∈scope.names,x.2≠.cell):Clos X scope []:=by
 refine ⟨closureFor_none hf,λ y c h=>by simp at h,λ y h=>?_⟩;rw [relabel_none hf] at h;rcases h with h | h
 ·exact absurd rfl (hc _ (cX h))
 ·exact absurd rfl (hf _ (cX h))
noncomputable def Reads (X:Cx) (scope:Scope) (rest:List Str) (sel:St->St):Prop:=
 ∀ σ,(sel σ).length=rest.length/\∀ (i:Nat) (y:Str) (v:V),rest[i]?=some y->(sel σ)[i]?=some (some v)->∃ j:Nat,X.N[j]?=some y/\σ[j]?=some (some v)/\X.env.scope.names.lookup y=some .cell/\(relabel scope X.env).names.lookup y=some .cell
end
end L2
namespace L2
open PySem PySem.Spec PyProof.Rows
theorem ifV {k m:Int} {A B:Prop} (h1:k=m->A) (h2:k≠m->B):if decide (V.int k=V.int m)=true then A else B:=by
 by_cases h:k=m
 ·rw [if_pos (by rw [h];exact cB rfl)];exact h1 h
 ·rw [if_neg (by rw [cv (by intro z;exact h (V.int.inj z))];decide)];exact h2 h
theorem ifB {c A B:Prop} [Decidable c] (h1:c->A) (h2:¬ c->B):if decide c=true then A else B:=by
 by_cases h:c
 ·rw [if_pos (cB h)];exact h1 h
 ·rw [if_neg (by rw [cv h];decide)];exact h2 h
theorem bx {c:Bool} {A B:Prop} (h:c=true) (a:A):if c=true then A else B:=by
 rw [if_pos h];exact a
theorem bX {c:Bool} {A B:Prop} (h:c=false) (b:B):if c=true then A else B:=by
 rw [if_neg (by rw [h];decide)];exact b
theorem neV {k m:Int} (h:k≠m):decide (V.int k=V.int m)=false:=cv (by intro z;exact h (V.int.inj z))
end L2
namespace L2
open PySem PySem.Spec PyProof.Rows
section
variable {X:Cx} {st:Stmt} {rest:List Stmt} {t u:TS}
noncomputable def tCut (t u:TS):TS:=λ D σ H=>∃ M:St->Hp->Prop,t { D with nx:=M } σ H/\∀ σ' H',M σ' H'->u D σ' H'
theorem av (h1:PS X st t) (h2:PSs X rest u):PSs X (st::rest) (tCut t u):=by
 intro pins s σ H D I ⟨M,h,hM⟩;refine wpAny_execs_cons (thn (h1 pins s σ H { D with nx:=M } I h) λ f s1 q=>?_)
 cases f with
 | next=>
  obtain ⟨σ',H',I',q⟩:=q;exact h2 pins s1 σ' H' D I' (hM σ' H' q)
 | ret v=>exact q
 | brk=>exact q
 | cont=>exact q
end
noncomputable def rLen (K:W.Frag):List V->Hp->VK->Prop:=λ xs H Q=>∃ p ys,xs=[.ref p]/\(SqL K H p ys∨SqT K H p ys)/\Q (.int ys.length) H
theorem call_lenK {X:Cx}:bJ X (.builtin "len") (rLen X.K):=call_len_seq
end L2
namespace L2
open PySem
noncomputable def Trail (h:Heap) (e:Addr) (vs:Array Value):Option Addr->Prop
 | none=>vs[1]?=some .none
 | some T=>vs[1]?=some (.ref T)/\T≠e/\∃ oT ts,h.get? T=some oT/\oT.data=.fields ts/\ts[3]?=some .none
structure Noted (l:List Env) (e:Addr) (oe:Obj) (vs:Array Value) (tr:Option Addr) (h h':Heap):Prop where
 exc:∃ vs' T,h'.get? e=some { oe with data:=.fields vs' }/\vs'[0]?=vs[0]?/\h.objs.size<=T/\Trail h' e vs' (some T)
 keep:∀ b o,b≠e->tr≠some b->b ∉ l.filterMap (·.frame)->h.get? b=some o->h'.get? b=some o
 slot:∀ b o,b≠e->tr≠some b->b∈l.filterMap (·.frame)->h.get? b=some o->∃ sl,h'.get? b=some { o with slots:=sl }
section
variable {M:Model} {A:Around} {E:Value->Shared->Prop} {s:Shared} {base:Heap} {env:Env} {outer:List Env} {L e:Addr} {oe:Obj} {vs:Array Value} {Q:Unit->Shared->Prop}
theorem mapFields_eq {o:Obj} {ws:Array Value} (hd:o.data=.fields ws) (f:Array Value->Array Value):Obj.mapFields f o = { o with data:=.fields (f ws) }:=by
 obtain ⟨c,d,dt,sl⟩:=o
 cases hd;rfl
theorem entry_core {head:Value} {hadNext:Bool} (hfr:A.frames=some (env::outer)) (hl:s.heap.FunFrames base (env::outer)) (hf:env.frame=some L)
  (he:s.heap.get? e=some oe) (hd:oe.data=.fields vs) (hsz:1<vs.size) (h:∀ h',Noted (env::outer) e oe vs none s.heap h'->Q () { s with heap:=h' }) :
  wpAny M A (do let a <- frameOf env;let pl <- entryPlaceOf L hadNext;let b <- EntryCells.newEntry head a .none (rawInt L) .none pl;setField (.ref e) 1 b) (λ _ s'=>wpAny M A (setFlight (.ref e) none) Q E s') E s:=by
 have ne:∀ b∈(env::outer).filterMap (·.frame),b≠e:=λ b hm z=>by
  obtain ⟨_,o,ho,hnf⟩:=hl.mem hm;rw [z,he] at ho
  cases ho;exact hnf vs hd
 refine cq (wpAny_frameOf_fun hfr hl hf λ h₁ hs₁=>cq (wpAny_entryPlaceOf λ pl hpl=>?_));unfold EntryCells.newEntry newFields;refine cq (wpAny_newObj_type ?_ (hpl.sizeOk5 _ _ _ _ _));have a₁:h₁.get? e=some oe:=(hs₁.2.1 e λ hm=>ne e hm rfl).trans he;generalize hot:({ cls:=.type "traceback",dict:=none,data:=.fields ([head,.ref L,.none,rawInt L,.none]++(if pl.isEmpty then List.replicate 6 Value.none else pl)).toArray }:Obj)=ot;have fr:ot.isFreed=false:=by rw [<- hot];rfl
 obtain ⟨ts,hts,h3⟩:∃ ts:Array Value,ot.data=.fields ts/\3<ts.size:=by
  refine ⟨_,by rw [<- hot],?_⟩;simp only [cz,cZ,cH,List.length_nil];omega
 have a₂:=cu (h:=h₁) ot a₁;refine wpAny_setField a₂ hd hsz ?_;have nT:h₁.objs.size≠e:=Nat.ne_of_gt (cx a₁);have d₃:=Obj.data_mapFields hd (·.setIfInBounds 1 (Value.ref h₁.objs.size));have a₃:=Heap.get?_update_self (Obj.mapFields (·.setIfInBounds 1 (Value.ref h₁.objs.size))) a₂ (Obj.isFreed_of_fields d₃);have t₃:=(c7 (h₁.push ot) (Obj.mapFields (·.setIfInBounds 1 (Value.ref h₁.objs.size))) (Ne.symm nT)).trans (cN h₁ fr);unfold setFlight;refine cq (wpAny_field a₃ d₃ (x:=.ref h₁.objs.size) (by simp [hsz]) ?_);rw [if_pos (show (Value.ref h₁.objs.size != Value.none)=true from by simp)];refine wpAny_setField t₃ hts h3 (h _ ?_)
 have old:∀ b o,b≠e->h₁.get? b=some o->(((h₁.push ot).update e (Obj.mapFields (·.setIfInBounds 1 (Value.ref h₁.objs.size)))).update h₁.objs.size (Obj.mapFields (·.setIfInBounds 3 Value.none))).get? b=some o:=λ b o hb q=>by
  rw [c7 _ _ (Nat.ne_of_gt (cx q)),c7 _ _ (Ne.symm hb)];exact cu _ q
 have e₄:=(c7 ((h₁.push ot).update e (Obj.mapFields (·.setIfInBounds 1 (Value.ref h₁.objs.size)))) (Obj.mapFields (·.setIfInBounds 3 Value.none)) nT).trans a₃;have t₄:=Heap.get?_update_self (Obj.mapFields (·.setIfInBounds 3 Value.none)) t₃ (Obj.isFreed_of_fields (Obj.data_mapFields hts _));refine ⟨⟨_,h₁.objs.size,by rw [mapFields_eq hd] at e₄;exact e₄,by rw [Array.getElem?_setIfInBounds_ne (by decide)],?_,by simp [hsz],nT,_,_,t₄,Obj.data_mapFields hts _,by simp [h3]⟩,λ b o nb _ hb q=>?_,λ b o nb _ hb q=>?_⟩
 ·exact Nat.le_of_eq hs₁.1.symm
 ·exact old b o nb ((hs₁.2.1 b hb).trans q)
 ·obtain ⟨sl,q₁⟩:=hs₁.2.2 b o q;exact ⟨sl,old b _ nb q₁⟩
theorem noted_ok {tr:Option Addr} (hfr:A.frames=some (env::outer)) (hl:s.heap.FunFrames base (env::outer)) (hf:env.frame=some L)
  (he:s.heap.get? e=some oe) (hd:oe.data=.fields vs) (ht:Trail s.heap e vs tr) (h:∀ h',Noted (env::outer) e oe vs tr s.heap h'->Q () { s with heap:=h' }) :
  wpAny M A (noteFrame (.ref e) env) (λ _ s'=>wpAny M A (setFlight (.ref e) none) Q E s') E s:=by
 unfold noteFrame;simp only [hf]
 cases tr with
 | none=>
  have ht:vs[1]?=some .none:=ht;refine cq (wpAny_field he hd ht ?_);rw [if_neg (by decide)];exact entry_core hfr hl hf he hd (c5.mp ht).1 h
 | some T=>
  obtain ⟨h1,nT,oT,ts,gT,dT,h3⟩:=ht;refine cq (wpAny_field he hd h1 ?_);rw [if_pos (show (Value.ref T != Value.none)=true from by simp)];refine cq (wpAny_field gT dT h3 ?_);rw [if_neg (show ¬ ((Value.none == rawInt L)=true) from by simp [rawInt])];refine cq (wpAny_setField gT dT (c5.mp h3).1 ?_);have oth:∀ b,b≠T->(s.heap.update T (Obj.mapFields (·.setIfInBounds 3 Value.none))).get? b=s.heap.get? b:=λ b hb=>c7 _ _ (Ne.symm hb)
  have nr:∀ b o,s.heap.get? b=some o->(∀ ws,o.data≠.fields ws)->b≠T:=λ b o hb hn q=>by
   rw [q,gT] at hb
   cases hb;exact hn ts dT
  refine entry_core hfr (hl.of_keeps λ b o hb hn=>⟨o,(oth b (nr b o hb hn)).trans hb,rfl⟩) hf ((oth e (Ne.symm nT)).trans he) hd (c5.mp h1).1 λ h' N=>h h' ⟨?_,?_,?_⟩
  ·obtain ⟨vs',T',q1,q2,q3,q4⟩:=N.exc;exact ⟨vs',T',q1,q2,by rw [Heap.size_after_update] at q3;exact q3,q4⟩
  ·intro b o nb nt hb q;exact N.keep b o nb (by intro z;cases z) hb ((oth b λ z=>nt (by rw [z])).trans q)
  ·intro b o nb nt hb q;exact N.slot b o nb (by intro z;cases z) hb ((oth b λ z=>nt (by rw [z])).trans q)
theorem leaving_ok {tr:Option Addr} (hfr:A.frames=some (env::outer)) (hl:s.heap.FunFrames base (env::outer)) (hf:env.frame=some L)
  (he:s.heap.get? e=some oe) (hd:oe.data=.fields vs) (ht:Trail s.heap e vs tr) (h:∀ h',Noted (env::outer) e oe vs tr s.heap h'->Q () { s with heap:=h' }) :
  wpAny M A (leaving env (.ref e)) Q E s:=by
 unfold leaving;exact cq (noted_ok hfr hl hf he hd ht h)
end
end L2
namespace L2
open PySem PySem.Spec PyProof.Rows
section
variable {P:Program} {w:World} {H:Hp} {h:Heap} {a:Addr} {o:HO}
theorem ObjOk.there (x:ObjOk P w H h a o):∃ ob,h.get? a=some ob:=by
 cases o with
 | lst xs=>obtain ⟨_,_,_,_,e⟩:=x;exact ⟨_,e⟩
 | tup xs=>obtain ⟨_,_,_,⟨_,e,_⟩⟩:=x;exact ⟨_,e⟩
 | dK kvs=>obtain ⟨_,_,_,_,o,_,_,e,_⟩:=x;exact ⟨_,e⟩
 | dT kvs=>obtain ⟨_,_,_,_,o,_,_,e,_⟩:=x;exact ⟨_,e⟩
 | set S n=>obtain ⟨o,_,_,_,e,_⟩:=x;exact ⟨_,e⟩
 | ins C dx fs=>obtain ⟨_,_,_,e,_⟩:=x;exact ⟨_,e⟩
 | own y=>exact x
 | xd fs=>obtain ⟨_,⟨_,_,_,e,_⟩,_⟩:=x;exact ⟨_,e⟩
 | rng lo hi=>obtain ⟨_,_,_,e⟩:=x;exact ⟨_,e⟩
 | frz ob u=>obtain ⟨e,_⟩:=x;exact ⟨_,e⟩
 | tbl ps=>exact ⟨_,(show h.get? a=some _ from x)⟩
 | met f y=>exact ⟨_,(show h.get? a=some _ from x)⟩
 | ext φ=>obtain ⟨_,e,_⟩:=x;exact e
theorem HOk.noObj (x:HOk P w H h) (e:h.get? a=none):H a=none:=by
 cases q:H a with
 | none=>rfl
 | some o=>
  obtain ⟨ob,z⟩:=(x a o q).there;rw [e] at z
  cases z
end
section
variable {X:Cx} {pins:List (Addr × Obj)} {σ:St} {H H':Hp} {s s':Shared} {h':Heap}
noncomputable def Off (X:Cx) (pins:List (Addr × Obj)) (b:Addr):Prop:=
 X.s₀.heap.get? b=none/\b≠X.env.locals/\b ∉ X.fs/\(∀ x c,X.env.cells.lookup x=some c->c≠b)/\∀ p∈X.pn++pins,p.1≠b
theorem Inv.off {b:Addr} (I:Inv X pins σ H s) (hex:X.ex=[]) (hb:s.heap.get? b=none):Off X pins b:=by
 have no:∀ {c:Addr} {o:Obj},s.heap.get? c=some o->c≠b:=λ e z=>by rw [z,hb] at e;cases e
 refine ⟨?_,λ z=>?_,λ z=>?_,λ x c e=>?_,λ p hp=>no (I.pin p hp).1⟩
 ·cases q:X.s₀.heap.get? b with
  | none=>rfl
  | some o=>
   obtain ⟨o',e⟩:=I.base.there b o q (by rw [hex];simp);rw [hb] at e
   cases e
 ·obtain ⟨m,⟨o,_,_,e,_⟩,_⟩:=I.loc;exact no e z.symm
 ·obtain ⟨_,o,e,_⟩:=I.funs.mem z;exact no e rfl
 ·obtain ⟨v,o,q,_⟩:=I.cell x c e;exact no q
theorem Inv.stepO {ch:List Addr} (I:Inv X pins σ H s) (hch:∀ b∈ch,Off X pins b)
  (keep:∀ b o,b≠X.env.locals->b ∉ X.fs->b ∉ ch->s.heap.get? b=some o->H b=none->h'.get? b=some o)
  (slot:∀ b o,b≠X.env.locals->b∈X.fs->b ∉ ch->s.heap.get? b=some o->H b=none->∃ sl,h'.get? b=some { o with slots:=sl }) (free:∀ b o,b ∉ ch->s.heap.get? b=some o->H b=none->H' b=none)
  (there:∀ b o,b ∉ ch->s.heap.get? b=some o->∃ o',h'.get? b=some o')
  (tups:∀ b xs,H b=some (.tup xs)->H' b=some (.tup xs)) (frzs:∀ b o u,H b=some (.frz o u)->H' b=some (.frz o u)) (tbls:∀ b ps,H b=some (.tbl ps)->∃ more,H' b=some (.tbl (ps++more)))
  (ns:∀ m,s.heap.Ns X.env.locals m->h'.Ns X.env.locals m) (hok:HOk X.prog X.w H' h') :
  Inv X pins σ H' { s with heap:=h' }:=by
 have neL:∀ b o,X.s₀.heap.get? b=some o->b≠X.env.locals:=λ b o e=>cT (cF (cx e) I.ok.above);have neC:∀ b o,X.s₀.heap.get? b=some o->b ∉ ch:=λ b o e hb=>by rw [(hch b hb).1] at e;cases e
 have cellK:∀ x c,X.env.cells.lookup x=some c->∀ v,s.heap.IsCell c v->h'.IsCell c v:=λ x c e v ⟨o,ho,hd⟩=>by
  have nch:c ∉ ch:=λ z=>(hch c z).2.2.2.1 x c e rfl;by_cases hc:c∈X.fs
  ·obtain ⟨sl,q⟩:=slot c o (I.cne x c e) hc nch ho (I.freeC x c e);exact ⟨_,q,hd⟩
  ·exact ⟨o,keep c o (I.cne x c e) hc nch ho (I.freeC x c e),hd⟩
 refine ⟨I.ok,I.os,I.bare,⟨λ b o e n hb hx=>?_,λ b o e n hb hx=>?_,λ b o e n hx=>?_,λ b o e hx=>?_,λ b xs e=>tups b xs (I.base.tups b xs e),λ b o xs e=>frzs b o xs (I.base.frzs b o xs e),λ b ps e=>?_⟩,?_,λ x c e=>?_,?_,λ x c e=>?_,λ p hp=>?_,hok,I.len⟩
 ·exact keep b o (neL b o e) hb (neC b o e) (I.base.keep b o e n hb hx) (I.base.free b o e n hx)
 ·obtain ⟨sl,e1⟩:=I.base.slot b o e n hb hx;obtain ⟨sl',e2⟩:=slot b _ (neL b o e) hb (neC b o e) e1 (I.base.free b o e n hx);exact ⟨sl',e2⟩
 ·obtain ⟨o',e1⟩:=I.base.there b o e hx;exact free b o' (neC b o e) e1 (I.base.free b o e n hx)
 ·obtain ⟨o',e1⟩:=I.base.there b o e hx;exact there b o' (neC b o e) e1
 ·obtain ⟨m1,e1⟩:=I.base.tbls b ps e;obtain ⟨m2,e2⟩:=tbls b _ e1;exact ⟨m1++m2,by rw [e2,Array.append_assoc]⟩
 ·obtain ⟨m,hn,hl⟩:=I.loc;refine ⟨m,ns m hn,λ i x v e1 e2 e3=>?_⟩;obtain ⟨u,r,l⟩:=hl i x v e1 e2 e3;refine ⟨u,r,?_⟩;rcases l with l | ⟨k,c,e,z⟩
  ·exact .inl l
  ·exact .inr ⟨k,c,e,cellK x c e _ z⟩
 ·obtain ⟨v,z⟩:=I.cell x c e;exact ⟨v,cellK x c e v z⟩
 ·obtain ⟨m,⟨o,_,_,ho,_⟩,_⟩:=I.loc;exact free _ o (λ z=>(hch _ z).2.1 rfl) ho I.free
 ·obtain ⟨v,o,ho,hd⟩:=I.cell x c e;exact free c o (λ z=>(hch c z).2.2.2.1 x c e rfl) ho (I.freeC x c e)
 ·obtain ⟨e,n,ne,nf,d⟩:=I.pin p hp;have nch:p.1 ∉ ch:=λ z=>(hch p.1 z).2.2.2.2 p hp rfl;exact ⟨keep p.1 p.2 ne nf nch e n,free p.1 p.2 nch e n,ne,nf,d⟩
theorem Inv.noted {e:Addr} {oe:Obj} {vs:Array Value} {tr:Option Addr} (I:Inv X pins σ H s) (hH:H e=none) (ho:Off X pins e) (ht:∀ T,tr=some T->H T=none/\Off X pins T)
  (N:Noted X.stack e oe vs tr s.heap h'):Inv X pins σ H { s with heap:=h' }:=by
 have any:∀ b o,b ∉ e::tr.toList->s.heap.get? b=some o->∃ sl,h'.get? b=some { o with slots:=sl }:=λ b o hb q=>by
  have n1:b≠e:=λ z=>hb (by rw [z];exact cE);have n2:tr≠some b:=λ z=>hb (cK _ (by rw [z];simp));by_cases hs:b∈frs X.stack
  ·exact N.slot b o n1 n2 hs q
  ·exact ⟨o.slots,N.keep b o n1 n2 hs q⟩
 have kp:∀ b o,b≠X.env.locals->b ∉ X.fs->b ∉ e::tr.toList->s.heap.get? b=some o->h'.get? b=some o:=λ b o hL hb hc q=>
  N.keep b o (λ z=>hc (by rw [z];exact cE)) (λ z=>hc (cK _ (by rw [z];simp))) (λ z=>(cQ.mp (I.stkSub b z)).elim hL hb) q
 have offs:∀ b∈e::tr.toList,H b=none/\Off X pins b:=λ b hb=>by
  rcases cQ.mp hb with z | z
  ·rw [z];exact ⟨hH,ho⟩
  ·exact ht b (by simpa using z)
 refine I.stepO (ch:=e::tr.toList) (λ b hb=>(offs b hb).2) (λ b o hL hb hc q _=>kp b o hL hb hc q) (λ b o _ _ hc q _=>any b o hc q) (λ _ _ _ _ n=>n)
  (λ b o hc q=>let ⟨_,z⟩:=any b o hc q;⟨_,z⟩) (λ _ _ q=>q) (λ _ _ _ q=>q) (λ b ps q=>⟨#[],by rw [q];simp⟩) (λ m hm=>?_) (λ b u q=>?_)
 ·obtain ⟨o,es,ep,g,r⟩:=hm;obtain ⟨sl,g'⟩:=any _ o (λ z=>(offs _ z).2.2.1 rfl) g;exact ⟨_,es,ep,g',r⟩
 ·refine (I.hok b u q).stay (λ c v hc g=>?_) (λ _ z=>z) λ _ _ z=>z
  have trk:H c≠none:=by
   rcases hc with z | z
   ·rw [z,q];simp
   ·rw [z];simp
  refine N.keep c v (λ z=>trk (by rw [z];exact hH)) (λ z=>trk (ht c z).1) (λ z=>trk (I.stkFree c z)) g
noncomputable def XFly (X:Cx) (pins:List (Addr × Obj)) (H:Hp) (h:Heap) (x:Addr) (cls:Value) (d:Option Addr):Prop:=
 H x=none/\Off X pins x/\∃ vs sl tr,h.get? x=some ⟨cls,d,.fields vs,sl⟩/\Trail h x vs tr/\∀ T,tr=some T->H T=none/\Off X pins T
noncomputable def XP (X:Cx) (pins:List (Addr × Obj)) (σ:St) (E:XK) (e:Value) (s':Shared):Prop:=∃ x cls d H',e=.ref x/\Inv X pins σ H' s'/\XFly X pins H' s'.heap x cls d/\E cls d H'
noncomputable def Fly (g:Heap) (H:Hp) (h:Heap) (x:Addr) (cls:Value) (d:Option Addr):Prop:=
 g.get? x=none/\H x=none/\∃ vs sl tr,h.get? x=some ⟨cls,d,.fields vs,sl⟩/\Trail h x vs tr/\∀ T,tr=some T->g.get? T=none/\H T=none
noncomputable def CX1 (P:Program) (w:World):CXT:=λ outer H s E e s'=>∃ x cls d H',e=.ref x/\s'.os=s.os/\AllBare s'.gens/\Un (frs outer) [] H H' s.heap s'.heap/\HOk P w H' s'.heap/\Fly s.heap H' s'.heap x cls d/\E cls d H'
theorem XP.of_call {E:XK} {e:Value} (hex:X.ex=[]) (I:Inv X pins σ H s) (h:CX1 X.prog X.w X.stack H s E e s'):XP X pins σ E e s':=by
 obtain ⟨x,cls,d,H',rfl,os,bare,un,hok,⟨f1,f2,vs,sl,tr,f3,f4,f5⟩,q⟩:=h;exact ⟨x,cls,d,H',rfl,I.call' os un hok bare (λ b z=>absurd z (by simp)),⟨f2,I.off hex f1,vs,sl,tr,f3,f4,λ T z=>⟨(f5 T z).2,I.off hex (f5 T z).1⟩⟩,q⟩
end
section
variable {P:Program} {w:World} {K:W.Frag} {mg:Str->Option Value} {base:Heap} {N:List Str} {qual:Str} {scope:Scope} {f:Addr} {cd:Value} {A:Around} {outer:List Env} {s₀:Shared} {H₀:Hp} {E:XK}
theorem xe_of {pins:List (Addr × Obj)} {σ:St} {e:Value} {s':Shared} (h:XP (aM (CX1 P w) P w K mg base N qual scope f cd A outer s₀ H₀ E) pins σ E e s') :
  (aM (CX1 P w) P w K mg base N qual scope f cd A outer s₀ H₀ E).xe e s':=by
 obtain ⟨x,cls,d,H',rfl,I,⟨f1,f2,vs,sl,tr,f3,f4,f5⟩,q⟩:=h;refine leaving_ok (L:=s₀.heap.objs.size) I.ok.frames I.stack rfl f3 rfl f4 λ h' Nt=>?_;have J:=I.noted f1 f2 f5 Nt;obtain ⟨vs',T,g1,_,g2,g3⟩:=Nt.exc;refine ⟨x,cls,d,H',rfl,J.os,J.bare,J.base,J.hok,⟨f2.1,f1,vs',sl,some T,g1,g3,λ T' z=>?_⟩,q⟩
 cases z;exact ⟨(I.off rfl (Heap.get?_none_of_le g2)).1,I.hok.fresh g2⟩
theorem pass1:bI (CX1 P w) (aM (CX1 P w) P w K mg base N qual scope f cd A outer s₀ H₀ E) E:=λ _ _ _ _ _ _ I h=>xe_of (XP.of_call rfl I h)
theorem Fun.okX {x qual:Str} {st:Stmt} {f:Addr} {fd:FuncData} {N ps:List Str} {k:Nat} {sp:Sp} (F:Fun K x qual st f fd) (S:FnScope N ps (af st)) (len:∀ vs H Q E,sp vs H Q E->vs.length=ps.length)
  (hbody:∀ (cdv:Value) (A:Around) (outer:List Env) (s:Shared) (H:Hp) (vs:List V) (Q:VK) (E:XK),Room k (A.deeper (envOfC qual (af st) s.heap.objs.size f cdv))->sp vs H Q E->
   ∃ t,PSs (aM (CX1 P w) P w K mg base N qual (af st) f cdv A outer s H E) (aB st) t/\t { nx:=λ _ H'=>Q .non H',rt:=Q } (ba N vs) H):FnOk P w K mg base (CX1 P w) (k+1) f fd ps sp:=by
 obtain ⟨oc,od,kV,doc,pm,an,cdv,ct,osl,rfl,lk,hcd⟩:=F.ex;exact fn_of lk hcd S len λ A outer s H vs Q E hr hsp=>hbody cdv A outer s H vs Q E hr hsp
end
end L2
namespace L2
open PySem PySem.Spec PyProof.Rows
abbrev bmV:List Value:=[.type "ValueError",.type "Exception",.type "BaseException",.type "object"]
theorem exc_obj {K:W.Frag} {h:Heap} {C:Addr} {bmB:List Value} {newId:String} (X:K.In h) (q:PySem.W.excIn K C bmB newId=true) :
  ∃ bm N nm qn bs hd sn sub ab col dd k0 k1 k2 k3 k5 mN,h.get? C=some (excClassObj nm qn C N bs bm hd sn sub ab col dd k0 k1 k2 k3 k5 newId)/\h.Ns N mN/\mN "__init__"=none/\OwnTail h bmB bm:=by
 unfold PySem.W.excIn at q
 split at q
 case h_2=>cases q
 case h_1 dd cd sl lk=>
  split at q
  case h_2=>cases q
  case h_1 C' bm k0 k1 k2 k3 n k5 hm hs=>
   simp only [cP,beq_iff_eq,Bool.not_eq_true'] at q;obtain ⟨⟨⟨⟨⟨e1,e2⟩,hdel⟩,ht⟩,hok⟩,hni⟩:=q;subst e1 e2;obtain ⟨nm,bs,mro,ns,qn,hd,sn,sub,ab,col,del⟩:=cd;dsimp only at hm hdel hok hni;subst hm hdel;obtain ⟨l⟩:=sl;have hs:l=_:=hs;subst hs;exact ⟨bm,ns,nm,qn,bs,hd,sn,sub,ab,col,dd,k0,k1,k2,k3,k5,_,X _ _ lk,.of_isNs (PySem.W.isNs_of_in X hok),PySem.W.nsMap_none_of_in X hok hni,PySem.W.tail_of_in X ht⟩
section
variable {X:Cx} {E:XK}
noncomputable def XOut (X:Cx) (E:XK):Prop:=∀ pins σ e s',XP X pins σ E e s'->X.xe e s'
theorem xout1 {P:Program} {w:World} {K:W.Frag} {mg:Str->Option Value} {base:Heap} {N:List Str} {qual:Str} {scope:Scope} {f:Addr} {cd:Value} {A:Around} {outer:List Env} {s₀:Shared} {H₀:Hp} :
  XOut (aM (CX1 P w) P w K mg base N qual scope f cd A outer s₀ H₀ E) E:=λ _ _ _ _ h=>xe_of h
noncomputable def tRaise (C:Addr) (E:XK) (t:TA):TS:=λ _ σ H=>t σ H λ vs H1=>vs.length<=sizeLine/\E (.ref C) none H1
theorem ps_raise {C:Addr} {x:Str} {np cpos pos:Pos} {e:Expr} {es:List Expr} {t:TA} (hxe:XOut X E) (hex:X.ex=[]) (hh:X.A.handled=none) (hg:Gl X x) (hm:X.mg x=some (.ref C))
  (O:PySem.W.excIn X.K C bmV "ValueError.__new__"=true) (ha:PA X (e::es) t) (he:starEach (e::es) X.env=(false,eval e X.env)::starEach es X.env:=by rfl) (hpl:(backTo cpos (starEach es X.env)).any (·.1)=false:=by rfl)
  (hd:(x == ("__debug__":Str))=false:=by decide):PS X (.Raise (some (.Call (.Name x np) (e::es) [] cpos)) none pos) (tRaise C E t):=by
 intro pins s σ H D I h;obtain ⟨bm,N,nm,qn,bs,hd',sn,sub,ab,col,dd,k0,k1,k2,k3,k5,mN,hC,hN,hni,T⟩:=exc_obj I.ok.mod.kin O
 refine wpAny_Raise_call_subT (C:=C) (nm:=nm) (q:=qn) (N:=N) (bs:=bs) (bm:=bm) (hdct:=hd') (sn:=sn) (sub:=sub) (ab:=ab) (col:=col) (dd:=dd) (k0:=k0) (k1:=k1) (k2:=k2) (k3:=k3) (k5:=k5)
  PySem.F.excBase_ValueError (mN:=mN) (T.hasType rfl) hh (by rw [he];show (false || (backTo cpos (starEach es X.env)).any (·.1))=false;rw [hpl];rfl) hni (bN I hg hm ⟨rfl,?_⟩ hd)
 have ha':=ha cpos pins s σ H _ I h;rw [he] at ha' ⊢;refine Calls.evalArgs_plain (thn ha' λ us s1 ⟨vs,H1,I1,r,hl,q⟩=>⟨rfl,by rw [<- r.length];exact hl,I1.bk _ _ hC,hN.keeps I1.bk,T.keeps I1.bk,λ h' y hy=>?_⟩);obtain ⟨t',g1,_,_⟩:=hy.there;exact hxe pins σ _ _ ⟨y,.ref C,none,H1,rfl,I1.kept (t':=s1.toks) hy.keeps,⟨I1.hok.noObj hy.new,I1.off hex hy.new,_,_,none,g1,rfl,λ T z=>by cases z⟩,q⟩
noncomputable def PX (X:Cx) (e:Expr) (t:XK->TE):Prop:=
 ∀ (pins:List (Addr × Obj)) (s:Shared) (σ:St) (H:Hp) (Q:VK) (E:XK),Inv X pins σ H s->t E σ H Q->wpAny (model X.prog X.w) X.A (eval e X.env) (EP X pins σ Q) (XP X pins σ E) s
noncomputable def PSX (X:Cx) (st:List Stmt) (t:XK->TS):Prop:=
 ∀ (pins:List (Addr × Obj)) (s:Shared) (σ:St) (H:Hp) (D:Ends) (E:XK),Inv X pins σ H s->t E D σ H->wpAny (model X.prog X.w) X.A (execs st X.env) (SP X pins D) (XP X pins σ E) s
variable {k:Nat} {f C:Addr} {fd:FuncData} {ps:List Str} {sp:Sp} {dvs:List V} {ds:List Value} {x m:Str} {p pos apos:Pos} {e o:Expr} {es:List Expr} {ta:TE} {t:TA}
theorem run_fnX {pins:List (Addr × Obj)} {σ:St} {H:Hp} {s:Shared} {Q:VK} {us:List Value} {vs:List V} (F:FnOk X.prog X.w X.K X.mg X.base (CX1 X.prog X.w) k f fd ps sp) (hr:Room k X.A) (hb:Binds X.K fd ps ds) (hd:Vals dvs ds) (hex:X.ex=[])
  (I:Inv X pins σ H s) (r:Vals vs us) (h:sp (vs++dvs) H Q E):wpAny (model X.prog X.w) X.A (call (.ref f) us) (EP X pins σ Q) (XP X pins σ E) s:=by
 have r2:Vals (vs++dvs) (us++ds):=r.append hd;have hl:(us++ds).length=ps.length:=by rw [<- r2.length];exact F.len _ _ _ _ h
 refine wpAny_call (codeAny_mono (F.run X.A X.stack s H ⟨us,[]⟩ (us++ds) (vs++dvs) Q E hr I.env0 (hb s us I.kIn hl) r2 h) λ r s' hq=>?_)
 cases r with
 | error e=>exact XP.of_call hex I hq
 | ok fl=>
  cases fl with
  | ret u=>exact I.after hq
  | next=>exact False.elim hq
  | brk=>exact False.elim hq
  | cont=>exact False.elim hq
theorem px_call (F:FnOk X.prog X.w X.K X.mg X.base (CX1 X.prog X.w) k f fd ps sp) (hr:Room k X.A) (hg:Gl X x) (hm:X.mg x=some (.ref f)) (hk:PySem.W.keepIn X.K (.ref f)=true) (hb:Binds X.K fd ps ds) (hd:Vals dvs ds) (hex:X.ex=[])
  (ha:PA X.nox (e::es) t) (hdb:(x == ("__debug__":Str))=false:=by decide) (he:starEach (e::es) X.env=(false,eval e X.env)::starEach es X.env:=by rfl) (hpl:(backTo pos (starEach es X.env)).any (·.1)=false:=by rfl) :
  PX X (.Call (.Name x p) (e::es) [] pos) (λ E=>tCall sp dvs E t):=by
 intro pins s σ H Q E I h;refine wpAny_Call_Name_kw (bN I hg hm ?_ hdb);refine PySem.W.callWith_K (h₀:=X.base) I.ok.mod.kin hk (db (ha pos pins s σ H _ (I.wish _) h) (λ us s1 ⟨vs,H1,I1,r,q⟩=>⟨I1.kIn,?_⟩) λ _ _ z=>z.elim) he hpl;exact run_fnX F hr hb hd hex I1.unwish r q
noncomputable def PSx (X:Cx) (st:Stmt) (t:XK->TS):Prop:=
 ∀ (pins:List (Addr × Obj)) (s:Shared) (σ:St) (H:Hp) (D:Ends) (E:XK),Inv X pins σ H s->t E D σ H->wpAny (model X.prog X.w) X.A (exec st X.env) (SP X pins D) (XP X pins σ E) s
theorem psx_set {i:Nat} {y:Str} {te:XK->TE} {pos':Pos} (hN:X.N.Nodup) (hi:X.N[i]?=some y) (hx:Loc X.env.scope y) (he:PX X e te) (hs:swapsWith e (some (.Name y pos')) pos.line X.env=pure false:=by rfl)
  (hf:X.fn y=true∨X.env.scope.names.lookup y=some .local:=by first | exact .inl rfl | exact .inr rfl | assumption):PSx X (.Assign [.Name y pos'] e pos) (λ E=>tAsg (te E) (gName i)):=by
 intro pins s σ H D E I h;refine wpAny_Assign_Name (thn (he pins s σ H _ E I h) λ v s1 ⟨y,H1,I1,r1,q1⟩=>?_) hs;exact bf I1 hN hi hx r1 (λ s2 I2=>⟨_,H1,I2,q1⟩) hf
theorem pssx_one {st:Stmt} {t:XK->TS} (h1:PSx X st t):PSX X [st] t:=by
 intro pins s σ H D E I h;refine wpAny_execs_cons (thn (h1 pins s σ H D E I h) λ f s1 q=>?_)
 cases f with
 | next=>exact wpAny_execs_nil q
 | ret v=>exact q
 | brk=>exact q
 | cont=>exact q
end
section
variable {X:Cx}
noncomputable abbrev Cx.hnd (X:Cx) (x:Addr):Cx:={ X with A:=X.A.mark (some (.ref x)),calm:=false,xe:=λ _ _=>False }
theorem Cx.Ok.hnd {x:Addr} (ok:X.Ok):(X.hnd x).Ok:=⟨ok.mod,ok.kind,ok.glob,ok.blt,ok.above,ok.inj,ok.has,ok.cab,(λ z=>nomatch z),ok.frames,ok.stk,ok.exf,ok.bs,ok.bsz,ok.noex,ok.exfs,ok.funs,ok.frf⟩
variable {pins:List (Addr × Obj)} {σ:St} {H:Hp} {s:Shared} {x:Addr}
theorem Inv.hnd (I:Inv X pins σ H s):Inv (X.hnd x) pins σ H s:=⟨I.ok.hnd,I.os,I.bare,I.base,I.loc,I.cell,I.free,I.freeC,I.pin,I.hok,I.len⟩
theorem Inv.unhnd (ok:X.Ok) (I:Inv (X.hnd x) pins σ H s):Inv X pins σ H s:=⟨ok,I.os,I.bare,I.base,I.loc,I.cell,I.free,I.freeC,I.pin,I.hok,I.len⟩
theorem SP.unhnd {D:Ends} {f:Flow} {s':Shared} (ok:X.Ok) (h:SP (X.hnd x) pins D f s'):SP X pins D f s':=by
 cases f with
 | next=>obtain ⟨σ',H',I,q⟩:=h;exact ⟨σ',H',I.unhnd ok,q⟩
 | brk=>obtain ⟨σ',H',I,q⟩:=h;exact ⟨σ',H',I.unhnd ok,q⟩
 | cont=>obtain ⟨σ',H',I,q⟩:=h;exact ⟨σ',H',I.unhnd ok,q⟩
 | ret u=>obtain ⟨v,σ',H',I,r,q⟩:=h;exact ⟨v,σ',H',I.unhnd ok,r,q⟩
noncomputable def XO (x C:Addr) (d:Option Addr):HO:=.ext λ h=>∃ vs sl,h.get? x=some ⟨.ref C,d,.fields vs,sl⟩
theorem Inv.track {o:HO} (I:Inv X pins σ H s) (hn:H x=none) (ho:Off X pins x) (new:ObjOk X.prog X.w (upd H x o) s.heap x o):Inv X pins σ (upd H x o) s:=by
 have ne:∀ b u,H b=some u->b≠x:=λ b u e z=>by rw [z,hn] at e;cases e
 have nx:∀ b,b≠x->H b=none->upd H x o b=none:=λ b hb e=>by rw [ar hb];exact e
 refine ⟨I.ok,I.os,I.bare,⟨I.base.keep,I.base.slot,λ b u e n hx=>nx b (λ z=>by rw [z,ho.1] at e;cases e) (I.base.free b u e n hx),I.base.there,λ b xs e=>?_,λ b u v e=>?_,λ b ps e=>?_⟩,
  I.loc,I.cell,nx _ (Ne.symm ho.2.1) I.free,λ y c e=>nx c (ho.2.2.2.1 y c e) (I.freeC y c e),λ p hp=>?_,λ b u e=>?_,I.len⟩
 ·have q:=I.base.tups b xs e;rw [ar (ne b _ q)];exact q
 ·have q:=I.base.frzs b u v e;rw [ar (ne b _ q)];exact q
 ·obtain ⟨more,q⟩:=I.base.tbls b ps e;exact ⟨more,by rw [ar (ne b _ q)];exact q⟩
 ·obtain ⟨e,n,r⟩:=I.pin p hp;exact ⟨e,nx p.1 (ho.2.2.2.2 p hp) n,r⟩
 ·by_cases hb:b=x
  ·subst hb;rw [ai] at e
   cases e;exact new
  ·rw [ar hb] at e;exact (I.hok b u e).stay (λ _ _ _ q=>q) (λ c q=>by rw [ar (ne c _ q)];exact q) λ c xs q=>by rw [ar (ne c _ q)];exact q
theorem excMatches_K {K:W.Frag} {M:Model} {A:Around} {E:Value->Shared->Prop} {s:Shared} {e C C':Addr} {d:Option Addr} {dt:Data} {sl:Array (Option Value)} {b:Bool} {Q:Bool->Shared->Prop} (X:K.In s.heap) (he:s.heap.get? e=some ⟨.ref C,d,dt,sl⟩)
  (h1:PySem.W.instIn K (.ref C') (.type "tuple")=some false) {cd:ClassData} (h2:PySem.W.clsIn K C'=some cd) (h3:PySem.W.subIn K (.ref C') (.type "BaseException")=some true) (h4:PySem.W.subIn K (.ref C) (.ref C')=some b) (q:Q b s) :
  wpAny M A (excMatches (.ref e) (.ref C')) Q E s:=by
 have it:PySem.W.Looks M s.heap (isExcClass (.ref C')) true:=by
  unfold isExcClass;refine PySem.W.Looks.andThen (a:=true) ?_ (PySem.W.looks_subIn X h3);unfold PySem.W.clsIn at h2
  split at h2
  ·rename_i ho;intro A' Q' E' s' k q';unfold isType loadHead;exact cq (wpAny_loadPart (k _ _ (X _ _ ho)) (cJ q'))
  ·cases h2
 have ty:PySem.W.Looks M s.heap (typeOf (.ref e)) (.ref C):=(PySem.W.Looks.ld he).andThen .now;unfold excMatches;refine cq ((PySem.W.looks_instIn X h1).here ?_);simp only [Bool.false_eq_true,if_false];refine cq (cJ ?_);simp only [List.forIn_cons,List.forIn_nil];refine cq (cq ?_);refine cq (it.here ?_);simp only [Bool.not_true,Bool.false_eq_true,if_false];refine cJ (cJ (cq (ty.here (cq (cq (cq ((PySem.W.looks_subIn X h4).here ?_)))))))
 cases b with
 | true=>exact cJ (cJ (cJ q))
 | false=>exact cJ (cJ (cJ q))
theorem flight_same {M:Model} {A:Around} {E:Value->Shared->Prop} {vs:Array Value} {T:Addr} {c:Value} {d:Option Addr} {sl:Array (Option Value)} {Q:Unit->Shared->Prop} (he:s.heap.get? x=some ⟨c,d,.fields vs,sl⟩) (ht:Trail s.heap x vs (some T)) (q:Q () s):wpAny M A (setFlight (.ref x) none) Q E s:=by
 obtain ⟨h1,_,oT,ts,gT,dT,h3⟩:=ht;refine wpAny_setFlight_none he rfl h1 gT dT (c5.mp h3).1 ?_;rw [Heap.update_setField_same s.heap T oT ts 3 .none gT dT h3];exact q
theorem bK {M:Model} {A:Around} {E:Value->Shared->Prop} {i:Nat} {n:Str} {pos:Pos} {Q:Unit->Shared->Prop} (I:Inv X pins σ H s) (hN:X.N.Nodup) (hi:X.N[i]?=some n) (hk:X.env.scope.names.lookup n=some .local)
  (h:∀ s',Inv X pins (σ.set i none) H s'->Q () s'):wpAny M A (do bindName X.env n .none;unbindBehindTheSuite X.env n pos) Q E s:=by
 obtain ⟨m,hn,hl⟩:=id I.loc;have hcls:(X.env.scope.kind == .class || (X.env.scope.kind == .module && X.env.locals != X.env.globals))=false:=by rw [I.ok.kind];rfl
 have hiσ:i < σ.length:=by rw [I.len];exact (cI.mp hi).1
 have cne:=I.cne;obtain ⟨oL,_,_,hoL,_⟩:=id hn;have neL:∀ b o,X.s₀.heap.get? b=some o->b≠X.env.locals:=λ b o e=>cT (cF (cx e) I.ok.above);refine wpAny_nameGoes_keeps hk hn hcls λ h' v hn' hs=>h _ ⟨I.ok,I.os,I.bare,⟨λ b o e n hb hx=>?_,λ b o e n hb hx=>?_,I.base.free,λ b o e hx=>?_,I.base.tups,I.base.frzs,I.base.tbls⟩,⟨_,hn',λ j y v' e1 e2 e3=>?_⟩,λ y c e=>?_,I.free,I.freeC,λ p hp=>?_,λ b u e=>?_,by simpa using I.len⟩
 ·exact (hs.2 b (neL b o e)).trans (I.base.keep b o e n hb hx)
 ·obtain ⟨sl,e1⟩:=I.base.slot b o e n hb hx;exact ⟨sl,(hs.2 b (neL b o e)).trans e1⟩
 ·obtain ⟨o',e1⟩:=I.base.there b o e hx;exact ⟨o',(hs.2 b (neL b o e)).trans e1⟩
 ·by_cases hj:j=i
  ·subst hj;rw [List.getElem?_set_self hiσ] at e2
   cases e2
  ·rw [List.getElem?_set_ne (Ne.symm hj)] at e2;obtain ⟨u',r',q⟩:=hl j y v' e1 e2 e3;refine ⟨u',r',?_⟩;rcases q with ⟨k,e⟩ | ⟨k,c,e,z⟩
   ·refine .inl ⟨k,?_⟩
    have:y≠n:=λ e=>hj (nodup_ix hN e1 (e ▸ hi))
    simp [this,e]
   ·exact .inr ⟨k,c,e,z.sameBut hs (cne y c e)⟩
 ·obtain ⟨w',z⟩:=I.cell y c e;exact ⟨w',z.sameBut hs (cne y c e)⟩
 ·obtain ⟨e,n,ne,nf,d⟩:=I.pin p hp;exact ⟨(hs.2 p.1 ne).trans e,n,ne,nf,d⟩
 ·refine (I.hok b u e).stay (λ c w' hc q=>(hs.2 c ?_).trans q) (λ _ q=>q) λ _ _ q=>q;rintro rfl;rcases hc with z | z
  ·rw [<- z,I.free] at e;cases e
  ·rw [I.free] at z;cases z
noncomputable def XHeld (X:Cx) (pins:List (Addr × Obj)) (H:Hp) (h:Heap) (x:Addr) (cls:Value) (d:Option Addr):Prop:=
 H x=none/\Off X pins x/\∃ vs sl T,h.get? x=some ⟨cls,d,.fields vs,sl⟩/\Trail h x vs (some T)/\H T=none/\Off X pins T
noncomputable abbrev TH:=Ends->St->Value->Option Addr->Hp->Prop
noncomputable def PH (X:Cx) (hs:List ExceptHandler) (t:TH):Prop:=
 ∀ (pins:List (Addr × Obj)) (s:Shared) (σ:St) (H:Hp) (D:Ends) (x:Addr) (cls:Value) (d:Option Addr),Inv X pins σ H s->XHeld X pins H s.heap x cls d->t D σ cls d H->
  wpAny (model X.prog X.w) X.A (handleBy (.ref x) X.env hs) (SP X pins D) X.xe s
structure Catches (K:W.Frag) (C:Addr):Prop where
 tu:PySem.W.instIn K (.ref C) (.type "tuple")=some false
 cl:∃ cd,PySem.W.clsIn K C=some cd
 ex:PySem.W.subIn K (.ref C) (.type "BaseException")=some true
noncomputable def hNever:TH:=λ _ _ _ _ _=>False
theorem ph_never {hs:List ExceptHandler}:PH X hs hNever:=λ _ _ _ _ _ _ _ _ _ _ h=>h.elim
noncomputable def hAs (K:W.Frag) (C':Addr) (i:Nat) (t:TS) (tr:TH):TH:=λ D σ cls d H=>∃ C b,cls=.ref C/\PySem.W.subIn K (.ref C) (.ref C')=some b/\
 if b=true then ∀ x,H x=none->t { nx:=λ σ' H'=>D.nx (σ'.set i none) H',rt:=D.rt,bk:=λ σ' H'=>D.bk (σ'.set i none) H',ct:=λ σ' H'=>D.ct (σ'.set i none) H' } (σ.set i (some (.ref x))) (upd H x (XO x C d)) else tr D σ cls d H
theorem ph_as {y n:Str} {i:Nat} {C':Addr} {np pos:Pos} {b₀:Stmt} {suite:List Stmt} {rest:List ExceptHandler} {t:TS} {tr:TH} (hg:Gl X y) (hm:X.mg y=some (.ref C')) (hc:Catches X.K C') (hN:X.N.Nodup) (hi:X.N[i]?=some n) (hk:X.env.scope.names.lookup n=some .local)
  (hsu:∀ x,PSs (X.hnd x) (b₀ :: suite) t) (hr:PH X rest tr) (hd:(y == ("__debug__":Str))=false:=by decide):PH X (.ExceptHandler (some (.Name y np)) (some n) (b₀ :: suite) pos::rest) (hAs X.K C' i t tr):=by
 intro pins s σ H D x cls d I hx h;obtain ⟨C,b,rfl,hsub,q⟩:=h;obtain ⟨f1,f2,vs,sl,T,f3,f4,f5⟩:=id hx;obtain ⟨cd,hcd⟩:=hc.cl;refine wpAny_handleBy_cons (codeAny_handlers_test (bN (X:=X.hnd x) I.hnd hg hm (excMatches_K I.kIn f3 hc.tu hcd hc.ex hsub ?_) hd)) (by intro z;cases z)
 cases b with
 | false=>exact hr pins s σ H D x _ d I hx q
 | true=>
  have J:Inv X pins σ (upd H x (XO x C d)) s:=I.track f1 f2 ⟨⟨vs,sl,f3⟩,⟨_,f3⟩,λ h1 h2 ⟨vs',sl',e⟩ k=>⟨vs',sl',k _ e⟩⟩;refine codeAny_handlers_suite_as (flight_same f3 f4 (bf (v:=.ref x) J hN hi (.inl hk) rfl (λ s2 J2=>?_) (.inr hk)));refine db (hsu x pins s2 _ _ _ J2.hnd (q x f1)) (λ f s3 z=>?_) λ _ _ z=>z.elim;have z:=z.unhnd I.ok
  cases f with
  | next=>obtain ⟨σ',H',I',q'⟩:=z;exact bK I' hN hi hk λ s4 I4=>⟨_,H',I4,q'⟩
  | brk=>obtain ⟨σ',H',I',q'⟩:=z;exact bK I' hN hi hk λ s4 I4=>⟨_,H',I4,q'⟩
  | cont=>obtain ⟨σ',H',I',q'⟩:=z;exact bK I' hN hi hk λ s4 I4=>⟨_,H',I4,q'⟩
  | ret u=>obtain ⟨v,σ',H',I',r',q'⟩:=z;exact bK I' hN hi hk λ s4 I4=>⟨v,_,H',I4,r',q'⟩
noncomputable def tTry (tb:XK->TS) (th:TH):TS:=λ D σ H=>tb (λ cls d H'=>th D σ cls d H') D σ H
theorem ps_try {body:List Stmt} {h₀:ExceptHandler} {hs:List ExceptHandler} {pos:Pos} {tb:XK->TS} {th:TH} (hb:PSX X body tb) (hh:PH X (h₀ :: hs) th) (hex:X.ex=[]:=by rfl) (hstk:X.stack=X.env::X.outer:=by rfl) (hfr:X.env.frame=some X.env.locals:=by rfl) :
  PS X (.Try body (h₀ :: hs) [] [] pos) (tTry tb th):=by
 intro pins s σ H D I h;refine wpAny_Try_except (db (hb pins s σ H D _ I h) (λ f s1 q=>?_) λ e s1 q=>?_)
 ·cases f with
  | next=>exact wpAny_execs_nil q
  | ret v=>exact q
  | brk=>exact q
  | cont=>exact q
 ·obtain ⟨x,cls,d,H',rfl,I',⟨f1,f2,vs,sl,tr,f3,f4,f5⟩,q⟩:=q;refine noted_ok (env:=X.env) (outer:=X.outer) (by rw [<- hstk];exact I'.ok.frames) (by rw [<- hstk];exact I'.stack) hfr f3 rfl f4 λ h' N=>?_;have J:=I'.noted f1 f2 f5 (by rw [hstk];exact N);obtain ⟨vs',T,g1,_,g2,g3⟩:=N.exc;exact hh pins _ σ H' D x cls d J ⟨f1,f2,vs',sl,T,g1,g3,I'.hok.fresh g2,I'.off hex (Heap.get?_none_of_le g2)⟩ q
end
end L2
namespace L2
open PySem PySem.Spec PyProof.Rows
noncomputable def FnB (P:Program) (w:World) (K:W.Frag) (mg:Str->Option Value) (base:Heap) (CX:CXT) (x:Str) (k:Nat) (ps:List Str) (sp:Sp):Prop:=
 ∃ f fd,mg x=some (.ref f)/\PySem.W.keepIn K (.ref f)=true/\Binds K fd ps []/\FnOk P w K mg base CX k f fd ps sp
noncomputable def MtB (P:Program) (w:World) (K:W.Frag) (mg:Str->Option Value) (base:Heap) (CX:CXT) (C:Addr) (m:Str) (k:Nat) (ps:List Str) (sp:Sp):Prop:=
 ∃ f fd,Meth K C m f/\Binds K fd ps []/\FnOk P w K mg base CX k f fd ps sp
noncomputable def MkB (P:Program) (w:World) (K:W.Frag) (mg:Str->Option Value) (base:Heap) (CX:CXT) (C:Addr) (k:Nat) (ps:List Str) (dvs:List V) (sp:Sp):Prop:=
 ∃ f fd ds,Mk K C f/\Binds K fd ps ds/\Vals dvs ds/\FnOk P w K mg base CX k f fd ps sp
section
variable {P:Program} {w:World} {K:W.Frag} {mg:Str->Option Value} {base:Heap} {CX:CXT} {x m:Str} {C:Addr} {k:Nat} {ps:List Str} {sp:Sp} {dvs:List V}
end
section
variable {X:Cx} {CX:CXT} {k j:Nat} {C:Addr} {ps:List Str} {sp:Sp} {dvs:List V} {E:XK} {x m:Str} {p pos apos:Pos} {e o:Expr} {es:List Expr} {ta:TE} {t:TA}
theorem aF (F:FnB X.prog X.w X.K X.mg X.base CX x k ps sp) (hr:Room j X.A) (hx:bI CX X E) (ha:PA X (e::es) t) (hj:k<=j:=by decide) (hg:Gl X x:=by rfl) (hdb:(x == ("__debug__":Str))=false:=by decide)
  (he:starEach (e::es) X.env=(false,eval e X.env)::starEach es X.env:=by rfl) (hpl:(backTo pos (starEach es X.env)).any (·.1)=false:=by rfl):PE X (.Call (.Name x p) (e::es) [] pos) (tCall sp [] E t):=by
 obtain ⟨f,fd,a,b,c,d⟩:=F;exact pe_call d (hr.mono hj) hg a b c .nil hx ha hdb he hpl
theorem px_fn (F:FnB X.prog X.w X.K X.mg X.base (CX1 X.prog X.w) x k ps sp) (hr:Room j X.A) (ha:PA X.nox (e::es) t) (hj:k<=j:=by decide) (hg:Gl X x:=by rfl) (hex:X.ex=[]:=by rfl) (hdb:(x == ("__debug__":Str))=false:=by decide)
  (he:starEach (e::es) X.env=(false,eval e X.env)::starEach es X.env:=by rfl) (hpl:(backTo pos (starEach es X.env)).any (·.1)=false:=by rfl):PX X (.Call (.Name x p) (e::es) [] pos) (λ E=>tCall sp [] E t):=by
 obtain ⟨f,fd,a,b,c,d⟩:=F;exact px_call d (hr.mono hj) hg a b c .nil hex ha hdb he hpl
end
noncomputable def FDe (K:W.Frag) (mg:Str->Option Value) (x:Str) (st:Stmt) (ps:List Str):Prop:=∃ f fd,Fun K x x st f fd/\mg x=some (.ref f)/\Binds K fd ps []
noncomputable def MDe (K:W.Frag) (C:Addr) (x qual:Str) (st:Stmt) (ps:List Str):Prop:=∃ f fd,Fun K x qual st f fd/\Meth K C x f/\Binds K fd ps []
section
variable {P:Program} {w:World} {K:W.Frag} {mg:Str->Option Value} {base:Heap} {x qual:Str} {C:Addr} {st:Stmt} {N ps:List Str} {k:Nat} {sp:Sp}
theorem FDe.ok (F:FDe K mg x st ps) (S:FnScope N ps (af st)) (len:∀ vs H Q E,sp vs H Q E->vs.length=ps.length)
  (hbody:∀ (f:Addr) (cdv:Value) (A:Around) (outer:List Env) (s:Shared) (H:Hp) (vs:List V) (Q:VK) (E:XK),Room k (A.deeper (envOfC x (af st) s.heap.objs.size f cdv))->sp vs H Q E->
   ∃ t,PSs (aM CX0 P w K mg base N x (af st) f cdv A outer s H E).nox (aB st) t/\t { nx:=λ _ H'=>Q .non H',rt:=Q } (ba N vs) H):FnB P w K mg base CX0 x (k+1) ps sp:=
 let ⟨f,fd,a,b,c⟩:=F
 ⟨f,fd,b,a.kp,c,a.ok S len (hbody f)⟩
theorem MDe.ok (F:MDe K C x qual st ps) (S:FnScope N ps (af st)) (len:∀ vs H Q E,sp vs H Q E->vs.length=ps.length)
  (hbody:∀ (f:Addr) (cdv:Value) (A:Around) (outer:List Env) (s:Shared) (H:Hp) (vs:List V) (Q:VK) (E:XK),Room k (A.deeper (envOfC qual (af st) s.heap.objs.size f cdv))->sp vs H Q E->
   ∃ t,PSs (aM CX0 P w K mg base N qual (af st) f cdv A outer s H E).nox (aB st) t/\t { nx:=λ _ H'=>Q .non H',rt:=Q } (ba N vs) H):MtB P w K mg base CX0 C x (k+1) ps sp:=
 let ⟨f,fd,a,b,c⟩:=F
 ⟨f,fd,b,c,a.ok S len (hbody f)⟩
theorem FDe.okX (F:FDe K mg x st ps) (S:FnScope N ps (af st)) (len:∀ vs H Q E,sp vs H Q E->vs.length=ps.length)
  (hbody:∀ (f:Addr) (cdv:Value) (A:Around) (outer:List Env) (s:Shared) (H:Hp) (vs:List V) (Q:VK) (E:XK),Room k (A.deeper (envOfC x (af st) s.heap.objs.size f cdv))->sp vs H Q E->
   ∃ t,PSs (aM (CX1 P w) P w K mg base N x (af st) f cdv A outer s H E) (aB st) t/\t { nx:=λ _ H'=>Q .non H',rt:=Q } (ba N vs) H):FnB P w K mg base (CX1 P w) x (k+1) ps sp:=
 let ⟨f,fd,a,b,c⟩:=F
 ⟨f,fd,b,a.kp,c,a.okX S len (hbody f)⟩
end
noncomputable def FunG (K:W.Frag) (x qual:Str) (st:Stmt) (f:Addr) (fd:FuncData):Prop:=∃ (oc:Value) (od:Option Addr) (dV kV doc pm:Value) (an:Option Addr) (cdv ct:Value) (osl:Array (Option Value)),
  fd=PySem.W.fnOf x qual (aT st) (aB st) (af st) dV kV doc pm an cdv ct/\K.lookup f=some ⟨oc,od,.func fd,osl⟩/\PySem.W.codeIn K cdv qual=true
structure FunD (K:W.Frag) (x qual:Str) (st:Stmt) (f:Addr) (fd:FuncData) (ds:Array Value):Prop where
 ex:∃ (oc:Value) (od:Option Addr) (T:Addr) (kV doc pm:Value) (an:Option Addr) (cdv ct:Value) (osl:Array (Option Value)) (o:Obj) (n:Nat),
  fd=PySem.W.fnOf x qual (aT st) (aB st) (af st) (.ref T) kV doc pm an cdv ct/\K.lookup f=some ⟨oc,od,.func fd,osl⟩/\PySem.W.codeIn K cdv qual=true/\K.lookup T=some o/\o.data=.seq ds n
section
variable {P:Program} {w:World} {K:W.Frag} {mg:Str->Option Value} {base:Heap} {x qual:Str} {C:Addr} {st:Stmt} {f:Addr} {fd:FuncData} {ds:Array Value} {N ps:List Str} {k:Nat} {sp:Sp}
theorem FunD.gen (F:FunD K x qual st f fd ds):FunG K x qual st f fd:=by
 obtain ⟨oc,od,T,kV,doc,pm,an,cdv,ct,osl,_,_,e,l,c,_⟩:=F.ex
 exact ⟨oc,od,.ref T,kV,doc,pm,an,cdv,ct,osl,e,l,c⟩
theorem FunD.binds {es:List Value} (F:FunD K x qual st f fd ds)
  (h:∀ (T:Addr) (kV doc pm:Value) (an:Option Addr) (cdv ct:Value) (us:List Value),(us++es).length=ps.length->∃ k,bindArgs (PySem.W.fnOf x qual (aT st) (aB st) (af st) (.ref T) kV doc pm an cdv ct) ⟨us,[]⟩=seqItems? (.ref T) >>= k/\k (some ds)=pure (ps.zip (us++es))):Binds K fd ps es:=by
 obtain ⟨oc,od,T,kV,doc,pm,an,cdv,ct,osl,o,n,rfl,lk,hcd,lt,hd⟩:=F.ex;intro s us KX hl;obtain ⟨k,h1,h2⟩:=h T kV doc pm an cdv ct us hl;exact PySem.W.binds_K KX rfl lt hd h1 h2
theorem funD_mk {T:Addr} {oc:Value} {od an:Option Addr} {osl:Array (Option Value)} {kV doc pm cdv ct:Value} {o:Obj} {n:Nat} (l:K.lookup f=some ⟨oc,od,.func (PySem.W.fnOf x qual (aT st) (aB st) (af st) (.ref T) kV doc pm an cdv ct),osl⟩)
  (c:PySem.W.codeIn K cdv qual=true) (t:K.lookup T=some o) (hd:o.data=.seq ds n):FunD K x qual st f (PySem.W.fnOf x qual (aT st) (aB st) (af st) (.ref T) kV doc pm an cdv ct) ds:=⟨⟨oc,od,T,kV,doc,pm,an,cdv,ct,osl,o,n,rfl,l,c,t,hd⟩⟩
theorem FunG.ok (F:FunG K x qual st f fd) (S:FnScope N ps (af st)) (len:∀ vs H Q E,sp vs H Q E->vs.length=ps.length)
  (hbody:∀ (cdv:Value) (A:Around) (outer:List Env) (s:Shared) (H:Hp) (vs:List V) (Q:VK) (E:XK),Room k (A.deeper (envOfC qual (af st) s.heap.objs.size f cdv))->sp vs H Q E->
   ∃ t,PSs (aM CX0 P w K mg base N qual (af st) f cdv A outer s H E).nox (aB st) t/\t { nx:=λ _ H'=>Q .non H',rt:=Q } (ba N vs) H):FnOk P w K mg base CX0 (k+1) f fd ps sp:=by
 obtain ⟨oc,od,dV,kV,doc,pm,an,cdv,ct,osl,rfl,lk,hcd⟩:=F;refine fn_of lk hcd S len λ A outer s H vs Q E hr hsp=>?_;obtain ⟨t,h,q⟩:=hbody cdv A outer s H vs Q E hr hsp;exact ⟨t,h.nox,q⟩
noncomputable def IDe (K:W.Frag) (C:Addr) (qual:Str) (st:Stmt) (ps:List Str) (dvss:List (List V)):Prop:=∃ f fd,FunG K "__init__" qual st f fd/\Mk K C f/\∀ dvs∈dvss,∃ es,Vals dvs es/\Binds K fd ps es
theorem IDe.ok {dvss:List (List V)} (F:IDe K C qual st ps dvss) (S:FnScope N ps (af st)) (len:∀ vs H Q E,sp vs H Q E->vs.length=ps.length)
  (hbody:∀ (f:Addr) (cdv:Value) (A:Around) (outer:List Env) (s:Shared) (H:Hp) (vs:List V) (Q:VK) (E:XK),Room k (A.deeper (envOfC qual (af st) s.heap.objs.size f cdv))->sp vs H Q E->
   ∃ t,PSs (aM CX0 P w K mg base N qual (af st) f cdv A outer s H E).nox (aB st) t/\t { nx:=λ _ H'=>Q .non H',rt:=Q } (ba N vs) H):∀ dvs∈dvss,MkB P w K mg base CX0 C (k+1) ps dvs sp:=λ dvs hd=>
 let ⟨f,fd,a,b,c⟩:=F
 let ⟨es,v,d⟩:=c dvs hd
 ⟨f,fd,es,b,d,v,a.ok S len (hbody f)⟩
end
end L2
namespace L2
open PySem PySem.Spec PyProof.Rows PySem.W PySem.Calls
theorem weight_mem:∀ (ns:List Int) (n:Int),n∈ns->Builtin.Int.intBits n<=WData.weightAll (ns.map WData.int)
 | m::r,n,h=>by
  rw [List.map_cons];show Builtin.Int.intBits n<=WData.weight (.int m)+1+WData.weightAll (r.map WData.int);rcases cQ.mp h with z | z
  ·subst z
   have:WData.weight (.int n)=Builtin.Int.intBits n:=by
    simp only [WData.weight,Builtin.Int.intBits]
   omega
  ·have:=weight_mem r n z
   omega
theorem bits_of_lay {ns:List Int} (h:WData.layableAll [WData.list (ns.map WData.int)]=true):∀ n∈ns,Builtin.Int.intBits n<=2 ^ 20:=λ n hn=>by
 have h1:(WData.list (ns.map WData.int)).layable=true:=by
  unfold WData.layableAll at h;simpa using h
 have h2:=(layableW_iff.mp h1).2.2;have h3:=weight_mem ns n hn;exact cn h3 h2
theorem walk_ofB {l:PySem.W.OpenLaw} {n k:Nat} {q:Program} {loose:List Str} {XP:(Str->Option Value)->Heap->Prop} {YP:World->Heap->Prop} {d:DefRec} {K:Params->W.Frag} {CX:World->CXT} {sp:World->Sp} {x:Str}
  (hn:l.most=some n) (hn2:n<=sizeLine) (hdf:d.params.defaults=[]) (hr:Room k callerA)
  (hY:∀ (w:World) (h:Heap),YP w h->(K w.params).In h)
  (F:∀ (w:World) (mg:Str->Option Value) (fa:Addr) (h:Heap),(K w.params).In h->h.Ns mainGlobals mg->mg d.name=some (.ref fa)->
   ∃ fd:FuncData,(∀ (s:Shared) (u:Value),BindsTo s fd ⟨[u],[]⟩ [(x,u)])/\
    ∀ base:Heap,(K w.params).In base->base.Ns mainGlobals mg->FnOk l.prog w (K w.params) mg base (CX w) k fa fd [x] (sp w))
  (hsp:∀ (w:World) (H:Hp) (a:Addr) (ns:List Int),ns.length<=n->(∀ i∈ns,Builtin.Int.intBits i<=2 ^ 20)->Only H->SqL (K w.params) H a (ns.map V.int)->sp w [.ref a] H (λ v _=>v=.bl true) λ _ _ _=>False)
  (hCX:∀ (w:World) (H:Hp) (s:Shared) (e:Value) (s':Shared),CX w [] H s (λ _ _ _=>False) e s'->False) :
  PySem.W.WalkO q loose XP YP l.row.toRowW d [] (λ f vs=>PySem.call f vs):=by
 intro w s₀ s₁ mg mb G Y fa o pm cd doc dV kV ho hd hcd hD hmg hg args vals as hpre hlay hrd hwl hlo;obtain rfl:dV=.none:=Dflts.none hD hdf;obtain rfl:kV=.none:=Dflts.noKw hD;obtain ⟨a,vs,ns,rfl,rfl,hobj,hints,hlen⟩:=Att.script_of hn hpre hwl;have hbits:=bits_of_lay hlay;have KX:=hY w _ Y;obtain ⟨fd,hb,hF⟩:=F w mg fa _ KX G.T.g hmg;refine enter_call (codeAny_mono (law_call KX G.T.g G.T.b G.T.builtins G.T.nolimit hg hobj hints (cn hlen hn2) hr hF hb (λ H hO hS=>hsp w H a ns hlen hbits hO hS) λ H e s'=>hCX w H s₁ e s') λ r s' hq=>?_);obtain ⟨rfl,h2,h3,h4⟩:=hq;exact ⟨.inl ⟨.bool true,.bool true,[],rfl,λ _=>rfl,.bool true,Att.post_true l _,λ _=>⟨List.Pairwise.nil,λ _ hm=>(nomatch hm)⟩⟩,h2,h3,h4⟩
section
variable {X:Cx}
theorem op_mulG:OpR X (binaryOp .Mult) (rI IntMulOk λ i j=>.int (i*j)):=opI λ _ _ _ _ _ _ _ hc q=>mul_int q hc
end
end L2
namespace L2
open PySem PySem.Spec PyProof.Rows
section
variable {prog:Program} {w:World} {A:Around} {E:Value->Shared->Prop} {s:Shared} {K:W.Frag} {x D:Addr} {ox:Obj} {od:Option Obj} {name:Str}
structure ExA (K:W.Frag) (D:Addr):Prop where
 ga:PySem.W.findIn K (.ref D) "__getattribute__"=some (some (.builtin "BaseException.__getattribute__"))
 gh:PySem.W.findIn K (.ref D) "__getattr__"=some none
 be:PySem.W.mroIn K D (.type "BaseException")=some true
 ca:PySem.W.findIn K (.ref D) "__class__"=some (some (.builtin "object.__class__"))
 gs:PySem.W.specialIn K (.builtin "object.__class__") "__get__"=some (some (.builtin "getset_descriptor.__get__"))
 tk:PySem.W.takesIn K (.builtin "object.__class__")=some true
 ob:PySem.W.mroIn K D (.type "object")=some true
 cl:∃ cd,PySem.W.clsIn K D=some cd
theorem exc_check {nameV:Value} {Q:Unit->Shared->Prop} (a:ExA K D) (X:K.In s.heap) (I:PySem.W.InstAt s.heap x ox D od) (hq:Q () s):wpAny (model prog w) A (checkBuiltinCall "BaseException.__getattribute__" ⟨[.ref x,nameV],[]⟩) Q E s:=by
 have hk:builtinKind "BaseException.__getattribute__"=some .slot:=by decide +kernel
 have hsplit:splitId "BaseException.__getattribute__"=some ("BaseException","__getattribute__"):=by decide +kernel
 have ha:=F.args_bexc_ga (.ref x) nameV;have LI:PySem.W.Looks (model prog w) s.heap (isInstance (.ref x) (.type "BaseException")) true:=I.type.andThen (PySem.W.looks_mroIn X a.be);obtain ⟨hh,g,d,t,os⟩:=s;simp only [checkBuiltinCall,hk,hsplit];refine cq (LI.at ?_)
 repeat (first | assumption | wp_step)
theorem exc_call_cls {tk:Tok} {R:Result->Shared->Prop} (a:ExA K D) (X:K.In s.heap) (I:PySem.W.InstAt s.heap x ox D od) (hq:R (.ok (.ret (.ref D))) s) :
  codeAny (model prog w) A (.call (.builtin "BaseException.__getattribute__") ⟨[.ref x,.str "__class__" tk],[]⟩) R s:=by
 refine codeAny_call_builtin F.excAttr_ValueError.ga.plain F.entry_bexc_ga (exc_check a X I ?_)
 have hf:PySem.W.findObj K D od "__class__"=some (.bind (.builtin "getset_descriptor.__get__") (.builtin "object.__class__")):=by
  obtain ⟨cd,hc⟩:=a.cl;unfold PySem.W.findObj;rw [hc,Option.bind_some,a.ca,Option.bind_some];simp [a.gs,a.tk]
 have L0:=I.type (M:=model prog w);have L1:=PySem.W.looks_find (M:=model prog w) X I hf;obtain ⟨hh,g,d,t,os⟩:=s;refine cq (cJ ?_);refine cq (cJ ?_);refine cq (L0.at (cq (L1.at ?_)));refine cq (wpAny_holding (wpAny_call (PySem.W.class_get (s:=⟨hh,g,d,t,os⟩) X I a.ob ?_)));exact cJ hq
theorem exc_by {tk:Tok} {fill expr:Bool} {v:Value} {Q:Value->Shared->Prop} (a:ExA K D) (X:K.In s.heap) (I:PySem.W.InstAt s.heap x ox D od) (hv:PySem.W.handedIn v=true)
  (h:∀ (A:Around) (R:Result->Shared->Prop),R (.ok (.ret v)) s->codeAny (model prog w) A (.call (.builtin "BaseException.__getattribute__") ⟨[.ref x,.str name tk],[]⟩) R s) (q:Q v s) :
  wpAny (model prog w) A (getAttrBy (.ref x) (.str name tk) fill expr) Q E s:=by
 have L0:=I.type (M:=model prog w);have L1:=PySem.W.looks_findIn (M:=model prog w) X a.ga;have L2:=PySem.W.looks_findIn (M:=model prog w) X a.gh;have f3:=F.excAttr_ValueError.ga.bind (.ref x);obtain ⟨hh,g,d,t,os⟩:=s;unfold getAttrBy;refine wpAny_holding (cq (L0.at (cq (L1.at ?_))));have hx2:(Value.builtin "BaseException.__getattribute__" == Value.builtin "object.__getattribute__")=false:=by decide +kernel
 have hx0:(expr && onTheHeap (Value.builtin "BaseException.__getattribute__"))=false:=by cases expr <;> rfl
 dsimp only;rw [hx2,Bool.and_false];simp only [Bool.false_eq_true,if_false];unfold getAttrByItsOwn hookBefore callGetattribute boundAndCalled;rw [hx0];simp only [Bool.false_eq_true,if_false,onTheHeap,if_true];refine cq (L2.at ?_);refine cq (wpAny_attempt (wpAny_holding ?_));rw [f3];refine cq (cJ ?_);refine wpAny_call (h _ _ ?_);exact PySem.W.handed_on hv q
theorem exc_cls {Q:Option Value->Shared->Prop} (a:ExA K D) (X:K.In s.heap) (I:PySem.W.InstAt s.heap x ox D od) (h:Q (some (.ref D)) { s with toks:=s.toks+1 }):wpAny (model prog w) A (getAttr? (.ref x) "__class__") Q E s:=by
 obtain ⟨hh,g,d,t,os⟩:=s;unfold getAttr? getAttrBy?;refine cq (wpAny_mkText (cq (wpAny_attempt ?_)));exact exc_by (s:=⟨hh,g,d,t+1,os⟩) a X I rfl (λ A R q=>exc_call_cls (s:=⟨hh,g,d,t+1,os⟩) a X I q) (cJ h)
theorem kitx_exc (a:ExA K D):PySem.W.KitX K (.ref x) (.ref D) (λ h=>∃ ox od,PySem.W.InstAt h x ox D od) where
 ty:=λ _ _ _ ⟨_,_,I⟩=>I.type
 it:=λ _ _ X _=>by
  obtain ⟨cdD,hcD⟩:=a.cl;unfold PySem.W.clsIn at hcD
  split at hcD
  ·rename_i c' d' cd' sl' ho;intro A' Q' E' s' k q;unfold isType loadHead;exact cq (wpAny_loadPart (k _ _ (X _ _ ho)) (cJ q))
  ·cases hcD
 ne:=λ h tp dd its n sl X htp=>by
  obtain ⟨cdD,hcD⟩:=a.cl;refine Bool.eq_false_iff.mpr λ q=>?_;have e:D=tp:=Value.ref.inj (beq_iff_eq.mp q);subst e;unfold PySem.W.clsIn at hcD
  split at hcD
  ·rename_i c' d' cd' sl' ho;have z:=(X _ _ ho).symm.trans htp
   cases z
  ·cases hcD
 ca:=λ X ⟨_,_,I⟩ k=>exc_cls a X I k
end
section
variable {X:Cx}
noncomputable def XAt (H:Hp) (x D:Addr):Prop:=H x=some (XO x D none)
noncomputable def rIsX (K:W.Frag) (c:Value):List V->Hp->VK->Prop:=λ vs H Q=>∃ x D y b,vs=[.ref x,y]/\(∀ u,RelV y u->u=c)/\XAt H x D/\ExA K D/\PySem.W.kitOne K (.ref D) c=some b/\Q (.bl b) H
theorem a4 {c:Value}:bJ X (.builtin "isinstance") (rIsX X.K c):=by
 intro pins s σ H xs us Q I r h;obtain ⟨x,D,y,b,rfl,hc,hx,ea,e,q⟩:=h
 cases r with
 | cons r1 r2=>
  cases r2 with
  | cons r3 r4=>
   cases r4
   have:=hc _ r3
   subst this
   cases r1;obtain ⟨⟨vs,sl,g⟩,_⟩:=(show ObjOk X.prog X.w H s.heap x (XO x D none) from I.hok x _ hx);exact cV (kitx_exc ea) I.kIn ⟨_,none,g,rfl,rfl,True.intro⟩ e (λ z=>nomatch z) λ tk=>⟨.bl b,H,I.tok tk,rfl,q⟩
noncomputable def eqVs:List V->List V->Bool
 | [],[]=>true
 | x::xs,y::ys=>eqV x y && eqVs xs ys
 | _,_=>false
theorem bh {xs:List V} {us:List Value} (r:Vals xs us):∀ {j:Nat} {x:V} {u:Value},xs[j]?=some x->us[j]?=some u->RelV x u:=by
 induction r with
 | nil=>intro j x u h;cases h
 | cons r1 _ ih=>
  intro j x u h1 h2
  cases j with
  | zero=>cases h1;cases h2;exact r1
  | succ j=>exact ih h1 h2
inductive IrEqL (K:W.Frag) (x:V) (y:V) (H:Hp) (Q:VK):Prop
 | mk (p:_) (q:_) (xs:_) (ys:_) (h1:x=.ref p) (h2:y=.ref q) (h3:SqL K H p xs) (h4:SqL K H q ys) (h5:xs.all a3=true) (h6:ys.all a3=true) (h7:Q (.bl (eqVs xs ys)) H):IrEqL K x y H Q
theorem boot_ValueError:bootBuiltins "ValueError"=some (.type "ValueError"):=by decide +kernel
end
end L2
namespace L2
open PySem PySem.Spec PyProof.Rows
inductive ItMethD (P:Program) (w:World) (K:W.Frag) (mg:Str->Option Value) (base:Heap) (CX:CXT) (m:Str) (j:Nat) (E:XK) (t:TA) (σ:St) (Q:VK) (x:V) (H1:Hp):Prop
 | mk (a:_) (C:_) (dx:_) (fs:_) (k:_) (ps:_) (sp:_) (h1:x=.ref a) (h2:H1 a=some (.ins C dx fs)) (h3:fs.lookup m=none) (h4:Cls K C) (h5:k<=j) (h6:MtB P w K mg base CX C m k ps sp) (h7:t σ H1 λ vs H2=>sp ((.ref a::vs)++[]) H2 Q E):ItMethD P w K mg base CX m j E t σ Q x H1
structure ClsRd (K:W.Frag) (C:Addr):Prop where
 rd:PySem.W.readsIn K C (.type "type")=true
 sg:PySem.W.specialIn K (.ref C) "__getattribute__"=some (some (.builtin "type.__getattribute__"))
section
variable {X:Cx} {CX:CXT} {k j:Nat} {C:Addr} {ps:List Str} {sp:Sp} {E:XK} {x m:Str} {p pos apos:Pos} {e o:Expr} {es:List Expr} {ta:TE} {t:TA}
end
section
variable {P:Program} {w:World} {K:W.Frag} {mg:Str->Option Value} {base:Heap} {x qual:Str} {C:Addr} {st:Stmt} {N ps:List Str} {k:Nat} {sp:Sp}
end
end L2
namespace L2
open PySem PySem.Spec PyProof.Rows
section
variable {prog:Program} {w:World} {A:Around} {E:Value->Shared->Prop} {s:Shared}
end
section
variable {X:Cx} {pos:Pos}
end
end L2
namespace L2
open PySem PySem.Spec PyProof.Rows
end L2
namespace L2
open PySem PySem.Spec PyProof.Rows
section
variable {X:Cx}
theorem isPart_of {v:Value} {i:Option Int} (h:IsPart v i):∃ l:Option (Int × Tok),v=partValue l/\l.map (·.1)=i:=by
 cases h with
 | none=>exact ⟨none,rfl,rfl⟩
 | int i t=>exact ⟨some (i,t),rfl,rfl⟩
noncomputable def rSlS:V->Option Int->Option Int->Hp->VK->Prop:=λ x lo hi H Q=>∃ z,x=.str z/\z.length<=sizeLine/\Q (.str (Txt.slice z lo hi)) H
theorem bS:SlR X rSlS:=by
 intro pins s σ H x v vl vu lo hi sl Q I rx hs pl pu h;obtain ⟨z,rfl,hz,q⟩:=h;obtain ⟨t,rfl⟩:=rx;obtain ⟨l,rfl,rfl⟩:=isPart_of pl;obtain ⟨u,rfl,rfl⟩:=isPart_of pu;obtain ⟨o,ho,hc,hd⟩:=hs
 exact ⟨"str",_,F.slot_str_getitem.lookup,c8 _ _ _,wpAny_getItem_str_slice (l:=l) (u:=u) (st:=none) ⟨o,ho,hc,hd⟩ rfl
  (post_val_or_str ⟨cn (Txt.slice_le z _ _) hz,λ t' k=>⟨.str (Txt.slice z (l.map (·.1)) (u.map (·.1))),H,I.tok k,⟨t',rfl⟩,q⟩⟩)⟩
theorem pe_gi {x:Str} {i:Int} {pos:Pos} (h:∃ tk,X.mg x=some (.int i tk)) (hg:Gl X x:=by rfl) (hd:(x == ("__debug__":Str))=false:=by decide):PE X (.Name x pos) (tC (.int i)):=by
 obtain ⟨tk,h⟩:=h;exact aX hg h ⟨tk,rfl⟩ hd
inductive IrEqN (K:W.Frag) (x:V) (y:V) (H:Hp) (Q:VK):Prop
 | mk (p:_) (q:_) (xs:_) (h1:x=.ref p) (h2:y=.ref q) (h3:SqL K H p xs) (h4:SqL K H q []) (h5:Q (.bl xs.isEmpty) H):IrEqN K x y H Q
inductive IrNeN (K:W.Frag) (x:V) (y:V) (H:Hp) (Q:VK):Prop
 | mk (p:_) (q:_) (xs:_) (h1:x=.ref p) (h2:y=.ref q) (h3:SqL K H p xs) (h4:SqL K H q []) (h5:Q (.bl (!xs.isEmpty)) H):IrNeN K x y H Q
end
end L2
namespace L2
open PySem PySem.Spec PyProof.Rows
section
variable {κ:Type} [DecidableEq κ]
noncomputable def valV (kvs:List (κ × V)) (k:κ):Option V:=(kvs.find? λ kv=>decide (kv.1=k)).map (·.2)
noncomputable def putK (kvs:List (κ × V)) (k:κ) (v:V):List (κ × V):=
 if (kvs.any λ kv=>decide (kv.1=k))=true then kvs.map (λ kv=>if kv.1=k then (kv.1,v) else kv) else kvs++[(k,v)]
noncomputable def dropK (kvs:List (κ × V)) (k:κ):List (κ × V):=kvs.filter λ kv=>decide (kv.1≠k)
theorem valV_pos {p:κ × V} {r:List (κ × V)} {k:κ} (e:p.1=k):valV (p::r) k=some p.2:=by simp [valV,List.find?_cons,e]
theorem valV_neg {p:κ × V} {r:List (κ × V)} {k:κ} (e:¬ p.1=k):valV (p::r) k=valV r k:=by simp [valV,List.find?_cons,e]
theorem length_putK (kvs:List (κ × V)) (k:κ) (v:V):(putK kvs k v).length<=kvs.length+1:=by
 unfold putK
 split
 ·rw [cA];omega
 ·rw [cZ,cH,List.length_nil];omega
end
theorem kV_is {P:Program} {w:World} {k:Key} {u:Value} (r:RelV (kV k) u):(ck P w).is k u=true:=by
 cases k with
 | inl i=>obtain ⟨t,e⟩:=(show ∃ t,u=Value.int i t from r);subst e;exact mixKind_int P w i t
 | inr x=>obtain ⟨t,e⟩:=(show ∃ t,u=Value.str x t from r);subst e;exact mixKind_str P w x t
theorem kV_inj {a b:Key} (e:kV a=kV b):a=b:=by
 cases a with
 | inl i=>cases b with
  | inl j=>have e':V.int i=V.int j:=e;injection e' with e';rw [e']
  | inr y=>exact nomatch (show V.int i=V.str y from e)
 | inr x=>cases b with
  | inl j=>exact nomatch (show V.str x=V.int j from e)
  | inr y=>have e':V.str x=V.str y:=e;injection e' with e';rw [e']
noncomputable abbrev KT (H:Hp):List (List Key × V)->List (List Key × Addr × Value)->Prop:=Paired λ p q=>p.1=q.1/\H q.2.1=some (.tup (p.1.map kV))/\RelV p.2 q.2.2
section
variable {P:Program} {w:World} {H:Hp} {h:Heap} {a:Addr}
end
noncomputable def DGet (H:Hp) (a:Addr) (y:V) (r:Option V):Prop:=
 (∃ kvs k,Rd H a (.dK kvs)/\y=kV k/\r=valV kvs k)∨∃ kvs k b,Rd H a (.dT kvs)/\y=.ref b/\H b=some (.tup (k.map kV))/\r=valV kvs k
noncomputable def DPut (H:Hp) (a:Addr) (y v:V) (H':Hp):Prop:=
 (∃ kvs k,H a=some (.dK kvs)/\y=kV k/\kvs.length<sizeLine/\H'=upd H a (.dK (putK kvs k v)))∨
 ∃ kvs k b,H a=some (.dT kvs)/\y=.ref b/\H b=some (.tup (k.map kV))/\kvs.length<sizeLine/\H'=upd H a (.dT (putK kvs k v))
section
variable {X:Cx} {pins:List (Addr × Obj)} {σ:St} {H:Hp} {s:Shared} {a:Addr} {y v:V} {u r:Value} {o:Option V} {A:Around} {E:Value->Shared->Prop}
end
section
variable {X:Cx} {pins:List (Addr × Obj)} {σ:St} {H:Hp} {s:Shared} {a:Addr} {kvs:List (Key × V)} {k:Key} {u:Value} {A:Around} {E:Value->Shared->Prop}
end
inductive ItDGet (Q:VK) (x:V) (y:V) (H2:Hp):Prop
 | mk (a:_) (v:_) (h1:x=.ref a) (h2:DGet H2 a y (some v)) (h3:Q v H2):ItDGet Q x y H2
section
variable {X:Cx} {o i e value:Expr} {pos pos' tpos:Pos} {td ty tv:TE}
end
section
variable {X:Cx} {pos:Pos}
end
noncomputable def tPairs:List (TE × TE)->St->Hp->(List (V × V)->Hp->Prop)->Prop
 | [],_,H,Q=>Q [] H
 | (tk,tv)::r,σ,H,Q=>tk σ H λ x H1=>tv σ H1 λ y H2=>tPairs r σ H2 λ ps H3=>Q ((x,y)::ps) H3
noncomputable abbrev VV:List (V × V)->List (Value × Value)->Prop:=Paired λ p q=>RelV p.1 q.1/\RelV p.2 q.2
noncomputable def mergeK (kvs more:List (Key × V)):List (Key × V):=more.foldl (λ acc kv=>putK acc kv.1 kv.2) kvs
structure M1 (X:Cx) (o:Expr) (m:Str) (apos:Pos) (e:Expr) (cpos:Pos):Prop where
 base:attributeBase o m X.env (eval o X.env)=eval o X.env
 few:((backTo cpos (starEach [e] X.env)).all (λ x=>!x.1) && (backToKw cpos (keywordEach [] X.env)).all (λ x=>x.1.isSome)
  && decide (([e]:List Expr).length+([]:List Keyword).length+(if ([]:List Keyword).isEmpty then 0 else 1)<30))=true
 line:(apos.endLine == cpos.line)=true
 trees:backTo cpos (starEach [e] X.env)=[(false,eval e X.env)]
noncomputable def IsD (H:Hp) (a:Addr):Prop:=(∃ kvs,Rd H a (.dK kvs))∨∃ kvs,Rd H a (.dT kvs)
section
variable {X:Cx} {pins:List (Addr × Obj)} {σ:St} {H:Hp} {s:Shared} {a:Addr} {y d:V} {u r:Value} {o:Option V} {A:Around} {E:Value->Shared->Prop}
end
section
variable {X:Cx} {o e f:Expr} {apos cpos:Pos} {td ty tx:TE}
end
section
variable {X:Cx} {pins:List (Addr × Obj)} {σ:St} {H:Hp} {s:Shared} {a:Addr} {kvs:List (Key × V)} {A:Around} {E:Value->Shared->Prop}
end
section
variable {X:Cx} {pins:List (Addr × Obj)} {σ:St} {H:Hp} {s:Shared} {a:Addr} {y:V} {u:Value} {A:Around} {E:Value->Shared->Prop}
end
end L2
namespace L2
open PySem PySem.Spec PyProof.Rows
section
variable {X:Cx}
end
end L2
namespace L2
open PySem PySem.Spec PyProof.Rows
section
variable {κ:Type} [DecidableEq κ]
theorem dropK_pos {p:κ × V} {r:List (κ × V)} {k:κ} (e:p.1=k):dropK (p::r) k=dropK r k:=by
 unfold dropK;rw [List.filter_cons,if_neg (by simp [e])]
theorem dropK_neg {p:κ × V} {r:List (κ × V)} {k:κ} (e:¬ p.1=k):dropK (p::r) k=p::dropK r k:=by
 unfold dropK;rw [List.filter_cons,if_pos (by simp [e])]
theorem dropK_no:∀ {kvs:List (κ × V)} {k:κ},¬ k∈kvs.map (·.1)->dropK kvs k=kvs
 | [],_,_=>rfl
 | p::r,k,h=>by
  have h':¬ k∈r.map (·.1):=λ m=>by
   obtain ⟨q,hq,e⟩:=List.mem_map.mp m;exact h (List.mem_map.mpr ⟨q,cQ.mpr (Or.inr hq),e⟩)
  rw [dropK_neg λ e=>h (List.mem_map.mpr ⟨p,cQ.mpr (Or.inl rfl),e⟩),dropK_no h']
theorem dropK_mem {kvs:List (κ × V)} {k:κ} {p:κ × V} (h:p∈dropK kvs k):p∈kvs:=(List.mem_filter.mp h).1
end
end L2
namespace L2
open PySem PySem.Spec PyProof.Rows
section
variable {X:Cx}
noncomputable def PTs (X:Cx) (ifs:List Expr) (t:TT):Prop:=
 ∀ (pins:List (Addr × Obj)) (s:Shared) (σ:St) (H:Hp) (Q:Bool->Hp->Prop),Inv X pins σ H s->t σ H Q->
  wpAny (model X.prog X.w) X.A (forIn ifs true λ c r=>if r=true then do let ok <- isTrue c X.env (eval c X.env);pure (ForInStep.yield ok) else pure (ForInStep.yield r)) (TP X pins σ Q) X.xe s
noncomputable def tYes:TT:=λ _ H Q=>Q true H
theorem pts_nil:PTs X [] tYes:=λ pins s σ H Q I h=>wpAny_tests_nil ⟨H,I,h⟩
noncomputable def ClSub (X:Cx):List (Str × Addr)->Prop
 | []=>True
 | p::r=>X.env.cells.lookup p.1=some p.2/\ClSub X r
theorem ClSub.at:∀ {cl:List (Str × Addr)},ClSub X cl->∀ y c,cl.lookup y=some c->X.env.cells.lookup y=some c
 | [],_,y,c,e=>by simp at e
 | (z,d)::r,h,y,c,e=>by
  by_cases q:y=z
  ·subst q;simp at e;subst e;exact h.1
  ·rw [List.lookup_cons,cW.mpr q] at e;exact ClSub.at h.2 y c e
theorem lookup_has {cl:List (Str × Addr)} {y:Str}:y∈cl.map (·.1)->∃ c,cl.lookup y=some c:=by
 induction cl with
 | nil=>intro h;simp at h
 | cons p r ih=>
  intro h;by_cases q:y=p.1
  ·subst q;exact ⟨p.2,by cases p;simp⟩
  ·obtain ⟨c,e⟩:=ih (by
    rcases cQ.mp h with z | z
    ·exact absurd z q
    ·exact z)
   exact ⟨c,by rw [List.lookup_cons,cW.mpr q];exact e⟩
theorem bR {scope:Scope} {env:Env} {z:Str} {k:NameKind} (h:(z,k)∈(relabel scope env).names) (hk:k=.cell∨k=.free):(z,NameKind.cell)∈scope.names∨(z,NameKind.free)∈scope.names:=by
 unfold relabel at h;obtain ⟨⟨n,k'⟩,hm,e⟩:=List.mem_map.mp h;dsimp only at e
 split at e
 ·rename_i c
  cases e
  have:k'=.free:=by
   have:=(Bool.and_eq_true_iff.mp (Bool.and_eq_true_iff.mp c).1).1
   simpa using this
  subst this;exact .inr hm
 ·cases e;rcases hk with rfl | rfl
  ·exact .inl hm
  ·exact .inr hm
theorem Clos.many {scope:Scope} {cl:List (Str × Addr)} {ys:List Str} (h:closureFor scope X.env=pure cl) (hs:ClSub X cl) (hy:cl.map (·.1)=ys)
  (hr:∀ p∈scope.names,(p.2=.cell∨p.2=.free)->p.1∈ys):Clos X scope cl:=by
 refine ⟨h,λ y c e=>hs.at y c e,λ y hz=>lookup_has ?_⟩;rw [hy];rcases hz with q | q
 ·rcases bR (cX q) (.inl rfl) with m | m
  ·exact hr _ m (.inl rfl)
  ·exact hr _ m (.inr rfl)
 ·rcases bR (cX q) (.inr rfl) with m | m
  ·exact hr _ m (.inl rfl)
  ·exact hr _ m (.inr rfl)
noncomputable def RdAll (X:Cx) (scope:Scope):List Str->List Nat->Prop
 | [],[]=>True
 | y::ys,j::js=>(X.N[j]?=some y/\X.env.scope.names.lookup y=some .cell/\(relabel scope X.env).names.lookup y=some .cell)/\RdAll X scope ys js
 | _,_=>False
theorem RdAll.len {scope:Scope}:∀ {ys:List Str} {js:List Nat},RdAll X scope ys js->js.length=ys.length
 | [],[],_=>rfl
 | y::ys,j::js,h=>by rw [cH,cH,RdAll.len h.2]
theorem RdAll.at {scope:Scope}:∀ {ys:List Str} {js:List Nat},RdAll X scope ys js->∀ (i:Nat) (y:Str) (j:Nat),ys[i]?=some y->js[i]?=some j->X.N[j]?=some y/\X.env.scope.names.lookup y=some .cell/\(relabel scope X.env).names.lookup y=some .cell
 | [],[],_,i,y,j,e,_=>by simp at e
 | y'::ys,j'::js,h,0,y,j,e1,e2=>by
  simp at e1 e2;subst e1 e2;exact h.1
 | y'::ys,j'::js,h,i+1,y,j,e1,e2=>RdAll.at h.2 i y j (by simpa using e1) (by simpa using e2)
theorem Reads.many {scope:Scope} {ys:List Str} {js:List Nat} (h:RdAll X scope ys js):Reads X scope ys (λ σ=>js.map λ j=>σ.getD j Option.none):=by
 refine λ σ=>⟨by rw [cA,h.len],λ i y v e1 e2=>?_⟩;rw [List.getElem?_map] at e2
 cases q:js[i]? with
 | none=>rw [q] at e2;cases e2
 | some j=>
  rw [q] at e2;obtain ⟨h1,h2,h3⟩:=h.at i y j e1 q;refine ⟨j,h1,?_,h2,h3⟩;have e3:σ.getD j Option.none=some v:=cU e2;rw [c6] at e3
  cases z:σ[j]? with
  | none=>rw [z] at e3;cases e3
  | some o=>rw [z] at e3;exact congrArg some e3
noncomputable def tCompG (k:Nat) (wi:TI) (g:TG) (tc:TT) (te:TE) (sel:St->St):TE:=λ σ H Q=>wi σ H λ J H1=>∀ l,H1 l=none->∃ W:Nat->Nat->Hp->Prop,(∃ m,W 0 m (upd H1 l (.lst [])))/\∀ i m H,W i m H->
 (J.stop i H/\Q (.ref l) H)∨(J.go i H/\∀ x H',J.yld i H x H'->∀ zs:St,zs.length=k->g x (zs++sel σ) H' λ σ2 H2=>(∃ zs':St,zs'.length=k/\σ2=zs'++sel σ)/\tc σ2 H2 λ b H3=>if b=true then te σ2 H3 λ y H4=>∃ ys,H4 l=some (.lst ys)/\ys.length<sizeLine/\∃ m',m'<m/\W (i+1) m' (upd H4 l (.lst (ys++[y]))) else ∃ m',m'<m/\W (i+1) m' H3)
theorem bD {prog:Program} {w:World} {A:Around} {R:Result->Shared->Prop} {s:Shared} {elt target iter:Expr} {ifs:List Expr} {scope:Scope} {pos:Pos} {it acc:Value} {env:Env} (I:Nat->Shared->Prop)
  (turn:∀ n s,I n s->wpAny (model prog w) A (pyNext it) (λ r s₁=>match r with
   | none=>R (.ok .next) s₁
   | some v=>wpAny (model prog w) A (letOwnedTupleGo target it v) (λ _ s₁'=>wpAny (model prog w) A (assign target env v) (λ _ s₂=>
     wpAny (model prog w) A (forIn ifs true λ c r=>if r=true then do let ok <- isTrue c env (eval c env);pure (ForInStep.yield ok) else pure (ForInStep.yield r)) (λ ok s₃=>if ok=true then wpAny (model prog w) A (eval elt env) (λ x s₄=>
      wpAny (model prog w) A (call (.builtin "list.append") [acc,x]) (λ _ s₅=>∃ m,m<n/\I m s₅) (λ _ _=>False) s₄) (λ _ _=>False) s₃ else ∃ m,m<n/\I m s₃) (λ _ _=>False) s₂) (λ _ _=>False) s₁') (λ _ _=>False) s₁) (λ _ _=>False) s)
  (n:Nat) (h:I n s) :
  codeAny (model prog w) A (.compLoop (.ListComp elt [⟨target,iter,ifs,0⟩] scope pos) 0 it acc env) R s:=by
 refine codeAny_loop rfl I (λ n s hI=>?_) n h;show wpAny _ _ ((compTurn (.ListComp elt [⟨target,iter,ifs,0⟩] scope pos) 0 it acc env).onRaise (λ x=>do noteFrame x env;theTreesLotGoes x)) _ _ s;refine wpAny_noted ?_;rw [compTurn_list];refine cq (wpAny_standAt (cq (db (turn n s hI) (λ r s₁ h₁=>?_) λ _ _ h'=>h'.elim)))
 cases r with
 | none=>exact cJ h₁
 | some v=>
  refine cq (db h₁ (λ _ s₁' h₁'=>?_) λ _ _ h'=>h'.elim);refine cq (db h₁' (λ _ s₂ h₂=>cq (db h₂ (λ ok s₃ h₃=>?_) λ _ _ h'=>h'.elim)) λ _ _ h'=>h'.elim)
  cases ok with
  | false=>exact cJ ⟨rfl,h₃⟩
  | true=>exact cq (cq (db h₃ (λ x s₄ h₄=>cq (db h₄ (λ _ s₅ h₅=>cJ (cJ ⟨rfl,h₅⟩)) λ _ _ h'=>h'.elim)) λ _ _ h'=>h'.elim))
theorem comp_blockG {elt iter tg:Expr} {ifs:List Expr} {xs:List Str} {pos:Pos} {scope:Scope} {cl:List (Str × Addr)} {rest:List Str} {sel:St->St} {g:TG} {tc:TT} {te:TE} {pins:List (Addr × Obj)} {σ:St} {H:Hp} {s:Shared} {Q:VK}
  {it:Addr} {fp:List Addr} {tn:Nat->Heap->Prop} {J:It} {RR:Value->Addr->Result->Shared->Prop} {E:Value->Shared->Prop}
  (hcalm:X.calm=true) (hkind:scope.kind=.function) (hcell:∀ z∈scope.names,z.2≠.cell) (hc:Clos X scope cl) (hr:Reads X scope rest sel)
  (hg:∀ (C:Addr) (s:Shared) (H:Hp),PG (aK X pins (xs++rest) scope cl C fp s H) tg g) (ht:∀ (C:Addr) (s:Shared) (H:Hp),PTs (aK X pins (xs++rest) scope cl C fp s H) ifs tc)
  (he:∀ (C:Addr) (s:Shared) (H:Hp),PE (aK X pins (xs++rest) scope cl C fp s H) elt te)
  (I:Inv X pins σ H s) (T:Turn X.prog X.w X.K tg J fp it tn) (t0:tn 0 s.heap) (hf:∀ b∈fp,FpOk X pins H b)
  (h:∀ l,H l=none->∃ W:Nat->Nat->Hp->Prop,(∃ m,W 0 m (upd H l (.lst [])))/\∀ i m H,W i m H->
   (J.stop i H/\Q (.ref l) H)∨(J.go i H/\∀ x H',J.yld i H x H'->∀ zs:St,zs.length=xs.length->g x (zs++sel σ) H' λ σ2 H2=>(∃ zs':St,zs'.length=xs.length/\σ2=zs'++sel σ)/\tc σ2 H2 λ b H3=>if b=true then te σ2 H3 λ y H4=>∃ ys,H4 l=some (.lst ys)/\ys.length<sizeLine/\∃ m',m'<m/\W (i+1) m' (upd H4 l (.lst (ys++[y]))) else ∃ m',m'<m/\W (i+1) m' H3))
  (hRR:∀ (D C:Addr) (H':Hp) (s':Shared),Inv X pins σ H' s'->FpOk X pins H' C->(∃ m,s'.heap.Ns C m)->Q (.ref D) H'->RR (.ref D) C (.ok .next) s') :
  wpAny (model X.prog X.w) X.A (newList []) (λ acc s₃=>wpAny (model X.prog X.w) X.A (newFunctionEnv scope X.env.globals cl [] X.env.qual none .none (some X.env)) (λ cenv s₄=>
   codeAny (model X.prog X.w) X.A (.compStart (.ListComp elt [⟨tg,iter,ifs,0⟩] scope pos) 0 (.ref it) acc { cenv with scope:=relabel scope X.env }) (RR acc cenv.locals) s₄) E s₃) E s:=by
 have hD:H s.heap.objs.size=none:=I.hok.fresh (cy _);obtain ⟨W,⟨m0,w0⟩,turn⟩:=h _ hD;refine wpAny_newObj_type ?_
 have I3:Inv X pins σ (upd H s.heap.objs.size (.lst [])) { s with heap:=s.heap.push { cls:=.type "list",dict:=none,data:=.seq ([]:List Value).toArray } }:=
  I.laid (t':=s.toks) (λ b u e=>cu _ e) (cy _) ⟨da _,[],0,.nil,cN _ rfl⟩
 generalize hs3:({ s with heap:=s.heap.push { cls:=.type "list",dict:=none,data:=.seq ([]:List Value).toArray } }:Shared)=s3 at I3 ⊢;have old3:∀ b o,s.heap.get? b=some o->s3.heap.get? b=some o:=λ b o e=>by rw [<- hs3];exact cu _ e
 refine wpAny_newFunctionEnv hcell (by intro y hy;simp at hy) (λ h1 hns1 hsb1=>?_) hkind;have old4:∀ b o,s3.heap.get? b=some o->h1.get? b=some o:=λ b o e=>hsb1.extBut b o (cT (cx e)) (cu _ e)
 have fD:∀ b∈fp,b≠s.heap.objs.size:=λ b hb z=>by
  obtain ⟨o,e,_⟩:=T.obj 0 _ t0 b hb;exact absurd (cx e) (by rw [z];exact Nat.lt_irrefl _)
 have hf3:∀ b∈fp,FpOk X pins (upd H s.heap.objs.size (.lst [])) b:=λ b hb=>⟨by rw [ar (fD b hb)];exact (hf b hb).1,(hf b hb).2⟩
 have fC:∀ b∈fp,b≠s3.heap.objs.size:=λ b hb z=>by
  obtain ⟨o,e,_⟩:=T.obj 0 _ t0 b hb;exact absurd (cx (old3 b o e)) (by rw [z];exact Nat.lt_irrefl _)
 have cC:∀ y c,cl.lookup y=some c->c≠s3.heap.objs.size:=λ y c e z=>by
  obtain ⟨v,q⟩:=I3.cell y c (hc.sub y c e);exact absurd q.lt (by rw [z];exact Nat.lt_irrefl _)
 have fstk:∀ b∈fp,b ∉ frs X.stack:=λ b hb z=>(cQ.mp (I3.stkSub b z)).elim (hf b hb).2.1 (hf b hb).2.2.1
 have ok:(aK X pins (xs++rest) scope cl s3.heap.objs.size fp s3 (upd H s.heap.objs.size (.lst []))).Ok:=by
  refine ⟨I.ok.mod,hkind,I.ok.glob,I.ok.blt,cy _,λ y z c e1 e2=>I.ok.inj y z c (hc.sub y c e1) (hc.sub z c e2),λ y hy=>hc.has y hy,λ y c e=>(nomatch e),I.ok.hd,I.ok.frames,.inl rfl,λ b hb=>⟨fC b hb,λ y c e=>(hf b hb).2.2.2.2.1 y c (hc.sub y c e)⟩,
   I3.bs,cn I.ok.bsz I3.sz,λ b o e hb=>?_,fstk,I3.stack,I3.stkFree⟩
  rcases (hf b hb).2.2.2.1 with z | z
  ·exact I.ok.noex b o e z
  ·exact absurd (cF (cx e) I.ok.bsz) (Nat.not_lt.mpr z)
 have I4:Inv (aK X pins (xs++rest) scope cl s3.heap.objs.size fp s3 (upd H s.heap.objs.size (.lst []))) [] (xs.map (λ _=>none)++sel σ) (upd H s.heap.objs.size (.lst [])) { s3 with heap:=h1,toks:=s3.toks+([]:List (Str × Value)).length }:=by
  refine ⟨ok,rfl,I3.bare,Un.kept old4,⟨_,hns1,λ i y v e1 e2 e3=>?_⟩,λ y c e=>?_,I3.hok.fresh (cy _),λ y c e=>I3.freeC y c (hc.sub y c e),λ p hp=>?_,I3.hok.kept old4,?_⟩
  ·have hge:xs.length<=i:=by
    apply Classical.byContradiction
    intro hlt;rw [List.getElem?_append_left (by rw [cA];omega),List.getElem?_map] at e2
    cases q:xs[i]? with
    | none=>rw [q] at e2;cases e2
    | some z=>rw [q] at e2;cases e2
   have e1':rest[i-xs.length]?=some y:=by
    have e1:(xs++rest)[i]?=some y:=e1;rw [List.getElem?_append_right hge] at e1;exact e1
   have e2':(sel σ)[i-xs.length]?=some (some v):=by
    rw [List.getElem?_append_right (by rw [cA];exact hge),cA] at e2;exact e2
   obtain ⟨j,q1,q2,q3,q4⟩:=(hr σ).2 _ y v e1' e2';obtain ⟨m,hn,hl⟩:=I3.loc;obtain ⟨u,r,l⟩:=hl j y v q1 q2 (.inr (.inl q3));refine ⟨u,r,.inr ⟨.inl q4,?_⟩⟩;obtain ⟨c,ec⟩:=hc.has y (.inl q4);refine ⟨c,ec,?_⟩;rcases l with ⟨k,_⟩ | ⟨_,c',e',z⟩
   ·have k':X.env.scope.names.lookup y=some .local:=k;rw [q3] at k';cases k'
   ·rw [hc.sub y c ec] at e'
    cases e';obtain ⟨o,ho,hd⟩:=z;exact ⟨o,old4 c o ho,hd⟩
  ·obtain ⟨v,o,ho,hd⟩:=I3.cell y c (hc.sub y c e);exact ⟨v,o,old4 c o ho,hd⟩
  ·have hp':p∈X.pn++pins:=by simpa [aK] using hp
   obtain ⟨e,n,ne,nf,d⟩:=I3.pin p hp';exact ⟨old4 _ _ e,n,cT (cx e),λ z=>(cQ.mp (I3.stkSub _ z)).elim ne nf,d⟩
  ·show (xs.map (λ _=>none)++sel σ).length=(xs++rest).length;rw [cZ,cZ,cA,(hr σ).1]
 have stat:∀ {H':Hp},(∀ b∈fp,H' b=none)->∀ b∈fp,FpOk (aK X pins (xs++rest) scope cl s3.heap.objs.size fp s3 (upd H s.heap.objs.size (.lst []))) [] H' b:=λ hn b hb=>
  ⟨hn b hb,fC b hb,fstk b hb,.inl hb,λ y c e=>(hf b hb).2.2.2.2.1 y c (hc.sub y c e),λ p hp=>(hf b hb).2.2.2.2.2 p (by simpa [aK] using hp)⟩
 have t4:tn 0 h1:=T.keep _ _ _ t0 λ b hb o e=>old4 b o (old3 b o e)
 have loop:∀ s4:Shared,s4 = { s3 with heap:=h1,toks:=s3.toks+([]:List (Str × Value)).length }->
   codeAny (model X.prog X.w) X.A (.compLoop (.ListComp elt [⟨tg,iter,ifs,0⟩] scope pos) 0 (.ref it) (.ref s.heap.objs.size) (compEnvC scope cl s3.heap.objs.size X.env)) (RR (.ref s.heap.objs.size) s3.heap.objs.size) s4:=by
  rintro s4 rfl
  refine bD (λ n s'=>∃ i zs H',zs.length=xs.length/\Inv (aK X pins (xs++rest) scope cl s3.heap.objs.size fp s3 (upd H s.heap.objs.size (.lst []))) [] (zs++sel σ) H' s'/\tn i s'.heap/\(∀ b∈fp,H' b=none)/\W i n H') ?_ m0
   ⟨0,_,_,cA _,I4,t4,λ b hb=>(hf3 b hb).1,w0⟩
  rintro n s5 ⟨i,zs,H5,hzs,I5,t5,f5,w5⟩;rcases turn i n H5 w5 with ⟨stop,qn⟩ | ⟨go,step⟩
  ·refine thn (T.done (aK X pins (xs++rest) scope cl s3.heap.objs.size fp s3 (upd H s.heap.objs.size (.lst []))) rfl rfl rfl hcalm i [] s5 _ H5 _ I5 (stat f5) t5 stop) λ r s6 ⟨er,I6⟩=>?_;subst er;have J6:Inv X pins σ H5 s6:=I3.call' (ch:=fp) I6.os I6.base I6.hok I6.bare λ b hb=>⟨(hf b hb).2.2.2.1,(hf b hb).2.1,(hf b hb).2.2.2.2.1,(hf b hb).2.2.2.2.2⟩;exact hRR _ _ H5 s6 J6 (I3.fpOk (cy _) I6.free) (let ⟨m,hn,_⟩:=I6.loc;⟨m,hn⟩) qn
  ·refine thn (T.item (aK X pins (xs++rest) scope cl s3.heap.objs.size fp s3 (upd H s.heap.objs.size (.lst []))) rfl rfl rfl hcalm i [] s5 _ H5 _ I5 (stat f5) t5 go) λ r s6 ⟨u,er,h6⟩=>?_;subst er;refine thn h6 λ _ s7 ⟨y,H7,I7,r7,y7,t7,f7⟩=>?_;have I7':=I7.pinned (stat f7) (T.obj _ _ t7);refine thn (hg _ _ _ _ s7 _ H7 y u _ I7' r7 (step y H7 y7 zs hzs)) λ _ s8 ⟨σ8,H8,I8,⟨zs',hz',e8⟩,q8⟩=>?_;subst e8;refine thn (ht _ _ _ _ s8 _ H8 _ I8 q8) λ b s9 ⟨H9,I9,q9⟩=>?_
   cases b with
   | false=>
    rw [if_neg cw] at q9 ⊢;obtain ⟨m',hm,w9⟩:=q9;refine ⟨m',hm,i+1,zs',_,hz',I9.unpinned,T.keep _ _ _ t7 λ b hb o e=>(I9.pin (b,o) (cD _ (cD _ (aV hb e)))).1,λ b hb=>?_,w9⟩;obtain ⟨o,e,d⟩:=T.obj _ _ t7 b hb;exact (I9.pin (b,o) (cD _ (cD _ (aV hb e)))).2.1
   | true=>
    rw [if_pos rfl] at q9 ⊢;refine thn (he _ _ _ _ s9 _ H9 _ I9 q9) λ z s9 ⟨yv,H9,I9,r9,ys,hl,hz,m',hm,w9⟩=>?_
    refine thn (mt_append (X:=aK X pins (xs++rest) scope cl s3.heap.objs.size fp s3 (upd H s.heap.objs.size (.lst []))) _ s9 _ H9 (.ref s.heap.objs.size) [yv] (.ref s.heap.objs.size) [z]
     (λ v H'=>H'=upd H9 s.heap.objs.size (.lst (ys++[yv]))) I9 rfl (.cons r9 .nil) ⟨_,ys,yv,rfl,rfl,hl,hz,rfl⟩) λ _ s10 ⟨v10,H10,I10,_,e10⟩=>?_
    subst e10;refine ⟨m',hm,i+1,zs',_,hz',I10.unpinned,T.keep _ _ _ t7 λ b hb o e=>(I10.pin (b,o) (cD _ (cD _ (aV hb e)))).1,λ b hb=>?_,w9⟩;obtain ⟨o,e,d⟩:=T.obj _ _ t7 b hb;exact (I10.pin (b,o) (cD _ (cD _ (aV hb e)))).2.1
 exact codeAny_compStart_list (loop _ rfl) (T.self _ 0 _ _ _ t4 (loop _ rfl))
theorem pe_compG {elt iter tg:Expr} {ifs:List Expr} {xs:List Str} {pos:Pos} {scope:Scope} {cl:List (Str × Addr)} {rest:List Str} {sel:St->St} {g:TG} {tc:TT} {te:TE} {wi:TI}
  (hcalm:X.calm=true) (hi:PI X tg iter wi) (hg:∀ (pins:List (Addr × Obj)) (fp:List Addr) (C:Addr) (s:Shared) (H:Hp),PG (aK X pins (xs++rest) scope cl C fp s H) tg g) (ht:∀ (pins:List (Addr × Obj)) (fp:List Addr) (C:Addr) (s:Shared) (H:Hp),PTs (aK X pins (xs++rest) scope cl C fp s H) ifs tc)
  (he:∀ (pins:List (Addr × Obj)) (fp:List Addr) (C:Addr) (s:Shared) (H:Hp),PE (aK X pins (xs++rest) scope cl C fp s H) elt te)
  (hc:Clos X scope cl) (hr:Reads X scope rest sel) (hkind:scope.kind=.function:=by rfl) (hcell:∀ z∈scope.names,z.2≠.cell:=by decide +kernel) (hnames:∀ z∈scope.names,z.2=.local->scope.names.lookup z.1=some .local:=by decide +kernel)
  (hs:∀ x,foldedSetIterable iter X.env x=pure x:=by intro _;rfl) :
  PE X (.ListComp elt [⟨tg,iter,ifs,0⟩] scope pos) (tCompG xs.length wi g tc te sel):=by
 intro pins s σ H Q I h;rw [eval_ListComp];refine wpAny_comprehension_free (use:=none) rfl hs hc.clos hkind hnames (thn (hi pins s σ H _ I h) λ v s1 h1=>thn h1 λ itv s2 h2=>?_);obtain ⟨it,fp,tn,J,H2,rfl,I2,T,t2,f2,q2⟩:=h2;refine comp_blockG (RR:=λ acc C=>compPost (model X.prog X.w) X.A X.xe none (EP X pins σ Q) acc C) hcalm hkind hcell hc hr (hg pins fp) (ht pins fp) (he pins fp) I2 T t2 f2 q2 λ D C H' s' I' fC ⟨m,hn⟩ q=>?_;exact ⟨m,hn,λ h' sb=>⟨.ref D,H',I'.turned (t':=s'.toks) (λ b o hb e=>(sb.2 b hb).trans e) fC.1 fC.2.1 fC.2.2.2.1 fC.2.2.2.2.1 fC.2.2.2.2.2,rfl,q⟩⟩
theorem ps_compG {i:Nat} {y:Str} {py spos:Pos} {elt iter tg:Expr} {ifs:List Expr} {xs:List Str} {pos:Pos} {scope:Scope} {cl:List (Str × Addr)} {rest:List Str} {sel:St->St} {g:TG} {tc:TT} {te:TE} {wi:TI}
  (hNX:X.N.Nodup) (hi':X.N[i]?=some y) (hy:X.env.scope.names.lookup y=some .local)
  (hcalm:X.calm=true) (hi:PI X tg iter wi) (hg:∀ (pins:List (Addr × Obj)) (fp:List Addr) (C:Addr) (s:Shared) (H:Hp),PG (aK X pins (xs++rest) scope cl C fp s H) tg g) (ht:∀ (pins:List (Addr × Obj)) (fp:List Addr) (C:Addr) (s:Shared) (H:Hp),PTs (aK X pins (xs++rest) scope cl C fp s H) ifs tc)
  (he:∀ (pins:List (Addr × Obj)) (fp:List Addr) (C:Addr) (s:Shared) (H:Hp),PE (aK X pins (xs++rest) scope cl C fp s H) elt te)
  (hc:Clos X scope cl) (hr:Reads X scope rest sel) (hkind:scope.kind=.function:=by rfl) (hcell:∀ z∈scope.names,z.2≠.cell:=by decide +kernel) (hnames:∀ z∈scope.names,z.2=.local->scope.names.lookup z.1=some .local:=by decide +kernel)
  (hs:∀ x,foldedSetIterable iter X.env x=pure x:=by intro _;rfl)
  (hsw:swapsWith (.ListComp elt [⟨tg,iter,ifs,0⟩] scope pos) (some (.Name y py)) spos.line X.env=pure true:=by rfl) :
  PS X (.Assign [.Name y py] (.ListComp elt [⟨tg,iter,ifs,0⟩] scope pos) spos) (tAsg (tCompG xs.length wi g tc te sel) (gName i)):=by
 intro pins s σ H D I h;rw [exec_Assign_Name_used _ _ _ _ hsw];refine cq (wpAny_standAt (cq ?_));show wpAny _ X.A (do let _ <- comprehension (.ListComp elt [⟨tg,iter,ifs,0⟩] scope pos) scope X.env _ (newList []) false (eval iter X.env) (some (assign (.Name y py) X.env))) _ _ s
 refine cq (db (wpAny_comprehension_free (use:=some (assign (.Name y py) X.env)) (Q:=λ _ s'=>SP X pins D .next s') rfl hs hc.clos hkind hnames
  (thn (hi pins s σ H _ I h) λ v s1 h1=>thn h1 λ itv s2 h2=>?_)) (λ _ s' hq=>cJ (cJ hq)) λ _ _ e=>e)
 obtain ⟨it,fp,tn,J,H2,rfl,I2,T,t2,f2,q2⟩:=h2;refine comp_blockG (Q:=λ x H1=>gName i x σ H1 D.nx) (RR:=λ acc C=>compPost (model X.prog X.w) X.A X.xe (some (assign (.Name y py) X.env)) (λ _ s'=>SP X pins D .next s') acc C) hcalm hkind hcell hc hr (hg pins fp) (ht pins fp) (he pins fp) I2 T t2 f2 q2 λ L C H' s' I' fC ⟨m,hn⟩ q=>?_;show wpAny _ X.A (assign (.Name y py) X.env (.ref L)) _ _ _;refine wpAny_assign_Name (store_ok2 I' hNX hi' (.inl hy) (v:=.ref L) rfl (λ s2 I2' ⟨a,sb,ha⟩=>?_) (.inr hy))
 have hCa:C≠a:=λ z=>by
  rcases ha with z' | z'
  ·exact fC.2.1 (z.trans z')
  ·exact fC.2.2.2.2.1 y a z' z.symm
 exact ⟨m,hn.sameBut sb hCa,λ h' sb'=>⟨_,H',I2'.turned (t':=s2.toks) (λ b o hb e=>(sb'.2 b hb).trans e) fC.1 fC.2.1 fC.2.2.2.1 fC.2.2.2.2.1 fC.2.2.2.2.2,q⟩⟩
end
end L2
namespace L2
open PySem PySem.Spec PyProof.Rows
section
variable {X:Cx} {pins:List (Addr × Obj)} {σ:St} {H:Hp} {s:Shared} {a:Addr} {o:Obj} {u:HO}
noncomputable def Itd (a:Addr) (o:Obj) (kvs:List (Key × V)):It:=
 ⟨λ i H=>H a=some (.frz o (.dK kvs))/\i<kvs.length,λ i H x H'=>H'=H/\∃ kv,kvs[i]?=some kv/\x=kV kv.1,λ i H=>H a=some (.frz o (.dK kvs))/\kvs.length<=i⟩
end
end L2
namespace L2
open PySem PySem.Spec PyProof.Rows
noncomputable def NextP (n:Nat) (Pv:Nat->Hp->Prop) (i:Nat) (H:Hp):Prop:=∃ m',m'<n-i/\m'=n-(i+1)/\i+1<=n/\Pv (i+1) H
theorem nextP {n i:Nat} {Pv:Nat->Hp->Prop} {H:Hp} (hi:i<n) (h:Pv (i+1) H):NextP n Pv i H:=⟨n-(i+1),by omega,rfl,hi,h⟩
section
variable {l:Addr} {k:Nat} {g:TG} {tc:TT} {te:TE} {ρ:St} {R:Hp->Prop} {H₀:Hp}
theorem compG_by {J:It} {n:Nat} (Pv:Nat->Hp->Prop) (h0:Pv 0 (upd H₀ l (.lst []))) (hgo:∀ i H,i<n->Pv i H->J.go i H) (hst:∀ H,Pv n H->J.stop n H)
  (hs:∀ i x H H',i<n->J.yld i H x H'->Pv i H->∀ zs:St,zs.length=k->g x (zs ++ ρ) H' λ σ2 H2=>(∃ zs':St,zs'.length=k/\σ2=zs' ++ ρ)/\tc σ2 H2 λ b H3=>if b=true then te σ2 H3 λ y H4=>∃ ys,H4 l=some (.lst ys)/\ys.length<sizeLine/\NextP n Pv i (upd H4 l (.lst (ys++[y]))) else NextP n Pv i H3)
  (hd:∀ H,Pv n H->R H) :
  ∃ W:Nat->Nat->Hp->Prop,(∃ m,W 0 m (upd H₀ l (.lst [])))/\∀ i m H,W i m H->
   (J.stop i H/\R H)∨(J.go i H/\∀ x H',J.yld i H x H'->∀ zs:St,zs.length=k->g x (zs ++ ρ) H' λ σ2 H2=>(∃ zs':St,zs'.length=k/\σ2=zs' ++ ρ)/\tc σ2 H2 λ b H3=>if b=true then te σ2 H3 λ y H4=>∃ ys,H4 l=some (.lst ys)/\ys.length<sizeLine/\∃ m',m'<m/\W (i+1) m' (upd H4 l (.lst (ys++[y]))) else ∃ m',m'<m/\W (i+1) m' H3):=by
 refine ⟨λ i m H=>m=n-i/\i<=n/\Pv i H,⟨n,by simp,da _,h0⟩,?_⟩;rintro i m H ⟨rfl,hi,p⟩;by_cases hlt:i<n
 ·exact .inr ⟨hgo i H hlt p,λ x H' y=>hs i x H H' hlt y p⟩
 ·have e:i=n:=by omega
  subst e;exact .inl ⟨hst H p,hd H p⟩
theorem compG_list {K:W.Frag} {a:Addr} {xs:List V} (Pv:Nat->Hp->Prop) (h0:Pv 0 (upd H₀ l (.lst []))) (hl:∀ i H,Pv i H->SqL K H a xs)
  (hs:∀ i x H,xs[i]?=some x->Pv i H->∀ zs:St,zs.length=k->g x (zs ++ ρ) H λ σ2 H2=>(∃ zs':St,zs'.length=k/\σ2=zs' ++ ρ)/\tc σ2 H2 λ b H3=>if b=true then te σ2 H3 λ y H4=>∃ ys,H4 l=some (.lst ys)/\ys.length<sizeLine/\NextP xs.length Pv i (upd H4 l (.lst (ys++[y]))) else NextP xs.length Pv i H3)
  (hd:∀ H,Pv xs.length H->R H) :
  ∃ W:Nat->Nat->Hp->Prop,(∃ m,W 0 m (upd H₀ l (.lst [])))/\∀ i m H,W i m H->
   ((Itl K a).stop i H/\R H)∨((Itl K a).go i H/\∀ x H',(Itl K a).yld i H x H'->∀ zs:St,zs.length=k->g x (zs ++ ρ) H' λ σ2 H2=>(∃ zs':St,zs'.length=k/\σ2=zs' ++ ρ)/\tc σ2 H2 λ b H3=>if b=true then te σ2 H3 λ y H4=>∃ ys,H4 l=some (.lst ys)/\ys.length<sizeLine/\∃ m',m'<m/\W (i+1) m' (upd H4 l (.lst (ys++[y]))) else ∃ m',m'<m/\W (i+1) m' H3):=
 compG_by (n:=xs.length) Pv h0 (λ i H hi p=>⟨xs,xs[i],hl i H p,cr hi⟩) (λ H p=>⟨xs,hl _ H p,cy _⟩) (λ i x H H' hi y p=>by
  obtain ⟨e,y⟩:=y;subst e;exact hs i x _ (y xs (hl i _ p)) p) hd
end
theorem g1 {v:V} {ρ:St} {H:Hp} {Q:St->Hp->Prop} (h:Q (some v :: ρ) H):∀ zs:St,zs.length=1->gName 0 v (zs ++ ρ) H Q:=λ zs hz=>by
 match zs,hz with
 | [z],_=>exact h
theorem yes {σ:St} {H:Hp} {A B:Hp->Prop} (h:A H):tYes σ H (λ b H3=>if b=true then A H3 else B H3):=by
 show if true=true then A H else B H
 rw [if_pos rfl];exact h
end L2
namespace L2
open PySem PySem.Spec PyProof.Rows
section
variable {X:Cx}
noncomputable def Iti (a:Addr) (o:Obj) (kvs:List (Key × V)):It:=
 ⟨λ i H=>H a=some (.frz o (.dK kvs))/\i<kvs.length,λ i H x H'=>∃ kv t,kvs[i]?=some kv/\H t=none/\x=.ref t/\H'=upd H t (.tup [kV kv.1,kv.2]),λ i H=>H a=some (.frz o (.dK kvs))/\kvs.length<=i⟩
end
end L2
namespace L2
open PySem PySem.Spec PyProof.Rows
section
variable {X:Cx}
noncomputable def ViewO (v d:Addr):HO:=.ext λ h=>h.IsValuesView v d
end
end L2
namespace L2
open PySem PySem.Spec PyProof.Rows
section
variable {X:Cx}
end
section
variable {l:Addr} {k:Nat} {g:TG} {tc:TT} {te:TE} {ρ:St} {R:Hp->Prop} {H₀:Hp}
end
section
variable {X:Cx} {CX:CXT} {j:Nat} {E:XK} {m:Str} {pos apos:Pos} {e o:Expr} {es:List Expr} {ta:TE} {t:TA}
end
section
variable {X:Cx}
end
end L2
namespace L2
open PySem PySem.Spec PyProof.Rows
theorem eqV_str (x y:Str):eqV (.str x) (.str y)=decide (x=y):=by
 unfold eqV;by_cases h:x=y
 ·subst h;simp
 ·simp [h]
section
variable {X:Cx}
end
section
variable {prog:Program} {w:World} {A:Around}
variable {E:Value->Shared->Prop} {s:Shared}
end
section
variable {X:Cx}
inductive IrNeL (K:W.Frag) (x:V) (y:V) (H:Hp) (Q:VK):Prop
 | mk (p:_) (q:_) (xs:_) (ys:_) (h1:x=.ref p) (h2:y=.ref q) (h3:SqL K H p xs) (h4:SqL K H q ys) (h5:xs.all a3=true) (h6:ys.all a3=true) (h7:Q (.bl (!eqVs xs ys)) H):IrNeL K x y H Q
end
end L2
namespace L2
open PySem PySem.Spec PyProof.Rows
section
variable {X:Cx}
noncomputable def rEqT (K:W.Frag):R2:=λ x y H Q=>∃ p q xs ys,x=.ref p/\y=.ref q/\SqT K H p xs/\SqT K H q ys/\xs.all a3=true/\ys.all a3=true/\Q (.bl (eqVs xs ys)) H
end
end L2
namespace L2
open PySem PySem.Spec PyProof.Rows
noncomputable def Its (z:Str):It:=⟨λ i _=>i<z.cps.size,λ i H v H'=>H'=H/\∃ c,z.cps[i]?=some c/\v=.str ⟨#[c]⟩,λ i _=>z.cps.size<=i⟩
section
variable {X:Cx}
theorem turn_str {P:Program} {w:World} {K:W.Frag} {tg:Expr} (z:Str) (t:Tok) (it:Addr):Turn P w K tg (Its z) [it] it (λ i h=>h.IsStrIter it (strIterType z) z t i) where
 mem:=by simp
 obj:=λ i h st b hb=>by
  have e:b=it:=by simpa using hb
  subst e;obtain ⟨o,e,c,d⟩:=st;exact ⟨o,e,λ v z=>by rw [d] at z;cases z⟩
 keep:=λ i h h' st k=>by
  obtain ⟨o,e,c,d⟩:=st;exact ⟨o,k it (by simp) o e,c,d⟩
 item:=by
  intro X hP hw hK hc i pins s σ H E I hf st hg;subst hP hw hK;obtain ⟨f0,f1,f2,f3,f4,f5⟩:=hf it (by simp);have hx:z.cps[i]?=some (z.cps[i]'hg):=Array.getElem?_eq_getElem hg
  have fin:∀ h',h'.IsStrIter it (strIterType z) z t (i+1)->Heap.SameBut it s.heap h'->∃ u,some (Value.str ⟨#[z.cps[i]'hg]⟩ s.toks)=some u/\
    wpAny (model X.prog X.w) X.A (letOwnedTupleGo tg (.ref it) u) (λ _ s2=>∃ x H',Inv X pins σ H' s2/\RelV x u/\(Its z).yld i H x H'/\s2.heap.IsStrIter it (strIterType z) z t (i+1)/\∀ b∈[it],H' b=none) E { s with heap:=h',toks:=s.toks+1 }:=λ h' st' sb=>by
   have I1:Inv X pins σ H { s with heap:=h',toks:=s.toks+1 }:=I.turned (t':=s.toks+1) (λ b o hb e=>(sb.2 b hb).trans e) f0 f1 f3 f4 f5;obtain ⟨o,e,c,d⟩:=id st';refine ⟨_,rfl,go_of (s:={ s with heap:=h',toks:=s.toks+1 }) e c d ?_ ⟨.str ⟨#[z.cps[i]'hg]⟩,H,I1,⟨_,rfl⟩,⟨rfl,_,hx,rfl⟩,st',λ b hb=>(hf b hb).1⟩⟩;unfold strIterType
   split <;> decide
  by_cases ha:z.cps.all (· < 128)=true
  ·have e:strIterType z = "str_ascii_iterator":=if_pos ha;rw [e] at st fin ⊢;exact wpAny_pyNext_ascii_item st hx fin
  ·have e:strIterType z = "str_iterator":=if_neg ha;rw [e] at st fin ⊢;exact wpAny_pyNext_wide_item st hx fin
 done:=by
  intro X hP hw hK hc i pins s σ H E I hf st hg;subst hP hw hK;obtain ⟨f0,f1,f2,f3,f4,f5⟩:=hf it (by simp);have hx:z.cps[i]?=none:=Array.getElem?_eq_none hg;by_cases ha:z.cps.all (· < 128)=true
  ·have e:strIterType z = "str_ascii_iterator":=if_pos ha;rw [e] at st;exact wpAny_pyNext_ascii_end (I.ok.hd hc) st hx λ h' eb=>⟨rfl,I.turned (t':=s.toks) (λ b o hb e=>eb b o hb e) f0 f1 f3 f4 f5⟩
  ·have e:strIterType z = "str_iterator":=if_neg ha;rw [e] at st;exact wpAny_pyNext_wide_end (I.ok.hd hc) st hx λ h' eb=>⟨rfl,I.turned (t':=s.toks) (λ b o hb e=>eb b o hb e) f0 f1 f3 f4 f5⟩
 self:=λ _ _ _ _ _ st h=>by
  by_cases ha:z.cps.all (· < 128)=true
  ·have e:strIterType z = "str_ascii_iterator":=if_pos ha;rw [e] at st;exact wpAny_pyIter_striter_ascii st h
  ·have e:strIterType z = "str_iterator":=if_neg ha;rw [e] at st;exact wpAny_pyIter_striter_wide st h
noncomputable def iStr (tl:TE):TI:=λ σ H R=>tl σ H λ x H1=>∃ z,x=.str z/\R (Its z) H1
theorem pi_str {tg:Expr} {l:Expr} {tl:TE} (hl:PE X l tl):PI X tg l (iStr tl):=by
 intro pins s σ H R I h;refine thn (hl pins s σ H _ I h) λ v s1 ⟨x,H1,I1,r1,q1⟩=>?_;obtain ⟨z,e,q⟩:=q1;subst e;obtain ⟨t,rfl⟩:=r1;refine wpAny_pyIter_strU ⟨_,[s1.heap.objs.size],_,_,H1,rfl,I1.kept (t':=s1.toks) (λ b o e=>cu _ e),turn_str z t s1.heap.objs.size,⟨_,cN _ rfl,rfl,rfl⟩,λ c hc=>?_,q⟩;have e:c=s1.heap.objs.size:=by simpa using hc
 subst e;exact I1.fpOk (cy _) (I1.hok.fresh (cy _))
noncomputable def rStarts:V->List V->Hp->VK->Prop:=λ x vs H Q=>∃ z y,x=.str z/\vs=[.str y]/\Q (.bl (Txt.startswith z y)) H
theorem mt_starts:MtM X "str.startswith" rStarts:=by
 intro pins s σ H x vs v us Q I rx rv h;obtain ⟨z,y,rfl,rfl,q⟩:=h;obtain ⟨t,rfl⟩:=rx;obtain ⟨u,rfl,t',rfl⟩:=rv.one;exact call_gives F.slot_str_startswith (c8 _ _ _) F.entry_str_startswith (F.args_str_startswith_2 _ _) (gives_str_startswith z y t t') ⟨.bl _,H,I,rfl,q⟩
noncomputable def rPart:V->List V->Hp->VK->Prop:=λ x vs H Q=>∃ z y,x=.str z/\vs=[.str y]/\(y.length == 0)=false/\z.length<=sizeLine/\∀ p,H p=none->Q (.ref p) (upd H p (.tup [.str (Txt.partition z y).1,.str (Txt.partition z y).2.1,.str (Txt.partition z y).2.2]))
theorem mt_part:MtM X "str.partition" rPart:=by
 intro pins s σ H x vs v us Q I rx rv h;obtain ⟨z,y,rfl,rfl,hy,hz,q⟩:=h;obtain ⟨t,rfl⟩:=rx;obtain ⟨u,rfl,t',rfl⟩:=rv.one;have hf:H s.heap.objs.size=none:=I.hok.fresh (cy _)
 have fin:∀ (a b c:Str) (ta tb tc k:Tok),(a,b,c)=Txt.partition z y->EP X pins σ Q (.ref s.heap.objs.size) { s with heap:=s.heap.push { cls:=.type "tuple",data:=.seq [.str a ta,.str b tb,.str c tc].toArray },toks:=k }:=λ a b c ta tb tc k e=>by
  have q:=q _ hf;rw [<- e] at q;refine ⟨.ref s.heap.objs.size,_,I.laid (t':=k) (λ b o e=>cu _ e) (cy _) ?_,rfl,q⟩;exact ⟨zL3,[.str a ta,.str b tb,.str c tc],.cons ⟨_,rfl⟩ (.cons ⟨_,rfl⟩ (.cons ⟨_,rfl⟩ .nil)),_,cN _ rfl,rfl,_,rfl⟩
 refine call_meets F.slot_str_partition (c8 _ _ _) F.entry_str_partition (F.args_str_partition_2 _ _) (meets_str_partition z y t t' hy hz) ?_;unfold Txt.partition at fin
 revert fin
 cases Builtin.Str.occurrences z y 0 z.length 1 with
 | nil=>intro fin;exact fin _ _ _ _ _ _ _ rfl
 | cons i r=>intro fin;exact fin _ _ _ _ _ _ _ rfl
theorem call_int_txt:bJ X (.type "int") (λ xs H Q=>∃ z n,xs=[.str z]/\z.length<=640/\PySem.intText? z=some n/\Q (.int n) H):=by
 intro pins s σ H xs us Q I r h;obtain ⟨z,n,rfl,hl,hn,q⟩:=h;obtain ⟨u,rfl,t,rfl⟩:=vals1 r;exact PySem.W.KIN.call_text hn hl ⟨.int n,H,I.tok _,⟨_,rfl⟩,q⟩
theorem pe_gs {x:Str} {i:Str} {pos:Pos} (h:∃ tk,X.mg x=some (.str i tk)) (hg:Gl X x:=by rfl) (hd:(x == ("__debug__":Str))=false:=by decide):PE X (.Name x pos) (tC (.str i)):=by
 obtain ⟨tk,h⟩:=h;exact aX hg h ⟨tk,rfl⟩ hd
theorem call_allK {K:W.Frag} (hK:X.K=K) (hh:X.A.handled=none):bJ X (.builtin "all") (λ xs H Q=>∃ p bs,xs=[.ref p]/\SqL K H p ((bs:List Bool).map V.bl)/\Q (.bl (bs.all id)) H):=by
 subst hK;intro pins s σ H xs us Q I r h;obtain ⟨p,bs,rfl,hp,q⟩:=h;obtain ⟨u,rfl,rx⟩:=vals1 r
 cases rx;obtain ⟨its,rv,pl,hz⟩:=I.list hp;have hl:=rv.length;rw [cA] at hl;have lt:p<s.heap.objs.size:=by obtain ⟨o,n,e,_⟩:=pl;exact cx e
 refine call_all_walk (wpAny_pyIter_list pl.isList ?_);refine ⟨s.heap.objs.size,_,_,_,_,_,λ i=>bs.getD i true,rfl,Walks.list (A:=X.A.in1) hh s.heap.objs.size p (cT lt) its.toArray,⟨⟨_,cN _ rfl,rfl,rfl⟩,pl.isList.push _⟩,λ i v s' Q' E' hP hQ=>?_,λ h' tk hk=>?_⟩
 ·have hP:its.toArray[i]?=some v:=hP;have hi:its[i]?=some v:=by simpa using hP
  have hb:bs[i]?=some (bs[i]'(by have:=(cI.mp hi).1;omega)):=cr _;have ev:=bh rv (x:=.bl _) (by rw [List.getElem?_map,hb];rfl) hi;have ev:v=Value.bool _:=ev;rw [ev];refine cY ?_;have e:bs.getD i true=bs[i]'(by have:=(cI.mp hi).1;omega):=by rw [c6,hb];rfl
  rw [<- e];exact hQ
 ·have e:(List.range its.toArray.size).all (λ i=>bs.getD i true)=bs.all id:=by
   rw [cz,<- hl];rw [Bool.eq_iff_iff,List.all_eq_true,List.all_eq_true];constructor
   ·intro h b hb;obtain ⟨i,hi⟩:=List.mem_iff_getElem?.mp hb
    have:=h i (List.mem_range.mpr (cI.mp hi).1)
    rw [c6,hi] at this;exact this
   ·intro h i hi;rw [c6,cr (List.mem_range.mp hi)];exact h _ (List.getElem_mem _)
  rw [e]
  exact ⟨.bl _,H,I.kept (t':=tk) (λ b o hb=>hk b o (λ hm=>by
   have e:b=s.heap.objs.size:=by simpa using hm
   exact absurd (cx hb) (by rw [e];exact Nat.lt_irrefl _)) (cu _ hb)),rfl,q⟩
end
theorem for_str {z:Str} {g:TG} {tb:TS} {D:Ends} {σ:St} {H:Hp} (Pv:Nat->St->Hp->Prop) (h0:Pv 0 σ H)
  (hs:∀ i c σ H,z.cps[i]?=some c->Pv i σ H->g (.str ⟨#[c]⟩) σ H λ σ2 H2=>tb { D with nx:=Pv (i+1),ct:=Pv (i+1),bk:=D.nx } σ2 H2) (hd:∀ σ H,Pv z.cps.size σ H->D.nx σ H) :
  ∃ W:Nat->Nat->St->Hp->Prop,(∃ m,W 0 m σ H)/\∀ i m σ H,W i m σ H->
   ((Its z).stop i H/\D.nx σ H)∨((Its z).go i H/\∃ N:St->Hp->Prop,(∀ σ' H',N σ' H'->∃ m',m'<m/\W (i+1) m' σ' H')/\∀ x H',(Its z).yld i H x H'->g x σ H' λ σ2 H2=>tb { D with nx:=N,ct:=N,bk:=D.nx } σ2 H2):=by
 refine ⟨λ i m σ H=>m=z.cps.size-i/\i<=z.cps.size/\Pv i σ H,⟨z.cps.size,by simp,da _,h0⟩,?_⟩;rintro i m σ H ⟨rfl,hi,p⟩;by_cases hlt:i<z.cps.size
 ·refine .inr ⟨hlt,Pv (i+1),λ σ' H' p'=>⟨z.cps.size-(i+1),by omega,rfl,hlt,p'⟩,λ v H' y=>?_⟩;obtain ⟨rfl,c,hc,rfl⟩:=y;exact hs i c σ _ hc p
 ·have e:i=z.cps.size:=by omega
  subst e;exact .inl ⟨cy _,hd σ H p⟩
section
variable {l:Addr} {k:Nat} {g:TG} {tc:TT} {te:TE} {ρ:St} {R:Hp->Prop} {H₀:Hp}
theorem compG_str {z:Str} (Pv:Nat->Hp->Prop) (h0:Pv 0 (upd H₀ l (.lst [])))
  (hs:∀ i c H,z.cps[i]?=some c->Pv i H->∀ zs:St,zs.length=k->g (.str ⟨#[c]⟩) (zs ++ ρ) H λ σ2 H2=>(∃ zs':St,zs'.length=k/\σ2=zs' ++ ρ)/\tc σ2 H2 λ b H3=>if b=true then te σ2 H3 λ y H4=>∃ ys',H4 l=some (.lst ys')/\ys'.length<sizeLine/\NextP z.cps.size Pv i (upd H4 l (.lst (ys'++[y]))) else NextP z.cps.size Pv i H3)
  (hd:∀ H,Pv z.cps.size H->R H) :
  ∃ W:Nat->Nat->Hp->Prop,(∃ m,W 0 m (upd H₀ l (.lst [])))/\∀ i m H,W i m H->
   ((Its z).stop i H/\R H)∨((Its z).go i H/\∀ x H',(Its z).yld i H x H'->∀ zs:St,zs.length=k->g x (zs ++ ρ) H' λ σ2 H2=>(∃ zs':St,zs'.length=k/\σ2=zs' ++ ρ)/\tc σ2 H2 λ b H3=>if b=true then te σ2 H3 λ y H4=>∃ ys,H4 l=some (.lst ys)/\ys.length<sizeLine/\∃ m',m'<m/\W (i+1) m' (upd H4 l (.lst (ys++[y]))) else ∃ m',m'<m/\W (i+1) m' H3):=
 compG_by (n:=z.cps.size) Pv h0 (λ i H hi p=>hi) (λ H p=>cy _) (λ i x H H' hi y p=>by
  obtain ⟨rfl,c,hc,rfl⟩:=y;exact hs i c _ hc p) hd
end
end L2
namespace L2
open PySem PySem.Spec PyProof.Rows
section
variable {X:Cx}
inductive EqD (K:W.Frag) (H:Hp):Nat->V->V->Prop
 | flat {n:Nat} {v:V} (h:a3 v=true):EqD K H n v v
 | lst {n:Nat} {p q:Addr} {xs ys:List V} (hp:SqL K H p xs) (hq:SqL K H q ys) (hl:xs.length=ys.length) (h:∀ (j:Nat) (x y:V),xs[j]?=some x->ys[j]?=some y->EqD K H n x y):EqD K H (n+1) (.ref p) (.ref q)
 | tup {n:Nat} {p q:Addr} {xs ys:List V} (hp:SqT K H p xs) (hq:SqT K H q ys) (hl:xs.length=ys.length) (h:∀ (j:Nat) (x y:V),xs[j]?=some x->ys[j]?=some y->EqD K H n x y):EqD K H (n+1) (.ref p) (.ref q)
theorem eqV_self {v:V} (h:a3 v=true):eqV v v=true:=by
 cases v with
 | non=>rfl
 | bl b=>cases b <;> rfl
 | int i=>show (i == i)=true;exact beq_self_eq_true i
 | str z=>show (z == z)=true;exact beq_self_eq_true z
 | _=>exact absurd (show false=true from h) cw
theorem all_tt (n:Nat):(List.range n).all (λ _=>true)=true:=by rw [List.all_eq_true];exact λ _ _=>rfl
theorem EqD.at {pins:List (Addr × Obj)} {σ:St} {H:Hp} {s:Shared} (I:Inv X pins σ H s) {n:Nat} {v u:V} (h:EqD X.K H n v u):∀ {A:Around} {v' u':Value},A.units+n<cLine->RelV v v'->RelV u u'->SeqAt.EqAt A s v' u' true:=by
 induction h with
 | flat h=>
  intro A v' u' _ r1 r2
  have:=eqAt_V (A:=A) (s:=s) r1 r2 h h
  rw [eqV_self h] at this;exact this
 | @lst n p q xs ys hp hq hl h ih=>
  intro A v' u' hu r1 r2
  cases r1
  cases r2;by_cases e:p=q
  ·subst e;exact SeqAt.EqAt.same _
  ·obtain ⟨us,r,pl,_⟩:=I.list hp;obtain ⟨ws,r',pl',_⟩:=I.list hq;have e1:=r.length;have e2:=r'.length
   have:=SeqAt.RcAt.lists (A:=A) (e:=λ _=>true) pl.isList pl'.isList (by rw [cz,cz];omega) (by omega) (λ j h1 h2=>by
    have j1:j<us.length:=by simpa using h1
    have j2:j<ws.length:=by simpa using h2
    have a1:xs[j]?=some (xs[j]'(by omega)):=cr _;have a2:ys[j]?=some (ys[j]'(by omega)):=cr _;rw [List.getElem_toArray,List.getElem_toArray];exact ih j _ _ a1 a2 (show A.units+1+n<cLine by omega) (bh r a1 (cr j1)) (bh r' a2 (cr j2)))
   rw [all_tt] at this;exact SeqAt.EqAt.of_refs e this
 | @tup n p q xs ys hp hq hl h ih=>
  intro A v' u' hu r1 r2
  cases r1
  cases r2;by_cases e:p=q
  ·subst e;exact SeqAt.EqAt.same _
  ·obtain ⟨us,r,pl,_⟩:=I.tuple hp;obtain ⟨ws,r',pl',_⟩:=I.tuple hq;have e1:=r.length;have e2:=r'.length
   have:=SeqAt.RcAt.tuples (A:=A) (e:=λ _=>true) pl pl' (by omega) (λ j h1 h2=>by
    have j1:j<us.length:=by simpa using h1
    have j2:j<ws.length:=by simpa using h2
    have a1:xs[j]?=some (xs[j]'(by omega)):=cr _;have a2:ys[j]?=some (ys[j]'(by omega)):=cr _;rw [List.getElem_toArray,List.getElem_toArray];exact ih j _ _ a1 a2 (show A.units+1+n<cLine by omega) (bh r a1 (cr j1)) (bh r' a2 (cr j2)))
   rw [all_tt,cz,cz,show us.length=ws.length by omega,beq_self_eq_true,Bool.and_self] at this;exact SeqAt.EqAt.of_refs e this
end
end L2
namespace L2
open PySem PySem.Spec PyProof.Rows
section
variable {X:Cx}
theorem strs_from:∀ (k:Nat) (xs:List Str),Vals (xs.map V.str) (PySem.strsFrom k xs)
 | _,[]=>.nil
 | k,_::xs=>.cons ⟨_,rfl⟩ (strs_from (k+1) xs)
noncomputable def rSplit:V->List V->Hp->VK->Prop:=λ x vs H Q=>∃ z y,x=.str z/\vs=[.str y]/\(y.length == 0)=false/\z.length<=sizeLine/\(Txt.split z y).length<=sizeLine/\∀ p,H p=none->Q (.ref p) (upd H p (.lst ((Txt.split z y).map V.str)))
theorem mt_split:MtM X "str.split" rSplit:=by
 intro pins s σ H x vs v us Q I rx rv h;obtain ⟨z,y,rfl,rfl,hy,hz,hl,q⟩:=h;obtain ⟨t,rfl⟩:=rx;obtain ⟨u,rfl,t',rfl⟩:=rv.one;have hf:H s.heap.objs.size=none:=I.hok.fresh (cy _)
 have fin:∀ (ws:List Value) (k:Tok),Vals ((Txt.split z y).map V.str) ws->EP X pins σ Q (.ref s.heap.objs.size) { s with heap:=s.heap.push { cls:=.type "list",data:=.seq ws.toArray },toks:=k }:=λ ws k r=>
  ⟨.ref s.heap.objs.size,_,I.laid (t':=k) (λ b o e=>cu _ e) (cy _) (show ObjOk X.prog X.w _ _ _ (.lst ((Txt.split z y).map V.str)) from ⟨by rw [cA];exact hl,ws,0,r,cN _ rfl⟩),rfl,q _ hf⟩
 have e:=q;unfold Txt.split at fin hl;by_cases h1:(decide (z.length<y.length) || decide (Builtin.Str.strKind z<Builtin.Str.strKind y))=true
 ·rw [if_pos h1] at fin;exact call_meets F.slot_str_split (c8 _ _ _) F.entry_str_split (F.args_str_split_2 _ _) (meets_str_split_cannot_occur z y t t' h1) (fin [.str z t] s.toks (.cons ⟨_,rfl⟩ .nil))
 ·rw [if_neg h1] at fin hl;have h1:(decide (z.length<y.length) || decide (Builtin.Str.strKind z<Builtin.Str.strKind y))=false:=by simpa using h1
  by_cases h2:(Builtin.Str.occurrences z y 0 z.length (z.length+1)).isEmpty=true
  ·rw [if_pos h2] at fin;exact call_meets F.slot_str_split (c8 _ _ _) F.entry_str_split (F.args_str_split_2 _ _) (meets_str_split_not_found z y t t' h1 hy h2) (fin [.str z t] s.toks (.cons ⟨_,rfl⟩ .nil))
  ·rw [if_neg h2] at fin hl;exact call_meets F.slot_str_split (c8 _ _ _) F.entry_str_split (F.args_str_split_2 _ _) (meets_str_split_sep z y t t' h1 hy (by simpa using h2) hz hl) (fin _ _ (strs_from _ _))
noncomputable def rIdxS:V->List V->Hp->VK->Prop:=λ x vs H Q=>∃ z y i r,x=.str z/\vs=[.str y]/\Builtin.Str.occurrences z y 0 z.length 1=i::r/\Q (.int (i:Nat)) H
theorem mt_indexS:MtM X "str.index" rIdxS:=by
 intro pins s σ H x vs v us Q I rx rv h;obtain ⟨z,y,i,r,rfl,rfl,ho,q⟩:=h;obtain ⟨t,rfl⟩:=rx;obtain ⟨u,rfl,t',rfl⟩:=rv.one;exact call_gives F.slot_str_index (c8 _ _ _) F.entry_str_index (F.args_str_index_2 _ _) (gives_str_index z y t t' i r ho) ⟨.int _,H,I.tok _,⟨_,rfl⟩,q⟩
theorem vals_txt:∀ {xs:List Str} {us:List Value},Vals (xs.map V.str) us->∃ l:List (Str × Tok),us=strValues l/\l.map (·.1)=xs
 | [],_,.nil=>⟨[],rfl,rfl⟩
 | x::xs,_,.cons r rs=>by
  obtain ⟨t,rfl⟩:=r;obtain ⟨l,rfl,rfl⟩:=vals_txt rs;exact ⟨(x,t)::l,rfl,rfl⟩
noncomputable def rJoin (K:W.Frag):V->List V->Hp->VK->Prop:=λ x vs H Q=>∃ z l xs,x=.str z/\vs=[.ref l]/\SqL K H l ((xs:List Str).map V.str)/\(∀ y∈xs,y.length<=100)/\z.length<=100/\xs.length<=100/\(Builtin.Str.glued z xs).length<=sizeLine/\Q (.str (Builtin.Str.glued z xs)) H
theorem mt_join:MtM X "str.join" (rJoin X.K):=by
 intro pins s σ H x vs v us Q I rx rv h;obtain ⟨z,l,xs,rfl,rfl,hl,hy,hz,lx,hg,q⟩:=h;obtain ⟨t,rfl⟩:=rx;obtain ⟨u,rfl,ru⟩:=rv.one
 cases ru;obtain ⟨its,r,pl,_⟩:=I.list hl;obtain ⟨ls,rfl,rfl⟩:=vals_txt r
 have tl:Builtin.Str.tooLong (((ls.map (·.1)).toArray).foldl (λ(n:Nat) (p:Str)=>n+p.length+z.length) 0)=false:=by
  rw [StrLaws.joinTotal];unfold Builtin.Str.tooLong;simp only [cL,gt_iff_lt,decide_eq_false_iff_not]
  have h1:∀ ys:List Str,(∀ y∈ys,y.length<=100)->(ys.map (·.length)).sum<=ys.length*100:=λ ys=>by
   induction ys with
   | nil=>intro _;simp
   | cons y r ih=>
    intro h;rw [List.map_cons,List.sum_cons,cH,Nat.succ_mul]
    have:=h y cE
    have:=ih λ w hw=>h w (cK _ hw)
    omega
  have h2:=h1 _ hy;have h3:=Nat.mul_le_mul lx hz;have h4:=Nat.mul_le_mul_right 100 lx;omega
 refine call_meets F.slot_str_join (c8 _ _ _) F.entry_str_join (F.args_str_join_2 _ _) (meets_str_join_list z t l ls tl) ⟨pl.isList,?_⟩
 match ls,hg,q with
 | [],hg,q=>exact ⟨hg,.str _,H,I.tok _,⟨_,rfl⟩,q⟩
 | [p],hg,q=>exact ⟨.str _,H,I,⟨_,rfl⟩,q⟩
 | p::p'::r,hg,q=>exact ⟨hg,.str _,H,I.tok _,⟨_,rfl⟩,q⟩
noncomputable def rRepR:R2:=λ x y H Q=>∃ z n,x=.int n/\y=.str z/\z.length<=100/\n.natAbs<1000/\Q (.str (Txt.mul z n)) H
theorem op_repR:OpR X (binaryOp .Mult) rRepR:=by
 intro pins s σ H x y v u Q I rx ry h;obtain ⟨z,n,rfl,rfl,hz,hn,q⟩:=h;obtain ⟨t,rfl⟩:=rx;obtain ⟨t',rfl⟩:=ry;have q1:(decide (n < -(2 ^ 63:Int)) || decide (n ≥ 2 ^ 63))=false:=by simp;omega
 have pz:¬ n<1->z.length*n.toNat<=100*1000:=λ _=>Nat.mul_le_mul hz (by omega)
 have q3:¬ n<1->(n == 1 || z.length == 0)=false->Builtin.Str.tooLong (z.length*n.toNat)=false:=λ h1 _=>by
  have:=pz h1
  unfold Builtin.Str.tooLong;simp only [cL,gt_iff_lt,decide_eq_false_iff_not];omega
 have q2:¬ n<1->(n == 1 || z.length == 0)=false->¬ ((z.length:Int) > (2 ^ 63-1) / n):=λ h1 _=>by
  have:(100:Int)<=(2 ^ 63-1) / n:=Int.le_ediv_of_mul_le (by omega) (by omega)
  omega
 refine lm_binaryOp_repeat_right (T:="str") (U:="int") (by decide) (λ s'=>typeIs_int s' n t) (c8 s z t') F.fills_int_mul noFill_str_mul F.slot_int_mul lm_noRepeat_int repeat_str F.slot_int_index.lookup
  (call_gives F.slot_int_mul (typeIs_int s n t) F.entry_int_mul (F.args_int_mul_2 _ _) (AutoIntG3.int___mul___int_str_0 n t z t')
   ⟨rfl,c8 s z t',call_gives F.slot_str_mul (c8 s z t') F.entry_str_mul (F.args_str_mul_2 _ _) (gives_str_mul z n t' t q1 q2 q3) ?_⟩)
 have fin:∀ t' k,EP X pins σ Q (.str (Txt.mul z n) t') { s with toks:=k }:=λ t' k=>⟨.str _,H,I.tok _,⟨_,rfl⟩,q⟩;unfold Txt.mul at fin;by_cases h1:n<1
 ·rw [if_pos h1] at fin ⊢;exact ⟨by decide,fin _ _⟩
 ·rw [if_neg h1] at fin ⊢;exact post_val_or_made (λ hc=>fits_reps (q3 h1 (by simpa using hc))) λ t' k=>fin t' k
theorem op_eqDT (hu:X.A.units+64<cLine):OpR X (compareOp .Eq) (λ x y H Q=>∃ p q xs ys,x=.ref p/\y=.ref q/\SqT X.K H p xs/\SqT X.K H q ys/\xs.length=ys.length/\(∀ (j:Nat) (x y:V),xs[j]?=some x->ys[j]?=some y->EqD X.K H 20 x y)/\Q (.bl true) H):=by
 intro pins s σ H x y v u Q I rx ry h;obtain ⟨p,q,xs,ys,rfl,rfl,hp,hq,hl,hd,k⟩:=h
 cases rx
 cases ry;obtain ⟨us,r,pl,_⟩:=I.tuple hp;obtain ⟨ws,r',pl',_⟩:=I.tuple hq;have e1:=r.length;have e2:=r'.length;refine SeqAt.eq_tupleAt (e:=λ _=>true) pl pl' (by omega) (λ j h1 h2=>?_) ⟨.bl _,H,I,rfl,?_⟩
 ·have j1:j<us.length:=by simpa using h1
  have j2:j<ws.length:=by simpa using h2
  have a1:xs[j]?=some (xs[j]'(by omega)):=cr _;have a2:ys[j]?=some (ys[j]'(by omega)):=cr _;rw [List.getElem_toArray,List.getElem_toArray];exact (hd j _ _ a1 a2).at I (show X.A.units+1+20<cLine by omega) (bh r a1 (cr j1)) (bh r' a2 (cr j2))
 ·rw [all_tt,cz,cz,show us.length=ws.length by omega,beq_self_eq_true,Bool.and_self];exact k
end
section
variable {X:Cx}
noncomputable def PEp (X:Cx) (e:Expr) (t:TE):Prop:=
 ∀ (pins:List (Addr × Obj)) (s:Shared) (σ:St) (H:Hp) (Q:VK),Inv X pins σ H s->0<s.toks->t σ H Q->wpAny (model X.prog X.w) X.A (eval e X.env) (EP X pins σ Q) X.xe s
noncomputable def PSsp (X:Cx) (st:List Stmt) (t:TS):Prop:=
 ∀ (pins:List (Addr × Obj)) (s:Shared) (σ:St) (H:Hp) (D:Ends),Inv X pins σ H s->0<s.toks->t D σ H->wpAny (model X.prog X.w) X.A (execs st X.env) (SP X pins D) X.xe s
noncomputable def tRepl (i:Nat) (y z:Str):TE:=λ σ H Q=>∃ x,σ[i]?=some (some (.str x))/\x.length<=100/\z.length<=100/\∀ r:Str,r.length<=20400->Q (.str r) H
theorem occ_len (x y:Str) (n:Nat):(Builtin.Str.occurrences x y 0 x.length n).length<=n:=by
 have gen:∀ (l:List Nat) (st:Array Nat × Nat),st.1.size<=n->(forIn l st (StrLaws.occBody x y x.length n)).run.fst.size<=n:=λ l=>by
  induction l with
  | nil=>intro st h;exact h
  | cons i r ih=>
   intro st h;rw [List.forIn_cons];unfold StrLaws.occBody
   split
   ·rename_i c;exact ih _ (by rw [Array.size_push];omega)
   ·exact ih _ h
 rw [StrLaws.occ_eq,cM];exact gen _ _ (da _)
theorem glued_len (z:Str) (n:Nat) (ps:List Str) (h:∀ p∈ps,p.length<=n):(Builtin.Str.glued z ps).length<=ps.length*(n+z.length):=by
 have gen:∀ (qs:List Str) (acc:Array Nat),(∀ p∈qs,p.length<=n)->(qs.foldl (λ acc p=>acc++z.cps++p.cps) acc).size<=acc.size+qs.length*(n+z.length):=λ qs=>by
  induction qs with
  | nil=>intro acc _;simp
  | cons q r ih=>
   intro acc hq;rw [List.foldl_cons,cH,Nat.succ_mul]
   have:=ih (acc++z.cps++q.cps) λ p hp=>hq p (cK _ hp)
   rw [Array.size_append,Array.size_append] at this;have h1:q.cps.size<=n:=hq q cE;have h2:z.cps.size=z.length:=rfl;omega
 cases ps with
 | nil=>exact da _
 | cons p r=>
  have:=gen r p.cps λ q hq=>h q (cK _ hq)
  have h1:p.cps.size<=n:=h p cE;rw [cH,Nat.succ_mul];show (List.foldl (λ acc p=>acc++z.cps++p.cps) p.cps r).size<=_;omega
theorem parts_len {x:Str} {cuts:List Nat} {w:Nat}:∀ p∈Builtin.Str.partsBetween x cuts w,p.length<=x.length:=λ p hp=>by
 simp only [Builtin.Str.partsBetween,List.mem_map] at hp;obtain ⟨⟨i,j⟩,_,rfl⟩:=hp;exact strSub_length_le ..
theorem pep_replace {i:Nat} {x y z:Str} {pos p1 p2 apos cpos:Pos} {k1 k2:Nat} (hN:X.N[i]?=some x) (hv:Vis X.env.scope x) (hyz:(y == z)=false:=by decide) (hd:(x == ("__debug__":Str))=false:=by decide) (hcd:(x == ("__classdict__":Str))=false:=by decide)
  (hbase:attributeBase (.Name x pos) "replace" X.env (eval (.Name x pos) X.env)=eval (.Name x pos) X.env:=by rfl)
  (hfew:((backTo cpos (starEach [.Constant (.str y) k1 p1,.Constant (.str z) k2 p2] X.env)).all (λ x=>!x.1) && (backToKw cpos (keywordEach [] X.env)).all (λ x=>x.1.isSome)
   && decide (([.Constant (.str y) k1 p1,.Constant (.str z) k2 p2]:List Expr).length+([]:List Keyword).length+(if ([]:List Keyword).isEmpty then 0 else 1)<30))=true:=by rfl)
  (hline:(apos.endLine == cpos.line)=true:=by rfl)
  (hs:backTo cpos (starEach [.Constant (.str y) k1 p1,.Constant (.str z) k2 p2] X.env)=[(false,eval (.Constant (.str y) k1 p1) X.env),(false,eval (.Constant (.str z) k2 p2) X.env)]:=by rfl) :
  PEp X (.Call (.Attribute (.Name x pos) "replace" apos) [.Constant (.str y) k1 p1,.Constant (.str z) k2 p2] [] cpos) (tRepl i y z):=by
 intro pins s σ H Q I tk h;obtain ⟨w,e,lw,lz,q⟩:=h;obtain ⟨m,hn,hl⟩:=I.loc;obtain ⟨u,⟨t,rfl⟩,l⟩:=hl i x _ hN e hv
 have fin:MethodOn X.prog X.w X.A "replace" cpos (.str w t) (backTo cpos (starEach [.Constant (.str y) k1 p1,.Constant (.str z) k2 p2] X.env)) (EP X pins σ Q) X.xe s:=by
  refine ⟨"str","str.replace",F.plainAttrs_str,F.slot_str_replace,F.type_str_replace,c8 _ _ _,?_,?_⟩
  ·exact λ _ e=>nomatch e
  rw [hs];refine Calls.callWith_builtin rfl (Calls.evalArgs_plain ?_);refine Calls.spliced_cons (Calls.Constant_str (Calls.spliced_cons (Calls.Constant_str (Calls.spliced_nil ?_))));have I2:=I.tok (s.toks+1+1);have oc:=occ_len w y (w.length+1)
  have gl:(Builtin.Str.glued z (Builtin.Str.partsBetween w (Builtin.Str.occurrences w y 0 w.length (w.length+1)) y.length)).length<=20400:=by
   have:=glued_len z 100 (Builtin.Str.partsBetween w (Builtin.Str.occurrences w y 0 w.length (w.length+1)) y.length) λ p hp=>cn (parts_len p hp) lw
   rw [PySem.length_partsBetween] at this;exact cn this (cn (Nat.mul_le_mul (show _<=102 by omega) (show 100+z.length<=200 by omega)) (by decide))
  refine call_gives F.slot_str_replace (c8 _ _ _) F.entry_str_replace (F.args_str_replace_3 _ _ _) (gives_str_replace w y z t s.toks (s.toks+1) λ _=>⟨by rw [cW.mpr (Nat.ne_of_gt tk),cW.mpr (Nat.succ_ne_zero s.toks)];rfl,cW.mpr (cT (Nat.lt_succ_self s.toks)),hyz,?_⟩) ?_
  ·unfold Builtin.Str.tooLong;simp only [cL,gt_iff_lt,decide_eq_false_iff_not]
   have:=Nat.mul_le_mul (show _<=101 from cn oc (by omega)) lz
   omega
  ·split
   ·exact ⟨.str w,H,I2,⟨_,rfl⟩,q w (by omega)⟩
   ·exact ⟨cn gl (by decide),.str _,H,I.tok _,⟨_,rfl⟩,q _ gl⟩
 rcases l with ⟨hk,hm⟩ | ⟨hk,c,hc,hcell⟩
 ·exact wpAny_Call_method_late hbase hfew hline rfl (wpAny_Name (wpAny_loadName_local I.ok.kind hk hn hm fin) hd)
 ·rcases hk with hk | hk
  ·exact wpAny_Call_method_late hbase hfew hline rfl (wpAny_Name (wpAny_loadName_cell I.ok.kind hk hc hcell fin) hd)
  ·exact wpAny_Call_method_late hbase hfew hline rfl (wpAny_Name (wpAny_loadName_free I.ok.kind hk hc hcell fin hcd) hd)
theorem pep_op {op:Operator} {r:R2} {a b:Expr} {ta tb:TE} {pos:Pos} (ho:OpR X (binaryOp op) r) (ha:PEp X a ta) (hb:PE X b tb):PEp X (.BinOp a op b pos) (tOp r ta tb):=by
 intro pins s σ H Q I tk h;exact wpAny_BinOp (thn (ha pins s σ H _ I tk h) λ v s1 ⟨x,H1,I1,r1,q1⟩=>thn (hb pins s1 σ H1 _ I1 q1) λ u s2 ⟨y,H2,I2,r2,q2⟩=>ho pins s2 σ H2 x y v u Q I2 r1 r2 q2)
theorem pssp_ret {e:Expr} {te:TE} {pos:Pos} (he:PEp X e te):PSsp X [.Return (some e) pos] (tRet te):=by
 intro pins s σ H D I tk h;exact wpAny_execs_cons (wpAny_Return_some (thn (he pins s σ H _ I tk h) λ v s1 ⟨x,H1,I1,r1,q1⟩=>⟨x,σ,H1,I1,r1,q1⟩))
noncomputable def rEqP:R2:=λ x y H Q=>∃ i j,x=.int i/\y=.int j/\Q (.bl (decide (V.int i=V.int j))) H
theorem ps_ifp {a:Expr} {n:Int} {k:Nat} {p1 p2 pos:Pos} {body els:List Stmt} {ta:TE} {t u:TS} (ha:PE X a ta) (hb:PSsp X body t) (he:PSs X els u) (hm:behindInMarks .Eq (.Constant (.int n) k p1)=false:=by rfl):PS X (.If (.Compare a [.Eq] [.Constant (.int n) k p1] p2) body els pos) (tIfS (tTest (tOp rEqP ta (tC (.int n)))) t u):=by
 intro pins s σ H D I h;refine wpAny_If (wpAny_isTrue_Compare1 (thn (ha pins s σ H _ I h) λ v s1 ⟨x,H1,I1,r1,q1⟩=>wpAny_Constant_int ?_) hm);have I2:=I1.tok (s1.toks+1);obtain ⟨i,j,rfl,ej,q2⟩:=q1
 cases ej;obtain ⟨t1,rfl⟩:=r1;refine PyProof.Rows.eq_int ?_;rw [<- dec_int];obtain ⟨b,eb,q3⟩:=q2
 cases eb;refine cY ?_
 revert q3
 cases decide (V.int i=V.int n) with
 | true=>exact λ q3=>hb pins _ σ H1 D I2 (Nat.succ_pos _) q3
 | false=>exact λ q3=>he pins _ σ H1 D I2 q3
noncomputable def strE:Expr->Option Str
 | .Constant (.str x) _ _=>some x
 | _=>none
noncomputable def strsE:List Expr->Option (List Str)
 | []=>some []
 | e::es=>match strE e,strsE es with
  | some x,some xs=>some (x::xs)
  | _,_=>none
noncomputable def tStrs (xs:List Str):TA:=λ _ H Q=>Q (xs.map V.str) H
theorem pa_strs:∀ {es:List Expr} {xs:List Str},strsE es=some xs->PA X es (tStrs xs)
 | [],_,h=>by cases h;exact ae
 | .Constant (.str x) k p::es,xs,h=>by
  cases e:strsE es with
  | none=>simp only [strsE,strE,e] at h;cases h
  | some ys=>
   simp only [strsE,strE,e] at h
   cases h;intro pos pins s σ H Q I q;exact aa (t:=tStrs ys) aE (pa_strs e) rfl pos pins s σ H Q I q
theorem pe_eqE {e e':Expr} {te:TE} (h:e=e') (p:PE X e te):PE X e' te:=h ▸ p
theorem pe_txl {es:List Expr} {pos:Pos} (xs:List Str) (h:(match strsE es with | some ys=>decide (ys=xs) | none=>false)=true):PE X (.List es pos) (tLst (tStrs xs)):=by
 revert h
 cases e:strsE es with
 | none=>exact λ h=>absurd (show false=true from h) (by decide)
 | some ys=>
  intro h;rw [<- of_decide_eq_true h];exact pe_lst (pa_strs e)
end
end L2
namespace G
noncomputable def gcd (a b:Int):Int:=(Int.gcd a b:Int)
theorem gcd_zero (a:Int) (h:0<=a):gcd a 0=a:=by
 unfold gcd;rw [Int.gcd_zero_right];omega
theorem gcd_abs (a b:Int):gcd (if a<0 then -a else a) (if b<0 then -b else b)=gcd a b:=by
 unfold gcd;congr 1
 split <;> split <;> simp [Int.neg_gcd,Int.gcd_neg]
theorem gcd_step (a b:Int) (hb:0<b):gcd b (a % b)=gcd a b:=by
 unfold gcd;congr 1;rw [Int.gcd_comm b];have e:a=a % b+(a / b)*b:=by have:=Int.emod_add_mul_ediv a b;rw [Int.mul_comm] at this;omega
 have h:=Int.gcd_add_mul_right_left b (a % b) (a / b);rw [<- e] at h;exact h.symm
theorem den_pos (x:Rat):(0:Int)<(x.den:Int):=by have:=x.den_nz;omega
theorem init_spec (a b:Int) (hb:b≠0):a.fdiv (if b<0 then -(gcd a b) else gcd a b)=(Rat.divInt a b).num/\b.fdiv (if b<0 then -(gcd a b) else gcd a b)=((Rat.divInt a b).den:Int):=by
 have gp:0<Int.gcd a b:=Int.gcd_pos_of_ne_zero_right a hb;obtain ⟨k,hk⟩:=Int.gcd_dvd_left a b;obtain ⟨m,hm⟩:=Int.gcd_dvd_right a b;have gz:(Int.gcd a b:Int)≠0:=by omega
 rw [Rat.num_divInt,Rat.den_divInt,if_neg hb,Int.gcd_comm b a];unfold gcd;generalize hgg:Int.gcd a b=g at *;have e1:∀ z:Int,(g*z).fdiv g=z:=λ z=>by rw [Int.mul_comm,Int.mul_fdiv_cancel _ gz]
 have e2:∀ z:Int,(g*z).fdiv (-(g:Int)) = -z:=λ z=>by
  have:(g:Int)*z=(-z)*(-(g:Int)):=by rw [Int.neg_mul_neg,Int.mul_comm]
  rw [this,Int.mul_fdiv_cancel _ (by omega)]
 by_cases hs:b<0
 ·rw [if_pos hs,Int.sign_eq_neg_one_of_neg hs];constructor
  ·conv=>lhs;rw [hk,e2]
   have:-1*a = -k*g:=by rw [hk,Int.mul_comm (g:Int) k,Int.neg_mul,Int.neg_mul,Int.one_mul]
   rw [this,Int.mul_ediv_cancel _ gz]
  ·conv=>lhs;rw [hm,e2]
   have mneg:m<0:=by
    rcases Int.lt_trichotomy m 0 with h | h | h
    ·exact h
    ·rw [h] at hm;omega
    ·have:=Int.mul_pos (show (0:Int)<g by omega) h;omega
   have:b.natAbs=m.natAbs*g:=by rw [hm,Int.natAbs_mul,c9,Nat.mul_comm]
   rw [this,Nat.mul_div_cancel _ gp];omega
 ·rw [if_neg hs,Int.sign_eq_one_of_pos (by omega)];constructor
  ·conv=>lhs;rw [hk,e1]
   have:1*a=k*g:=by rw [hk,Int.mul_comm (g:Int) k,Int.one_mul]
   rw [this,Int.mul_ediv_cancel _ gz]
  ·conv=>lhs;rw [hm,e1]
   have mpos:0<m:=by
    rcases Int.lt_trichotomy m 0 with h | h | h
    ·have:=Int.mul_neg_of_pos_of_neg (show (0:Int)<g by omega) h;omega
    ·rw [h] at hm;omega
    ·exact h
   have:b.natAbs=m.natAbs*g:=by rw [hm,Int.natAbs_mul,c9,Nat.mul_comm]
   rw [this,Nat.mul_div_cancel _ gp];omega
end G
namespace G
noncomputable def Bd (n:Nat) (x:Rat):Prop:=x.num.natAbs<=2 ^ n/\x.den<=2 ^ n
theorem bH (a:Int) (d:Nat):(a / (d:Int)).natAbs<=a.natAbs:=by
 rcases Nat.eq_zero_or_pos d with h | h
 ·subst h;simp
 ·have hd:(0:Int)<d:=by omega
  rcases Int.le_total 0 a with ha | ha
  ·have h1:=Int.ediv_nonneg ha (Int.le_of_lt hd);have h2:=Int.ediv_le_self (d:Int) ha;omega
  ·have h1:a / (d:Int)<=0:=Int.ediv_nonpos_of_nonpos_of_neg ha hd
   have h2:a<=a / (d:Int):=by
    rw [Int.le_ediv_iff_mul_le hd];have h3:0<=(-a)*((d:Int)-1):=Int.mul_nonneg (by omega) (by omega);rw [Int.neg_mul,Int.mul_sub,Int.mul_one] at h3;omega
   omega
theorem Bd.divInt {n:Nat} {a b:Int} (ha:a.natAbs<=2 ^ n) (hb:b.natAbs<=2 ^ n):Bd n (Rat.divInt a b):=by
 constructor
 ·rw [Rat.num_divInt];refine cn (bH _ _) ?_;rw [Int.natAbs_mul]
  have:b.sign.natAbs<=1:=by
   rcases Int.lt_trichotomy b 0 with h | h | h
   ·rw [Int.sign_eq_neg_one_of_neg h];decide
   ·rw [h];decide
   ·rw [Int.sign_eq_one_of_pos h];decide
  calc b.sign.natAbs*a.natAbs<=1*a.natAbs:=Nat.mul_le_mul_right _ this
   _<=2 ^ n:=by omega
 ·rw [Rat.den_divInt]
  split
  ·exact Nat.one_le_two_pow
  ·exact cn (Nat.div_le_self _ _) hb
end G
namespace G
end G
namespace G
open PySem
noncomputable def sgs:Str:="abcdefghijklmnopqrstuvwxyz0123456789."
noncomputable def sgAt (i:Int):Nat:=sgs.cps.toList.getD i.toNat 0
noncomputable def turnK (k c:Int):Int:=(k*(1+c / 5 % 36)+c / 180) % 37
end G
namespace G
open PySem
theorem bn {x y:Str} (h:x.cps.toList=y.cps.toList):x=y:=by
 cases x with
 | mk a=>
  cases y with
  | mk b=>
   have:a=b:=Array.toList_inj.mp h
   rw [this]
noncomputable def dg (m:Nat):List Nat:=(Nat.toDigits 10 m).map Char.toNat
noncomputable def txt (i:Int):Str:=Str.ofString (toString i)
theorem dg_digits {m c:Nat} (h:c∈dg m):48<=c/\c<=57:=by
 obtain ⟨ch,hch,e⟩:=List.mem_map.mp h;rw [<- e];exact PyProof.Rows.digit_range (Nat.isDigit_of_mem_toDigits (by decide) (by decide) hch)
theorem bL (m:Nat):(txt (m:Int)).cps.toList=dg m:=PySem.W.KIN.signs_num m
theorem txt_neg (m:Nat):(txt (Int.negSucc m)).cps.toList=45::dg (m+1):=by
 have e:toString (Int.negSucc m) = "-" ++ toString ((m+1:Nat)):=rfl;unfold txt;rw [e,PyProof.Rows.signs_ofString,String.toList_append,List.map_append]
 have:=bL (m+1)
 unfold txt at this;rw [PyProof.Rows.signs_ofString] at this;rw [<- this];rfl
theorem part_none {z:Str} (h:¬ 47∈z.cps.toList):Txt.partition z ⟨#[47]⟩=(z,Str.empty,Str.empty):=by
 have f:=StrLaws.found_one z 47;rw [cv h] at f;unfold Txt.partition
 cases e:Builtin.Str.occurrences z ⟨#[47]⟩ 0 z.length 1 with
 | nil=>rfl
 | cons i r=>rw [e] at f;simp at f
theorem part_one {z:Str} {A B:List Nat} (h:z.cps.toList=A++47::B) (hA:¬ 47∈A) (hB:¬ 47∈B):Txt.partition z ⟨#[47]⟩=(⟨A.toArray⟩,⟨#[47]⟩,⟨B.toArray⟩):=by
 have f:=StrLaws.found_one z 47;rw [cB (by rw [h];simp)] at f;have ch:=StrLaws.occ_chain z ⟨#[47]⟩ 1;unfold Txt.partition
 cases e:Builtin.Str.occurrences z ⟨#[47]⟩ 0 z.length 1 with
 | nil=>rw [e] at f;simp at f
 | cons i r=>
  rw [e] at ch;obtain ⟨_,_,⟨h1,h2⟩,_⟩:=ch;have hi:=(StrLaws.subAt_one z 47 i).mp ⟨h1,h2⟩
  have ei:i=A.length:=by
   rw [h] at hi;rcases Nat.lt_trichotomy i A.length with g | g | g
   ·rw [List.getElem?_append_left g] at hi;exact absurd (List.mem_of_getElem? hi) hA
   ·exact g
   ·rw [List.getElem?_append_right (by omega)] at hi;obtain ⟨j,hj⟩:∃ j,i-A.length=j+1:=⟨i-A.length-1,by omega⟩;rw [hj,List.getElem?_cons_succ] at hi;exact absurd (List.mem_of_getElem? hi) hB
  subst ei
  have zl:z.length=A.length+1+B.length:=by
   show z.cps.size=_;rw [<- cM,h,cZ,cH];omega
  show (Builtin.Str.strSub z 0 A.length,_,Builtin.Str.strSub z (A.length+1) z.length)=_;have e1:Builtin.Str.strSub z 0 A.length=⟨A.toArray⟩:=bn (by rw [StrLaws.strSub_toList,h,List.drop_zero,Nat.sub_zero,List.take_left])
  have e2:Builtin.Str.strSub z (A.length+1) z.length=⟨B.toArray⟩:=bn (by
   rw [StrLaws.strSub_toList,h,zl,List.drop_append,List.drop_of_length_le (by omega),Nat.add_sub_cancel_left];rw [List.nil_append,Nat.add_sub_cancel_left];show List.take _ B=B;exact List.take_of_length_le (by omega))
  rw [e1,e2]
theorem starts_one {z:Str} {c:Nat}:Txt.startswith z ⟨#[c]⟩=decide (z.cps.toList[0]?=some c):=by
 have:=StrLaws.subAt_one z c 0
 unfold Txt.startswith;rw [Bool.eq_iff_iff,cP,decide_eq_true_eq,decide_eq_true_eq];exact this
theorem fm_drop:∀ (n j:Nat) (a:Array Nat),j+n=a.size->((List.range n).map λ k=>j+k).filterMap (a[·]?)=a.toList.drop j
 | 0,j,a,h=>by
  rw [List.range_zero,List.map_nil,List.filterMap_nil,List.drop_of_length_le (by rw [cM];omega)]
 | n+1,j,a,h=>by
  have hj:j<a.size:=by omega
  rw [List.range_succ_eq_map,List.map_cons,List.map_map,List.filterMap_cons,Nat.add_zero,Array.getElem?_eq_getElem hj];have e:((λ k=>j+k) ∘ Nat.succ)=λ k=>(j+1)+k:=funext λ k=>by show j+(k+1)=_;omega
  rw [e,fm_drop n (j+1) a (by omega)]
  have:j<a.toList.length:=by rw [cM];exact hj
  rw [List.drop_eq_getElem_cons this];rfl
theorem slice_one {z:Str} {c:Nat} {cs:List Nat} (h:z.cps.toList=c::cs):(Txt.slice z (some 1) none).cps.toList=cs:=by
 have zl:z.length=cs.length+1:=by show z.cps.size=_;rw [<- cM,h,cH]
 have e:Builtin.Str.strSliceIndices (some 1) none 1 z.length=(List.range cs.length).map λ k=>1+k:=by
  unfold Builtin.Str.strSliceIndices sliceRange;simp only [show (1:Int) > 0 by decide,if_true,show ¬ (1:Int)<0 by decide,if_false];rw [zl,show max (0:Int) (min 1 ((cs.length+1:Nat):Int))=1 by omega];rw [show (if (1:Int)<((cs.length+1:Nat):Int) then (((cs.length+1:Nat):Int)-1+1-1) / 1 else 0).toNat=cs.length by split <;> simp <;> omega];refine List.map_congr_left λ k hk=>?_;omega
 unfold Txt.slice;rw [e,if_neg (by simp;omega),fm_drop cs.length 1 z.cps (by have:z.cps.size=z.length:=rfl;omega),h];rfl
end G
namespace G
open PySem PySem.NumText
noncomputable def bY (c:Nat):Bool:=decide (48<=c) && decide (c<=57)
theorem figB_iff {c:Nat}:bY c=true↔48<=c/\c<=57:=by unfold bY;rw [cP,cR,cR]
noncomputable def bW (cs:List Nat):Bool:=decide (1<=cs.length) && decide (cs.length<=9)
noncomputable def aw (cs:List Nat):Option Nat:=if (bW cs && cs.all bY)=true then some (digitsVal cs) else none
noncomputable def aQ (cs:List Nat):Option Nat:=if (bW cs && !(decide (1<cs.length) && decide (cs[0]?=some 48)) && cs.all bY)=true then some (digitsVal cs) else none
theorem all_fig {cs:List Nat}:cs.all bY=true↔AllDigits cs:=by
 rw [List.all_eq_true];exact ⟨λ h c hc=>figB_iff.mp (h c hc),λ h c hc=>figB_iff.mpr (h c hc)⟩
theorem a8 {cs:List Nat} {t:Nat} (h:aw cs=some t):(1<=cs.length/\cs.length<=9)/\AllDigits cs/\t=digitsVal cs:=by
 unfold aw bW at h
 split at h
 ·rename_i c;rw [cP,cP,cR,cR] at c;exact ⟨c.1,all_fig.mp c.2,(cU h).symm⟩
 ·cases h
theorem a9 {cs:List Nat} (h:aw cs=none):aQ cs=none:=by
 unfold aw at h;unfold aQ
 split at h
 ·cases h
 ·rename_i c;rw [if_neg λ z=>c ?_];rw [cP,cP] at z;rw [cP];exact ⟨z.1.1,z.2⟩
noncomputable def Can (cs:List Nat):Prop:=cs.length=1∨cs[0]?≠some 48
theorem bG {cs:List Nat} {t:Nat} (h:aw cs=some t):(Can cs/\aQ cs=some t)∨(¬ Can cs/\aQ cs=none):=by
 obtain ⟨⟨l1,l2⟩,ad,rfl⟩:=a8 h;have fg:=all_fig.mpr ad;unfold aQ bW Can;rw [cB l1,cB l2,fg,Bool.and_self,Bool.true_and,Bool.and_true];by_cases c1:1<cs.length
 ·rw [cB c1,Bool.true_and];by_cases c2:cs[0]?=some 48
  ·refine .inr ⟨λ z=>z.elim (λ z=>by omega) λ z=>z c2,?_⟩;rw [cB c2];rfl
  ·refine .inl ⟨.inr c2,?_⟩;rw [cv c2];rfl
 ·refine .inl ⟨.inl (by omega),?_⟩;rw [cv c1];rfl
theorem dg_can {cs:List Nat} (l1:1<=cs.length) (ad:AllDigits cs):dg (digitsVal cs)=cs↔Can cs:=by
 constructor
 ·intro e;unfold Can;by_cases c1:cs.length=1
  ·exact .inl c1
  ·refine .inr λ c2=>?_
   cases cs with
   | nil=>cases c2
   | cons c r=>
    cases c2;have hr:1<=r.length:=by rw [cH] at c1 l1;omega
    have e1:digitsVal (48::r)=digitsVal r:=digitsVal_zero;rw [e1] at e
    have key:∀ (n:Nat) (r:List Nat),r.length=n->1<=n->AllDigits r->(dg (digitsVal r)).length<=n:=λ n=>by
     induction n with
     | zero=>intro r _ h;omega
     | succ n ih=>
      intro r hl _ ad;by_cases hz:n=0∨∃ c r',r=c::r'/\49<=c
      ·unfold dg;rw [toDigits_digitsVal n r hl ad hz,cA,cA,hl];exact cy _
      ·cases r with
       | nil=>cases hl
       | cons c r'=>
        have hc:=ad.head
        have c48:c=48:=by
         refine Nat.le_antisymm ?_ hc.1;exact Nat.le_of_not_lt λ z=>hz (.inr ⟨c,r',rfl,z⟩)
        subst c48;rw [digitsVal_zero]
        have:n≠0:=λ z=>hz (.inl z)
        exact Nat.le_succ_of_le (ih r' (by simpa using hl) (by omega) ad.tail)
    have:=key r.length r rfl hr ad.tail
    rw [e,cH] at this;omega
 ·intro h;obtain ⟨n,hn⟩:∃ n,cs.length=n+1:=⟨cs.length-1,by omega⟩
  have hh:n=0∨∃ c r,cs=c::r/\49<=c:=by
   rcases h with h | h
   ·exact .inl (by omega)
   ·refine .inr ?_
    cases cs with
    | nil=>cases hn
    | cons c r=>
     have hc:=ad.head;refine ⟨c,r,rfl,Nat.lt_of_le_of_ne hc.1 λ z=>h ?_⟩;rw [<- z];rfl
  unfold dg;rw [toDigits_digitsVal n cs hn ad hh,List.map_map]
  have:∀ c∈cs,(Char.toNat ∘ Char.ofNat) c=id c:=λ c hc=>by
   obtain ⟨h1,h2⟩:=ad c hc;show (Char.ofNat c).toNat=c;have key:∀ d:Nat,d<10->(Char.ofNat (48+d)).toNat=48+d:=by decide
   have:=key (c-48) (by omega)
   rwa [show 48+(c-48)=c by omega] at this
  rw [List.map_congr_left this,List.map_id]
theorem dv_dg (m:Nat):digitsVal (dg m)=m:=PySem.W.KIN.val_back m
noncomputable def aI (cs:List Nat):Bool:=decide (cs[0]?=some 45)
noncomputable def aP (cs:List Nat):List Nat:=if aI cs=true then cs.drop 1 else cs
noncomputable def bB (cs:List Nat) (t:Nat):Int:=if aI cs=true then -(t:Int) else t
theorem off_bel {cs:List Nat} (h:aI cs=true):cs=45::aP cs:=by
 unfold aP;rw [if_pos h];unfold aI at h;have h:=of_decide_eq_true h
 cases cs with
 | nil=>cases h
 | cons c r=>cases h;rfl
theorem txt_is {cs:List Nat} {t:Nat} (h:aw (aP cs)=some t):(txt (bB cs t)).cps.toList=cs↔Can (aP cs)/\¬ (aI cs=true/\t=0):=by
 obtain ⟨⟨l1,l2⟩,ad,rfl⟩:=a8 h;unfold bB
 cases hb:aI cs with
 | false=>
  have e:aP cs=cs:=by unfold aP;rw [hb];rfl
  rw [e] at ad l1 ⊢;rw [if_neg (by decide),bL,dg_can l1 ad];exact ⟨λ h=>⟨h,λ z=>absurd z.1 (by decide)⟩,λ h=>h.1⟩
 | true=>
  rw [if_pos rfl];have e:=off_bel hb;by_cases h0:digitsVal (aP cs)=0
  ·rw [h0];constructor
   ·intro z;rw [e] at z
    have:(txt (-((0:Nat):Int))).cps.toList=[48]:=by decide
    rw [this] at z
    cases z
   ·exact λ z=>absurd ⟨rfl,rfl⟩ z.2
  ·obtain ⟨m,hm⟩:∃ m,digitsVal (aP cs)=m+1:=⟨digitsVal (aP cs)-1,by omega⟩;rw [<- dg_can l1 ad,hm,show (-((m+1:Nat):Int))=Int.negSucc m from rfl,txt_neg];constructor
   ·intro z;rw [e] at z;exact ⟨(List.cons.inj z).2,λ q=>by omega⟩
   ·intro z;rw [z.1];exact e.symm
theorem txt47 (i:Int):¬ 47∈(txt i).cps.toList:=by
 have d47:∀ m:Nat,¬ 47∈dg m:=λ m h=>by have:=dg_digits h;omega
 cases i with
 | ofNat m=>rw [show Int.ofNat m=((m:Nat):Int) from rfl,bL];exact d47 m
 | negSucc m=>
  rw [txt_neg];intro h;rcases cQ.mp h with z | z
  ·exact absurd z (by decide)
  ·exact d47 _ z
theorem whole47 {cs:List Nat} (h:47∈cs):aw cs=none:=by
 unfold aw;rw [if_neg λ z=>?_];rw [cP] at z
 have:=all_fig.mp z.2 47 h
 omega
theorem off47 {cs:List Nat} (h:47∈cs):47∈aP cs:=by
 cases hb:aI cs with
 | false=>unfold aP;rw [hb];exact h
 | true=>
  rw [off_bel hb] at h;rcases cQ.mp h with z | z
  ·exact absurd z (by decide)
  ·exact z
end G
namespace G
open PySem L2
noncomputable def Sm (i:Int):Prop:=i.natAbs<2 ^ 9000
noncomputable def SmR (x:Rat):Prop:=Sm x.num/\Sm (x.den:Int)
theorem Sm.le {a b:Int} (h:Sm b) (l:a.natAbs<=b.natAbs):Sm a:=Nat.lt_of_le_of_lt l h
theorem gcd_pos_r (a:Int) {b:Int} (h:b≠0):0<gcd a b:=by
 have:=Int.gcd_pos_of_ne_zero_right a h
 unfold gcd;omega
theorem gcd_le_r (a:Int) {b:Int} (h:b≠0):(gcd a b).natAbs<=b.natAbs:=by
 have:=Int.gcd_le_natAbs_right a h
 unfold gcd;omega
theorem Sm.gcd_r (a:Int) {b:Int} (h:b≠0) (s:Sm b):Sm (gcd a b):=s.le (gcd_le_r a h)
theorem tb:¬ (("top":Str) = "bottom"):=by decide +kernel
noncomputable def ff (t b:Int):List (Str × V):=[("top",.int t),("bottom",.int b)]
theorem ff_T (t b:Int):(ff t b).lookup ("top":Str)=some (.int t):=rfl
theorem ff_B (t b:Int):(ff t b).lookup ("bottom":Str)=some (.int b):=by
 have h:(("bottom":Str) == "top")=false:=by decide +kernel
 show List.lookup ("bottom":Str) [(("top":Str),V.int t),("bottom",V.int b)]=_;rw [List.lookup_cons,h];rfl
theorem ff_no (t b:Int) {m:Str} (h1:(m == "top")=false) (h2:(m == "bottom")=false):(ff t b).lookup m=none:=by
 show List.lookup m [(("top":Str),V.int t),("bottom",V.int b)]=_;rw [List.lookup_cons,h1,List.lookup_cons,h2];rfl
theorem ff_new (t b:Int):bC "bottom" (.int b) (bC "top" (.int t) [])=ff t b:=by
 show (if ("top":Str) = "bottom" then _ else (("top":Str),V.int t)::[(("bottom":Str),V.int b)])=ff t b;rw [if_neg tb];rfl
noncomputable def FrAt (C:Addr) (H:Hp) (p:Addr) (x:Rat):Prop:=∃ dx,H p=some (.ins C dx (ff x.num x.den))
structure FrC (K:W.Frag) (C:Addr):Prop where
 cl:Cls K C
 nT:NoAttr K C "top"
 nB:NoAttr K C "bottom"
 c1:PySem.W.findIn K (.ref C) "__class__"=some (some (.builtin "object.__class__"))
 c2:PySem.W.specialIn K (.builtin "object.__class__") "__get__"=some (some (.builtin "getset_descriptor.__get__"))
 c3:PySem.W.takesIn K (.builtin "object.__class__")=some true
 c4:PySem.W.mroIn K C (.type "object")=some true
theorem FrAt.ty {K:W.Frag} {C:Addr} {H:Hp} {p:Addr} {x:Rat} (F:FrC K C) (h:FrAt C H p x):TyOf K H (.ref p) (.ref C):=by
 obtain ⟨_,e⟩:=h
 exact TyOf.ins e F.cl F.c1 F.c2 F.c3 F.c4
noncomputable def tTop (C:Addr) (ta:TE):TE:=λ σ H Q=>ta σ H λ v H1=>∃ p x,v=.ref p/\FrAt C H1 p x/\Q (.int x.num) H1
noncomputable def tBot (C:Addr) (ta:TE):TE:=λ σ H Q=>ta σ H λ v H1=>∃ p x,v=.ref p/\FrAt C H1 p x/\Q (.int x.den) H1
section
variable {X:Cx} {C:Addr} {e o:Expr} {ta:TE} {pos:Pos}
theorem pe_top (F:FrC X.K C) (he:PE X e ta) (hb:attributeBase e "top" X.env (eval e X.env)=eval e X.env:=by rfl):PE X (.Attribute e "top" pos) (tTop C ta):=by
 intro pins s σ H Q I h;refine attr_of hb (thn (he pins s σ H _ I h) λ u s1 ⟨v,H1,I1,r,p,x,e,⟨dx,hp⟩,q⟩=>?_);subst e;obtain rfl:u=Value.ref p:=r;exact getattr_ok I1 hp F.cl F.nT (ff_T _ _) λ u' s' I' r'=>⟨_,H1,I',r',q⟩
theorem pe_bot (F:FrC X.K C) (he:PE X e ta) (hb:attributeBase e "bottom" X.env (eval e X.env)=eval e X.env:=by rfl):PE X (.Attribute e "bottom" pos) (tBot C ta):=by
 intro pins s σ H Q I h;refine attr_of hb (thn (he pins s σ H _ I h) λ u s1 ⟨v,H1,I1,r,p,x,e,⟨dx,hp⟩,q⟩=>?_);subst e;obtain rfl:u=Value.ref p:=r;exact getattr_ok I1 hp F.cl F.nB (ff_B _ _) λ u' s' I' r'=>⟨_,H1,I',r',q⟩
noncomputable def tFrM (C:Addr) (sp:Sp) (E:XK) (ta:TE) (t:TA):TE:=λ σ H Q=>ta σ H λ v H1=>∃ p x,v=.ref p/\FrAt C H1 p x/\t σ H1 λ vs H2=>sp (v::vs) H2 Q E
variable {CX:CXT} {k j:Nat} {ps:List Str} {sp:Sp} {E:XK} {m:Str} {p apos:Pos} {es:List Expr} {t:TA}
theorem pe_frm0 {pl:Sem Bool} (F:FrC X.K C) (he:PE X o ta) (M:MtB X.prog X.w X.K X.mg X.base CX C m k ps sp) (hr:Room j X.A) (hx:bI CX X E) (hj:k<=j:=by decide) (h1:(m == "top")=false:=by decide +kernel) (h2:(m == "bottom")=false:=by decide +kernel)
  (ht:eval (.Call (.Attribute o m apos) [] [] pos) X.env=(do
   let ov <- eval o X.env
   standAt apos.atName
   let (f,first) <- holding [ov] (getMethod ov m pl)
   callWith pos f first (backTo pos (starEach [] X.env)) (backToKw pos (keywordEach [] X.env))):=by rfl):PE X (.Call (.Attribute o m apos) [] [] pos) (tFrM C sp E ta tNil):=by
 obtain ⟨f,fd,hm,b,d⟩:=M;intro pins s σ H Q I h;refine PySem.W.methodCall_KW (pl:=pl) (thn (he pins s σ H _ I h) λ u s1 ⟨v,H1,I1,rx,a,x,ex,⟨dx,ea⟩,q⟩=>?_) ht;subst ex;obtain rfl:u=Value.ref a:=rx;refine getmeth_ok I1 ea F.cl hm (ff_no _ _ h1 h2) ?_;exact PySem.W.callWith_K0 (first:=[.ref a]) I1.kIn hm.kp (run_fn (us:=[.ref a]) (vs:=[.ref a]) (dvs:=[]) d (hr.mono hj) b .nil hx I1 (.cons rfl .nil) q)
noncomputable def spDiv:Sp:=λ vs H Q _=>∃ a b:Int,vs=[.int a,.int b]/\Q (.int (gcd a b)) H
noncomputable def spInit (C:Addr):Sp:=λ vs H Q _=>∃ (p dx:Addr) (a b:Int),vs=[.ref p,.int a,.int b]/\H p=some (.ins C dx [])/\b≠0/\Sm b/\∀ H',H'=upd H p (.ins C dx (ff (Rat.divInt a b).num (Rat.divInt a b).den))->Q .non H'
noncomputable def NewFr (C:Addr) (H:Hp) (Q:VK) (x:Rat):Prop:=∀ (r:Addr) (H':Hp),H r=none->Same H H'->FrAt C H' r x->Q (.ref r) H'
theorem mk_fr {H:Hp} {a b:Int} {Q:VK} {E:XK} {x dx:Addr} (nx:H x=none) (nd:H dx=none) (hb:b≠0) (hs:Sm b) (k:∀ H':Hp,Same H H'->FrAt C H' x (Rat.divInt a b)->Q .non H') :
  spInit C [.ref x,.int a,.int b] (upd (upd H dx (.own x)) x (.ins C dx [])) Q E:=by
 refine ⟨x,dx,a,b,rfl,ai,hb,hs,λ H' e=>?_⟩;subst e;refine k _ (λ c o e=>?_) ⟨dx,ai⟩;rw [ar (aD e nx),ar (aD e nx),ar (aD e nd)];exact e
noncomputable def tMkFr (C:Addr) (dvs:List V) (t:TA):TE:=λ σ H Q=>t σ H λ vs H1=>∃ a b:Int,vs++dvs=[.int a,.int b]/\b≠0/\Sm b/\NewFr C H1 Q (Rat.divInt a b)
theorem pe_mkfr {dvs:List V} {x:Str} (F:MkB X.prog X.w X.K X.mg X.base CX C k ["self","top","bottom"] dvs (spInit C)) (hr:Room j X.A) (hm:X.mg x=some (.ref C)) (hx:bI CX X E) (ha:PA X (e::es) t) (hj:k+1<=j:=by decide) (hg:Gl X x:=by rfl) (hdb:(x == ("__debug__":Str))=false:=by decide)
  (he:starEach (e::es) X.env=(false,eval e X.env)::starEach es X.env:=by rfl) (hpl:(backTo pos (starEach es X.env)).any (·.1)=false:=by rfl):PE X (.Call (.Name x p) (e::es) [] pos) (tMkFr C dvs t):=by
 obtain ⟨f,fd,ds,M,b,c,d⟩:=F;intro pins s σ H Q I h;refine wpAny_Call_Name_kw (bN I hg hm ?_ hdb);refine PySem.W.callWith_K (h₀:=X.base) I.ok.mod.kin M.kp (thn (ha pos pins s σ H _ I h) λ us s1 ⟨vs,H1,I1,r,a',b',ev,hb,hs,q⟩=>⟨I1.kIn,?_⟩) he hpl;refine run_make M d (hr.mono hj) b c hx I1 r λ y dx n1 n2 _=>?_;rw [ev];exact mk_fr n1 n2 hb hs λ H' s' f'=>⟨rfl,q y H' n1 s' f'⟩
end
end G
namespace G
open PySem L2
noncomputable def bc (i:Nat):Stmt:=PySem.Challenge.pw_gainstream_k70_a_fraction_read.main.body.getD i (.Pass ⟨0,0,0,0⟩)
noncomputable abbrev s_divisor:Stmt:=bc 11
noncomputable abbrev cc:Stmt:=bc 16
noncomputable abbrev b6:Stmt:=bc 17
noncomputable abbrev bz:Stmt:=bc 18
noncomputable abbrev bQ:Stmt:=bc 20
noncomputable abbrev s_law_whole:Stmt:=bc 21
noncomputable abbrev s_law_pair:Stmt:=bc 22
noncomputable abbrev bP:Stmt:=bc 23
noncomputable abbrev b8:Stmt:=bc 24
noncomputable abbrev s_law_text:Stmt:=bc 25
noncomputable abbrev s_law_power:Stmt:=bc 26
noncomputable abbrev s_law_sign:Stmt:=bc 27
noncomputable abbrev cb:Stmt:=bc 28
noncomputable abbrev bO:Stmt:=bc 29
noncomputable abbrev b7:Stmt:=bc 30
noncomputable abbrev s_law_due:Stmt:=bc 31
noncomputable abbrev s_law_told:Stmt:=bc 32
noncomputable abbrev s_law:Stmt:=bc 33
noncomputable abbrev bA:Stmt:=inClass (bc 12) 0
noncomputable abbrev s_Fraction_sign:Stmt:=inClass (bc 12) 7
noncomputable abbrev bg:Stmt:=inClass (bc 12) 8
structure Ad where
 Fraction:Addr
 GainError:Addr
 NoNumber:Addr
 TooMany:Addr
 NoRing:Addr
 NoStrand:Addr
 NoExchange:Addr
 NoText:Addr
 NoRow:Addr
structure TX (K:W.Frag) (mg:Str->Option Value) (a:Ad):Prop where
 d_divisor:FDe K mg "divisor" s_divisor ["one","other"]
 d_is_made_of:FDe K mg "is_made_of" cc ["text","signs","most"]
 d_read_whole:FDe K mg "read_whole" b6 ["text"]
 d_read_fraction:FDe K mg "read_fraction" bz ["text"]
 d_law_cell_at:FDe K mg "_law_cell_at" bQ ["_law_script","_law_k"]
 d_law_whole:FDe K mg "_law_whole" s_law_whole ["_law_found"]
 d_law_pair:FDe K mg "_law_pair" s_law_pair ["_law_found"]
 d_law_divisor:FDe K mg "_law_divisor" bP ["_law_one","_law_other"]
 d_law_lowest:FDe K mg "_law_lowest" b8 ["_law_top","_law_bottom"]
 d_law_text:FDe K mg "_law_text" s_law_text ["_law_pair_here"]
 d_law_power:FDe K mg "_law_power" s_law_power ["_law_count"]
 d_law_sign:FDe K mg "_law_sign" s_law_sign ["_law_cell"]
 d_law_figure:FDe K mg "_law_figure" cb ["_law_cell"]
 d_law_written:FDe K mg "_law_written" bO ["_law_script"]
 d_law_number:FDe K mg "_law_number" b7 ["_law_text_here"]
 d_law_due:FDe K mg "_law_due" s_law_due ["_law_text_here"]
 d_law_told:FDe K mg "_law_told" s_law_told ["_law_text_here"]
 d_law:FDe K mg "law" s_law ["_law_script"]
 cl_Fraction:Cls K a.Fraction
 mg_Fraction:mg "Fraction"=some (.ref a.Fraction)
 na_Fraction_top:NoAttr K a.Fraction "top"
 na_Fraction_bottom:NoAttr K a.Fraction "bottom"
 i_Fraction:IDe K a.Fraction "Fraction.__init__" bA ["self","top","bottom"] [[],[V.int 1]]
 m_Fraction_shown:MDe K a.Fraction "shown" "Fraction.shown" bg ["self"]
 c1_Fraction:PySem.W.findIn K (.ref a.Fraction) "__class__"=some (some (.builtin "object.__class__"))
 c4_Fraction:PySem.W.mroIn K a.Fraction (.type "object")=some true
 c2:PySem.W.specialIn K (.builtin "object.__class__") "__get__"=some (some (.builtin "getset_descriptor.__get__"))
 c3:PySem.W.takesIn K (.builtin "object.__class__")=some true
 mg_GainError:mg "GainError"=some (.ref a.GainError)
 mg_NoNumber:mg "NoNumber"=some (.ref a.NoNumber)
 mg_TooMany:mg "TooMany"=some (.ref a.TooMany)
 mg_NoRing:mg "NoRing"=some (.ref a.NoRing)
 mg_NoStrand:mg "NoStrand"=some (.ref a.NoStrand)
 mg_NoExchange:mg "NoExchange"=some (.ref a.NoExchange)
 mg_NoText:mg "NoText"=some (.ref a.NoText)
 ex_NoText:PySem.W.excIn K a.NoText bmV "ValueError.__new__"=true
 mg_NoRow:mg "NoRow"=some (.ref a.NoRow)
 ca1_GainError:PySem.W.instIn K (.ref a.GainError) (.type "tuple")=some false
 ca2_GainError:∃ cd,PySem.W.clsIn K a.GainError=some cd
 ca3_GainError:PySem.W.subIn K (.ref a.GainError) (.type "BaseException")=some true
 su_NoText_GainError:PySem.W.subIn K (.ref a.NoText) (.ref a.GainError)=some true
 k_Fraction_Fraction:PySem.W.kitOne K (.ref a.Fraction) (.ref a.Fraction)=some true
 k_int_bool:PySem.W.kitOne K (.type "int") (.type "bool")=some false
 k_int_int:PySem.W.kitOne K (.type "int") (.type "int")=some true
 xga_NoText:PySem.W.findIn K (.ref a.NoText) "__getattribute__"=some (some (.builtin "BaseException.__getattribute__"))
 xgh_NoText:PySem.W.findIn K (.ref a.NoText) "__getattr__"=some none
 xbe_NoText:PySem.W.mroIn K a.NoText (.type "BaseException")=some true
 xca_NoText:PySem.W.findIn K (.ref a.NoText) "__class__"=some (some (.builtin "object.__class__"))
 xob_NoText:PySem.W.mroIn K a.NoText (.type "object")=some true
 xcl_NoText:∃ cd,PySem.W.clsIn K a.NoText=some cd
 k_NoText_NoExchange:PySem.W.kitOne K (.ref a.NoText) (.ref a.NoExchange)=some false
 k_NoText_NoNumber:PySem.W.kitOne K (.ref a.NoText) (.ref a.NoNumber)=some false
 k_NoText_NoRing:PySem.W.kitOne K (.ref a.NoText) (.ref a.NoRing)=some false
 k_NoText_NoRow:PySem.W.kitOne K (.ref a.NoText) (.ref a.NoRow)=some false
 k_NoText_NoStrand:PySem.W.kitOne K (.ref a.NoText) (.ref a.NoStrand)=some false
 k_NoText_NoText:PySem.W.kitOne K (.ref a.NoText) (.ref a.NoText)=some true
 k_NoText_TooMany:PySem.W.kitOne K (.ref a.NoText) (.ref a.TooMany)=some false
 k_NoText_ValueError:PySem.W.kitOne K (.ref a.NoText) (.type "ValueError")=some true
 gi_MOST_FIGURES:∃ tk,mg "MOST_FIGURES"=some (.int 9 tk)
 gs_FIGURES:∃ tk,mg "FIGURES"=some (.str "0123456789" tk)
 z_ValueError:mg "ValueError"=none
 z_abs:mg "abs"=none
 z_all:mg "all"=none
 z_bool:mg "bool"=none
 z_int:mg "int"=none
 z_isinstance:mg "isinstance"=none
 z_len:mg "len"=none
 z_range:mg "range"=none
 z_str:mg "str"=none
open PySem L2 in
local macro_rules | `(tactic| walk_at "sc") => `(tactic| exact ⟨rfl, rfl, rfl, by decide +kernel, rfl, by decide +kernel, by decide +kernel⟩)
section
variable {P:Program} {w:World} {K:W.Frag} {mg:Str->Option Value} {base:Heap} {a:Ad}
theorem TX.exa_NoText (T:TX K mg a):ExA K a.NoText:=⟨T.xga_NoText,T.xgh_NoText,T.xbe_NoText,T.xca_NoText,T.c2,T.c3,T.xob_NoText,T.xcl_NoText⟩
theorem sc_divisor:FnScope ["one","other","rest"] ["one","other"] (af s_divisor):=by walk_at "sc"
theorem sc_is_made_of:FnScope ["text","signs","most"] ["text","signs","most"] (af cc):=by walk_at "sc"
theorem sc_read_whole:FnScope ["text"] ["text"] (af b6):=by walk_at "sc"
theorem sc_read_fraction:FnScope ["text","parts","below","top","bottom","number"] ["text"] (af bz):=by walk_at "sc"
theorem sc_law_cell_at:FnScope ["_law_script","_law_k"] ["_law_script","_law_k"] (af bQ):=by walk_at "sc"
theorem sc_law_whole:FnScope ["_law_found"] ["_law_found"] (af s_law_whole):=by walk_at "sc"
theorem sc_law_pair:FnScope ["_law_found"] ["_law_found"] (af s_law_pair):=by walk_at "sc"
theorem sc_law_divisor:FnScope ["_law_one","_law_other"] ["_law_one","_law_other"] (af bP):=by walk_at "sc"
theorem sc_law_lowest:FnScope ["_law_top","_law_bottom","_law_by"] ["_law_top","_law_bottom"] (af b8):=by walk_at "sc"
theorem sc_law_text:FnScope ["_law_pair_here"] ["_law_pair_here"] (af s_law_text):=by walk_at "sc"
theorem sc_law_power:FnScope ["_law_count","_law_made","_law_k"] ["_law_count"] (af s_law_power):=by walk_at "sc"
theorem sc_law_sign:FnScope ["_law_cell","_law_some"] ["_law_cell"] (af s_law_sign):=by walk_at "sc"
theorem sc_law_figure:FnScope ["_law_cell"] ["_law_cell"] (af cb):=by walk_at "sc"
theorem sc_law_written:FnScope ["_law_script","_law_tops","_law_top","_law_bottom","_law_text_here","_law_way","_law_at","_law_by"] ["_law_script"] (af bO):=by walk_at "sc"
theorem sc_law_number:FnScope ["_law_text_here","_law_number_here","_law_sign_here"] ["_law_text_here"] (af b7):=by walk_at "sc"
theorem sc_law_due:FnScope ["_law_text_here","_law_parts","_law_side","_law_numbers"] ["_law_text_here"] (af s_law_due):=by walk_at "sc"
theorem sc_law_told:FnScope ["_law_text_here","_law_caught","_law_found","e","_law_refused","_law_other","_law_pair_here"] ["_law_text_here"] (af s_law_told):=by walk_at "sc"
theorem sc_law:FnScope ["_law_script","_law_text_here","_law_due_here"] ["_law_script"] (af s_law):=by walk_at "sc"
theorem sc_Fraction_init:FnScope ["self","top","bottom","common"] ["self","top","bottom"] (af bA):=by walk_at "sc"
theorem b4:FnScope ["self"] ["self"] (af bg):=by walk_at "sc"
end
end G
open PySem L2 in
local macro_rules | `(tactic| walk_at "kit") => `(tactic| first | exact G.TX.k_Fraction_Fraction (by assumption) | exact G.TX.k_int_bool (by assumption) | exact G.TX.k_int_int (by assumption) | exact G.TX.k_NoText_NoExchange (by assumption) | exact G.TX.k_NoText_NoNumber (by assumption) | exact G.TX.k_NoText_NoRing (by assumption) | exact G.TX.k_NoText_NoRow (by assumption) | exact G.TX.k_NoText_NoStrand (by assumption) | exact G.TX.k_NoText_NoText (by assumption) | exact G.TX.k_NoText_TooMany (by assumption) | exact G.TX.k_NoText_ValueError (by assumption))
open PySem L2 in
local macro_rules | `(tactic| walk_at "sm") => `(tactic| first | assumption | (refine And.left (?_ : G.SmR _); assumption) | (refine And.right (?_ : G.SmR _); assumption))
open PySem L2 in
local macro_rules | `(tactic| walk_at "fa") => `(tactic| first | rfl | assumption | exact True.intro | exact (fun _ h => h) | ((with_reducible show L2.TyOf _ _ _ _); first | exact TyOf.int _ | exact TyOf.str _ | exact TyOf.bl _ | exact TyOf.non | exact G.FrAt.ty (G.TX.fr (by assumption)) (by walk_at "fa")) | ((with_reducible show PySem.W.kitOne _ _ _ = _); walk_at "kit") | ((with_reducible show G.FrAt _ _ _ _); apply G.FrAt.up; assumption; walk_at "fa") | ((with_reducible show L2.SqL _ _ _ _); apply Same.seq; assumption; walk_at "fa") | (show (0 : Int) < _; decide) | (refine (And.intro ?_ ?_ : CDiv _ _) <;> decide) | (refine (And.intro ?_ (And.intro ?_ ?_) : CPow _ _) <;> decide) | exact (PySem.IntMulOk.of_right (by decide)) | exact (PySem.IntMulOk.of_left (by decide)) | (refine (And.intro ?_ ?_ : CMulB _ _) <;> walk_at "sm"))
open PySem L2 in
local macro_rules | `(tactic| walk_at "rd") => `(tactic| repeat (first | refine L2.ItVar.mk _ (by walk_at "fa") ?_ | refine L2.ItB.mk _ (by walk_at "fa") ?_ | refine L2.ItTest.mk _ (by walk_at "fa") ?_ | refine L2.IrU.mk _ (by walk_at "fa") ?_ | refine L2.IrI0.mk _ _ (by walk_at "fa") (by walk_at "fa") ?_ | refine L2.IrIxL.mk _ _ _ _ (by walk_at "fa") (by walk_at "fa") (by walk_at "fa") (by walk_at "fa") ?_ | refine L2.IrIxT.mk _ _ _ _ (by walk_at "fa") (by walk_at "fa") (by walk_at "fa") (by walk_at "fa") ?_ | refine L2.ItFld.mk _ _ _ _ _ (by walk_at "fa") (by walk_at "fa") (by walk_at "fa") (by walk_at "fa") (by walk_at "fa") ?_ | apply @Exists.intro V | apply @Exists.intro Int | apply @Exists.intro Addr | apply @Exists.intro Rat | apply @Exists.intro Bool | apply @Exists.intro Value | apply @Exists.intro (List V) | apply @Exists.intro (List (Str × V)) | apply @Exists.intro Str | apply @Exists.intro (List Int) | refine And.intro (by walk_at "fa") ?_ | refine L2.iteT ?_ | refine L2.iteF ?_))
namespace G
open PySem L2
section
variable {P:Program} {w:World} {K:W.Frag} {mg:Str->Option Value} {base:Heap} {a:Ad}
theorem TX.fr (T:TX K mg a):FrC K a.Fraction:=⟨T.cl_Fraction,T.na_Fraction_top,T.na_Fraction_bottom,T.c1_Fraction,T.c2,T.c3,T.c4_Fraction⟩
theorem gcd_turn {a b n m:Int} (h:gcd n m=gcd a b) (hm:0<=m) (p:m≠0):0<=n % m/\n % m<m/\gcd m (n % m)=gcd a b:=
 ⟨Int.emod_nonneg n p,Int.emod_lt_of_pos n (by omega),by rw [gcd_step n m (by omega),h]⟩
theorem ok_divisor (T:TX K mg a):FnB P w K mg base CX0 "divisor" 1 ["one","other"] spDiv:=by
 refine T.d_divisor.ok sc_divisor (λ vs H Q E h=>?_) (λ f cdv A outer s H vs Q E hr h=>?_)
 ·obtain ⟨a,b,rfl,_⟩:=h;rfl
 ·obtain ⟨a,b,rfl,k⟩:=h
  refine ⟨_,(ag (ak (i:=0) sc_divisor.nd rfl (Or.inl rfl) (ao call_abs (by rfl) T.z_abs PyProof.Rows.boot_abs (aa (pv 0) ae)))
   (ag (ak (i:=1) sc_divisor.nd rfl (Or.inl rfl) (ao call_abs (by rfl) T.z_abs PyProof.Rows.boot_abs (aa (pv 1) ae)))
   (ag (ps_while PassesOwn.never (al op_ne (pv 1) ac (aq _)) (ag (ak (i:=2) sc_divisor.nd rfl (Or.inl rfl) (aj aH (pv 0) (pv 1)))
   (ag (ak (i:=0) sc_divisor.nd rfl (Or.inl rfl) (pv 1))
   (ah (ak (i:=1) sc_divisor.nd rfl (Or.inl rfl) (pv 2))))))
   (ah (am (pv 0)))))),?_⟩
  try dsimp only [aM,Cx.nox,Cx.wish]
  refine ⟨_,rfl,_,rfl,_,rfl,_,rfl,?_⟩;refine while_by (λ σ H'=>∃ (n m:Int) (r:Option V),σ=[some (.int n),some (.int m),r]/\H'=H/\0<=n/\0<=m/\gcd n m=gcd a b) (λ σ _=>match σ with | [_,some (.int m),_]=>m.toNat | _=>0) ?_ ?_ ?_
  ·refine ⟨_,_,_,rfl,rfl,?_,?_,gcd_abs a b⟩ <;> split <;> omega
  ·rintro σ H' ⟨n,m,r,rfl,rfl,hn,hm,hg⟩;refine ⟨_,rfl,rfl,_,rfl,?_⟩;by_cases z:m=0
   ·subst z;refine iteNS rfl ?_;refine ⟨_,rfl,?_⟩;rw [gcd_zero n hn] at hg;rw [hg];exact k
   ·refine bx (by rw [neV z];rfl) ?_;obtain ⟨g1,g2,g3⟩:=gcd_turn hg hm z;refine ⟨_,rfl,_,rfl,_,_,rfl,rfl,(by show (0:Int)<m;omega),_,rfl,_,rfl,⟨_,_,_,rfl,rfl,hm,g1,g3⟩,?_⟩;show (n % m).toNat<m.toNat;omega
  ·rintro σ H' Q1 Q2 hq ⟨v,e,s1,c,ec,q⟩;exact ⟨v,e,s1,c,ec,hq _ _ q⟩
theorem ok_init (T:TX K mg a):∀ dvs∈[[],[V.int 1]],MkB P w K mg base CX0 a.Fraction 2 ["self","top","bottom"] dvs (spInit a.Fraction):=by
 refine T.i_Fraction.ok sc_Fraction_init (λ vs H Q E h=>?_) (λ f cdv A outer s H vs Q E hr h=>?_)
 ·obtain ⟨p,dx,n,b,rfl,_⟩:=h;rfl
 ·obtain ⟨p,dx,n,b,rfl,hp,hb,sb,k⟩:=h
  refine ⟨_,(ag (aN (al a7 (pv 2) ac (aq _)) (ah ps_never) au)
   (ag (ak (i:=3) sc_Fraction_init.nd rfl (Or.inl rfl) (aF (ok_divisor T) hr aG (aa (pv 1) (aa (pv 2) ae))))
   (ag (aN (al op_lt (pv 2) ac (aq _)) (ah (ak (i:=3) sc_Fraction_init.nd rfl (Or.inl rfl) (pe_un un_neg (pv 3)))) au)
   (ag (ps_fld (pv 0) (aj cf (pv 1) (pv 3)) rfl)
   (ah (ps_fld (pv 0) (aj cf (pv 2) (pv 3)) rfl)))))),?_⟩
  try dsimp only [aM,Cx.nox,Cx.wish]
  refine ⟨_,rfl,rfl,_,rfl,?_⟩;refine bX (neV hb) ?_;refine ⟨_,rfl,_,rfl,n,b,rfl,?_⟩;refine ⟨_,rfl,_,_,rfl,rfl,_,rfl,?_⟩;obtain ⟨i1,i2⟩:=init_spec n b hb;have gp:=gcd_pos_r n hb;have gs:=Sm.gcd_r n hb sb
  have fin:∀ c:Int,c≠0->Sm c->n.fdiv c=(Rat.divInt n b).num->b.fdiv c=((Rat.divInt n b).den:Int)->
    tSeq (sFld K (tVar 0) (tOp (rI CDivB λ i j=>.int (i.fdiv j)) (tVar 1) (tVar 3)) "top") (sFld K (tVar 0) (tOp (rI CDivB λ i j=>.int (i.fdiv j)) (tVar 2) (tVar 3)) "bottom") { nx:=λ _ H'=>Q .non H',rt:=Q } [some (.ref p),some (.int n),some (.int b),some (.int c)] H:=by
   intro c hc hs e1 e2;refine ⟨_,rfl,_,rfl,_,_,rfl,rfl,⟨hc,hs⟩,_,rfl,p,a.Fraction,dx,_,rfl,hp,T.cl_Fraction,T.na_Fraction_top,(by show 0<1000;decide),?_⟩;refine ⟨_,rfl,_,rfl,_,_,rfl,rfl,⟨hc,hs⟩,_,rfl,p,a.Fraction,dx,_,rfl,ai,T.cl_Fraction,T.na_Fraction_bottom,(by show 1<1000;decide),?_⟩;refine k _ ?_;rw [upd_upd];dsimp only;rw [e1,e2,ff_new]
  refine ifB (λ hn=>?_) (λ hn=>?_)
  ·rw [if_pos hn] at i1 i2;refine ⟨_,rfl,_,rfl,?_⟩;exact fin _ (by omega) (gs.le (by omega)) i1 i2
  ·rw [if_neg hn] at i1 i2;exact fin _ (by omega) gs i1 i2
theorem mk2 (T:TX K mg a):MkB P w K mg base CX0 a.Fraction 2 ["self","top","bottom"] [] (spInit a.Fraction):=ok_init T _ (by simp)
noncomputable def aL (x:Rat):Str:=if (x.den:Int)=1 then toString x.num else toString x.num ++ "/" ++ toString (x.den:Int)
noncomputable def Tx (i:Int):Prop:=i.natAbs<2 ^ 1900
theorem Tx.log {i:Int} (h:Tx i):i.natAbs.log2<1920:=by
 rcases Nat.eq_zero_or_pos i.natAbs with z | z
 ·rw [z];decide
 ·exact cF ((Nat.log2_lt (by omega)).mpr h) (by decide)
theorem txLen {i:Int} (h:Tx i):(Str.ofString (toString i)).length<=1921:=PyProof.Rows.int_text_len_1921 h.log
theorem ok_shown (T:TX K mg a):MtB P w K mg base CX0 a.Fraction "shown" 1 ["self"] (λ vs H Q _=>∃ (p:Addr) (x:Rat),vs=[.ref p]/\FrAt a.Fraction H p x/\Tx x.num/\Tx x.den/\Q (.str (aL x)) H):=by
 refine T.m_Fraction_shown.ok b4 (λ vs H Q E h=>?_) (λ f cdv A outer s H vs Q E hr h=>?_)
 ·obtain ⟨p,x,rfl,_⟩:=h;rfl
 ·obtain ⟨p,x,rfl,hp,t1,t2,k⟩:=h
  refine ⟨_,(ag (aN (al a7 (pe_bot T.fr (pv 0)) ac (aq _)) (ah (am (aJ ay (by rfl) T.z_str cS (aa (pe_top T.fr (pv 0)) ae)))) au)
   (ah (am (aj az (aj az (aJ ay (by rfl) T.z_str cS (aa (pe_top T.fr (pv 0)) ae)) aE) (aJ ay (by rfl) T.z_str cS (aa (pe_bot T.fr (pv 0)) ae)))))),?_⟩
  try dsimp only [aM,Cx.nox,Cx.wish]
  walk_at "rd"
  refine ifV (λ h1=>?_) (λ h1=>?_)
  ·walk_at "rd"
   refine ⟨t1.log,?_⟩;rw [show aL x=_ from if_pos h1] at k;exact k
  ·walk_at "rd"
   refine ⟨t1.log,?_⟩;walk_at "rd"
   have l1:=txLen t1;have l2:=txLen t2;refine ⟨by rw [show ("/":Str).length=1 from rfl,cL];omega,?_⟩;walk_at "rd"
   refine ⟨t2.log,?_⟩;walk_at "rd"
   refine ⟨by rw [cO,show ("/":Str).length=1 from rfl,cL];omega,?_⟩;rw [show aL x=_ from if_neg h1] at k;exact k
noncomputable def aW (ns:List Int) (k:Nat):Int:=ns.getD k 0
noncomputable def spCell (K:W.Frag):Sp:=λ vs H Q _=>∃ (l:Addr) (ns:List Int) (k:Nat),vs=[.ref l,.int (k:Int)]/\SqL K H l (ns.map V.int)/\Q (.int (aW ns k)) H
theorem aA (T:TX K mg a):FnB P w K mg base CX0 "_law_cell_at" 1 ["_law_script","_law_k"] (spCell K):=by
 refine T.d_law_cell_at.ok sc_law_cell_at (λ vs H Q E h=>?_) (λ f cdv A outer s H vs Q E hr h=>?_)
 ·obtain ⟨l,ns,i,rfl,_⟩:=h;rfl
 ·obtain ⟨l,ns,i,rfl,hS,k⟩:=h
  refine ⟨_,(ag (aN (al op_lt (pv 1) (ao call_lenK (by rfl) T.z_len PySem.boot_len (aa (pv 0) ae)) (aq _)) (ah (am (aO aR (pv 0) (pv 1) (λ _ _=>rfl)))) au)
   (ah (am ac))),?_⟩
  try dsimp only [aM,Cx.nox,Cx.wish]
  refine ⟨_,rfl,_,rfl,_,_,rfl,.inl hS,_,_,rfl,rfl,_,rfl,?_⟩;rw [cA];refine ite2 (λ hlt=>?_) (λ hge=>?_)
  ·have hlt':(i:Int)<(ns.length:Int):=of_decide_eq_true hlt;have hl:i<ns.length:=by omega
   refine ⟨_,rfl,_,rfl,_,_,_,_,rfl,rfl,hS,cm (v:=.int (ns[i])) ?_,?_⟩
   ·rw [List.getElem?_map,cr hl];rfl
   ·have e:aW ns i=ns[i]:=by unfold aW;rw [c6,cr hl];rfl
    rw [e] at k;exact k
  ·have hge':¬ (i:Int)<(ns.length:Int):=λ z=>hge (cB z);have e:aW ns i=0:=by unfold aW;rw [c6,List.getElem?_eq_none (by omega)];rfl
   rw [e] at k;exact k
noncomputable def spWhole:Sp:=λ vs H Q _=>∃ i:Int,vs=[.int i]/\Q (.bl true) H
theorem ci (T:TX K mg a):FnB P w K mg base CX0 "_law_whole" 1 ["_law_found"] spWhole:=by
 refine T.d_law_whole.ok sc_law_whole (λ vs H Q E h=>?_) (λ f cdv A outer s H vs Q E hr h=>?_)
 ·obtain ⟨i,rfl,_⟩:=h;rfl
 ·obtain ⟨i,rfl,k⟩:=h;refine ⟨_,(ah (am (pe_and (ao (call_isI (c:=.type "int")) (by rfl) T.z_isinstance cG (aa (pv 0) (aa (pe_bltn (v:=.ty "int") (by rfl) T.z_int PyProof.Rows.boot_int rfl) ae))) (bU (pe_not (ao (call_isI (c:=.type "bool")) (by rfl) T.z_isinstance cG (aa (pv 0) (aa (pe_bltn (v:=.ty "bool") (by rfl) T.z_bool PyProof.Rows.boot_bool rfl) ae)))))))),?_⟩;try dsimp only [aM,Cx.nox,Cx.wish]
  refine ⟨_,rfl,_,_,_,_,rfl,(λ u h=>h),TyOf.int i,T.k_int_int,_,rfl,?_⟩;refine iteT ?_;refine ⟨_,rfl,_,_,_,_,rfl,(λ u h=>h),TyOf.int i,T.k_int_bool,_,rfl,?_⟩;exact k
theorem Sm.of_le {a:Int} {n:Nat} (h:a.natAbs<=2 ^ n) (hn:n<9000):Sm a:=Nat.lt_of_le_of_lt h (Nat.pow_lt_pow_right (by decide) hn)
theorem aS (x:Int) {m:Int} (h:0<m):0<=x % m/\x % m<m:=⟨Int.emod_nonneg x (by omega),Int.emod_lt_of_pos x h⟩
noncomputable def RowAt {α:Type} (R:Hp->V->α->Prop) (H:Hp) (ts:List V) (xs:List α):Prop:=ts.length=xs.length/\∀ (i:Nat) (t:V) (x:α),ts[i]?=some t->xs[i]?=some x->R H t x
theorem ax {H:Hp} {d:Addr} {o:HO} (h:H d=none):Same H (upd H d o):=λ b u e=>by rw [ar (aD e h)];exact e
theorem uG {H:Hp} {e:Addr} {o:HO} (n:H e=none):∃ H',upd H e o=H'/\Same H H'/\H' e=some o:=⟨_,rfl,ax n,ai⟩
theorem b5 {H H':Hp} {d:Addr} {o:HO} (h:H d=none) (s:Same H H'):Same H (upd H' d o):=λ b u e=>by rw [ar (aD e h)];exact s _ _ e
theorem cut_both {xs:List V} (i j:Nat):cutV xs (some (i:Int)) (some (j:Int))=(xs.drop (min i xs.length)).take (min j xs.length-min i xs.length):=by
 unfold cutV;rw [HT.sIx_nat,HT.sIx_nat]
inductive IspPair (C:Addr) (vs:List V) (H:Hp) (Q:VK):Prop
 | mk (p:Addr) (x:Rat) (h1:vs=[.ref p]) (h2:FrAt C H p x) (h3:∀ t,H t=none->Q (.ref t) (upd H t (.tup [.int x.num,.int x.den]))):IspPair C vs H Q
noncomputable def spPair (C:Addr):Sp:=λ vs H Q _=>IspPair C vs H Q
theorem ok_law_pair (T:TX K mg a):FnB P w K mg base CX0 "_law_pair" 2 ["_law_found"] (spPair a.Fraction):=by
 refine T.d_law_pair.ok sc_law_pair (λ vs H Q E h=>?_) (λ f cdv A outer s H vs Q E hr h=>?_)
 ·obtain ⟨p,x,rfl,_⟩:=h;rfl
 ·obtain ⟨p,x,rfl,hp,k⟩:=h
  refine ⟨_,(ag (aN (PW.pt (pw_or (pt_not (pt_val (ao (call_isI (c:=.ref a.Fraction)) (by rfl) T.z_isinstance cG (aa (pv 0) (aa (aX (v:=.ref a.Fraction) (by rfl) T.mg_Fraction rfl) ae))))) (pw_or (pt_not (pt_val (aF (ci T) hr aG (aa (pe_top T.fr (pv 0)) ae)))) (pw_or1 (pt_not (pt_val (aF (ci T) hr aG (aa (pe_bot T.fr (pv 0)) ae)))))))) (ah (am a5)) au)
   (ag (aN (al op_lt (pe_bot T.fr (pv 0)) ac (aq _)) (ah (am a5)) au)
   (ah (am (bT (aa (pe_top T.fr (pv 0)) (aa (pe_bot T.fr (pv 0)) ae))))))),?_⟩
  try dsimp only [aM,Cx.nox,Cx.wish]
  refine ⟨_,rfl,_,_,_,_,rfl,(λ u h=>h),hp.ty T.fr,T.k_Fraction_Fraction,_,rfl,?_⟩;walk_at "rd"
  have xp:=den_pos x;refine bX (cv (show ¬ (x.den:Int)<1 by omega)) ?_;walk_at "rd"
  exact ⟨zL2,k⟩
noncomputable def inB (g:Str) (c:Nat):Bool:=decide (c∈g.cps.toList)
noncomputable def madeB (z g:Str) (n:Int):Bool:=(decide ((1:Int)<=(z.length:Int)) && decide ((z.length:Int)<=n)) && z.cps.toList.all (inB g)
theorem occ_inB (g:Str) (c:Nat):(!(Builtin.Str.occurrences g ⟨#[c]⟩ 0 g.length 1).isEmpty)=inB g c:=StrLaws.found_one g c
theorem bZ (z:Str):z.cps.toList.length=z.length:=cM
theorem inB_fig (c:Nat):inB "0123456789" c=bY c:=by
 unfold inB;have e:("0123456789":Str).cps.toList=[48,49,50,51,52,53,54,55,56,57]:=by decide
 rw [e];by_cases h:48<=c/\c<=57
 ·rw [figB_iff.mpr h];refine cB ?_;obtain ⟨d,rfl⟩:∃ d,c=48+d:=⟨c-48,by omega⟩;have key:∀ d:Nat,d<10->48+d∈[48,49,50,51,52,53,54,55,56,57]:=by decide
  exact key d (by omega)
 ·have:bY c=false:=by
   cases e:bY c with
   | false=>rfl
   | true=>exact absurd (figB_iff.mp e) h
  rw [this];refine cv λ m=>h ?_;have key:∀ x∈[48,49,50,51,52,53,54,55,56,57],48<=x/\x<=57:=by decide
  exact key c m
theorem made_fig (z:Str):madeB z "0123456789" 9=(bW z.cps.toList && z.cps.toList.all bY):=by
 unfold madeB bW;rw [bZ,show (inB "0123456789")=bY from funext inB_fig]
 congr 2
 ·exact decide_eq_decide.mpr (by omega)
 ·exact decide_eq_decide.mpr (by omega)
inductive IspMade (vs:List V) (H:Hp) (Q:VK):Prop
 | mk (z g:Str) (n:Int) (h1:vs=[.str z,.str g,.int n]) (h2:z.length<=60000) (h3:n<=900) (h4:∀ H',Same H H'->Q (.bl (madeB z g n)) H'):IspMade vs H Q
noncomputable def spMade (K:W.Frag):Sp:=λ vs H Q _=>IspMade vs H Q
theorem ok_is_made_of (T:TX K mg a):FnB P w K mg base CX0 "is_made_of" 1 ["text","signs","most"] (spMade K):=by
 refine T.d_is_made_of.ok sc_is_made_of (λ vs H Q E h=>?_) (λ f cdv A outer s H vs Q E hr h=>?_)
 ·obtain ⟨z,g,n,rfl,_⟩:=h;rfl
 ·obtain ⟨z,g,n,rfl,lz,ln,k⟩:=h
  refine ⟨_,(ah (am (pe_and (pe_chain op_le op_le ac (ao aU (by rfl) T.z_len PySem.boot_len (aa (pv 0) ae)) (pv 2)) (bU (ao (call_allK (K:=K) rfl hr.hd) (by rfl) T.z_all PyProof.Rows.boot_all (aa (pe_compG (xs:=["sign"]) (rest:=["signs"]) rfl (pi_str (pv 0))
   (λ pins fp C' s' H'=>(ce (i:=0) (show (["sign","signs"]:List Str).Nodup by decide +kernel) rfl (Or.inl rfl))) (λ pins fp C' s' H'=>pts_nil)
   (λ pins fp C' s' H'=>(pe_cmpR op_in_str (pv 0) (pv 1) (by with_unfolding_all rfl)))
   (Clos.many (ys:=["signs"]) rfl ⟨rfl,True.intro⟩ rfl (by decide +kernel)) (Reads.many (ys:=["signs"]) (js:=[1]) ⟨⟨rfl,rfl,rfl⟩,True.intro⟩)) ae)))))),?_⟩
  try dsimp only [aM,Cx.nox,Cx.wish]
  refine ⟨_,rfl,z,rfl,cn lz (by decide),_,_,rfl,rfl,_,rfl,?_⟩;unfold madeB at k
  cases h1:decide ((1:Int)<=(z.length:Int)) with
  | false=>
   rw [h1] at k;exact iteF ⟨_,rfl,iteF (k H (Same.refl _))⟩
  | true=>
   rw [h1] at k;refine iteT ⟨_,rfl,_,_,rfl,rfl,_,rfl,?_⟩
   cases h2:decide ((z.length:Int)<=n) with
   | false=>
    rw [h2] at k;exact iteF (k H (Same.refl _))
   | true=>
    rw [h2] at k;have h2:=of_decide_eq_true h2;refine iteT ⟨_,rfl,z,rfl,λ l nl=>?_⟩;refine compG_str (z:=z) (λ i H2=>i<=z.cps.size/\Same H H2/\H2 l=some (.lst (((z.cps.toList.take i).map (inB g)).map V.bl))) ⟨da _,ax nl,ai⟩ ?_ ?_
    ·rintro i c H2 hc ⟨_,s2,h2'⟩;have hc':z.cps.toList[i]?=some c:=by rw [Array.getElem?_toList];exact hc
     have hi:i<z.cps.size:=(c5.mp hc).1;refine g1 ⟨⟨[_],rfl,rfl⟩,yes ?_⟩;refine ⟨_,rfl,_,rfl,_,_,rfl,rfl,?_⟩;refine ⟨_,h2',small1000 (by rw [cA,cA,List.length_take];have:z.cps.size=z.length:=rfl;omega),nextP hi ⟨hi,b5 nl s2,?_⟩⟩;rw [ai,List.take_add_one,hc',Option.toList_some,List.map_append,List.map_append];show some (HO.lst (_++[V.bl (!(Builtin.Str.occurrences g ⟨#[c]⟩ 0 g.length 1).isEmpty)]))=_;rw [occ_inB];rfl
    ·rintro H2 ⟨_,s2,h2'⟩;refine ⟨l,(z.cps.toList.take z.cps.size).map (inB g),rfl,SqL.of h2',?_⟩;rw [List.take_of_length_le (by rw [cM];exact cy _)];have e:(z.cps.toList.map (inB g)).all id=z.cps.toList.all (inB g):=by rw [List.all_map];rfl
     rw [e];exact k H2 s2
noncomputable def NoTextE (a:Ad) (H:Hp) (E:XK):Prop:=∀ H',Same H H'->E (.ref a.NoText) none H'
inductive IspWholeX (a:Ad) (vs:List V) (H:Hp) (Q:VK) (E:XK):Prop
 | mk (z:Str) (h1:vs=[.str z]) (h2:z.length<=60000) (h3:(∀ t H',aw z.cps.toList=some t->Same H H'->Q (.int (t:Nat)) H')) (h4:(aw z.cps.toList=none->NoTextE a H E)):IspWholeX a vs H Q E
noncomputable def spWholeX (a:Ad):Sp:=λ vs H Q E=>IspWholeX a vs H Q E
theorem bE (T:TX K mg a):FnB P w K mg base (CX1 P w) "read_whole" 2 ["text"] (spWholeX a):=by
 refine T.d_read_whole.okX sc_read_whole (λ vs H Q E h=>?_) (λ f cdv A outer s H vs Q E hr h=>?_)
 ·obtain ⟨z,rfl,_⟩:=h;rfl
 ·obtain ⟨z,rfl,lz,k,ke⟩:=h
  refine ⟨_,(ag (aN (pt_not (pt_val (aF (ok_is_made_of T) hr aG (aa (pv 0) (aa (pe_gs T.gs_FIGURES) (aa (pe_gi T.gi_MOST_FIGURES) ae)))))) (ah (ps_raise xout1 rfl hr.hd (by rfl) T.mg_NoText T.ex_NoText (aa aE ae))) au)
   (ah (am (aJ call_int_txt (by rfl) T.z_int PyProof.Rows.boot_int (aa (pv 0) ae))))),?_⟩
  try dsimp only [aM,Cx.nox,Cx.wish]
  refine ⟨_,rfl,z,"0123456789",9,rfl,lz,by decide,λ H' s'=>?_⟩;have mf:=made_fig z;unfold aw at k ke;rw [<- mf] at k ke
  cases hm:madeB z "0123456789" 9 with
  | false=>
   rw [hm] at ke;exact ⟨_,rfl,iteT ⟨by decide,ke (if_neg (by decide)) _ s'⟩⟩
  | true=>
   rw [hm] at k mf;refine ⟨_,rfl,iteF ?_⟩;have mf:=mf.symm;unfold bW at mf;rw [cP,cP,cR,cR,bZ] at mf;have ne:z.cps.toList≠[]:=λ e=>by have:=mf.1.1;rw [<- bZ,e] at this;exact absurd this (by decide)
   exact ⟨_,rfl,z,_,rfl,by omega,PySem.intText_digits (all_fig.mp mf.2) ne (by omega),k _ H' (if_pos rfl) s'⟩
theorem bo {z:Str}:(Txt.slice z (some 1) none).cps.toList=z.cps.toList.drop 1:=by
 cases e:z.cps.toList with
 | nil=>
  have:z=Str.empty:=bn e
  rw [this];decide
 | cons c r=>exact slice_one e
noncomputable def aY (z:Str):Option Rat:=
 match aw (aP (Txt.partition z ⟨#[47]⟩).1.cps.toList),(if (Txt.partition z ⟨#[47]⟩).2.1=⟨#[47]⟩ then aw (Txt.partition z ⟨#[47]⟩).2.2.cps.toList else some 1) with
 | some t,some b=>if b=0 then none else if aL (Rat.divInt (bB (Txt.partition z ⟨#[47]⟩).1.cps.toList t) b)=z then some (Rat.divInt (bB (Txt.partition z ⟨#[47]⟩).1.cps.toList t) b) else none
 | _,_=>none
theorem part_len {z:Str}:(Txt.partition z ⟨#[47]⟩).1.length<=z.length/\(Txt.partition z ⟨#[47]⟩).2.2.length<=z.length:=by
 unfold Txt.partition
 cases Builtin.Str.occurrences z ⟨#[47]⟩ 0 z.length 1 with
 | nil=>exact ⟨cy _,da _⟩
 | cons i r=>exact ⟨strSub_length_le ..,strSub_length_le ..⟩
theorem val9 {cs:List Nat} {t:Nat} (h:aw cs=some t):t<10 ^ 9:=by
 obtain ⟨⟨l1,l2⟩,ad,rfl⟩:=a8 h
 have key:∀ (cs:List Nat) (acc:Nat),PySem.NumText.AllDigits cs->cs.foldl (λ acc c=>acc*10+(c-48)) acc+1<=(acc+1)*10 ^ cs.length:=λ cs=>by
  induction cs with
  | nil=>intro acc _;simp
  | cons c r ih=>
   intro acc ad;have hc:=ad.head;rw [List.foldl_cons,cH,Nat.pow_succ];refine cn (ih _ ad.tail) ?_;rw [Nat.mul_comm (10 ^ r.length) 10,<- Nat.mul_assoc];exact Nat.mul_le_mul_right _ (by omega)
 have h1:=key cs 0 ad;have h2:(10:Nat) ^ cs.length<=10 ^ 9:=Nat.pow_le_pow_right (by decide) l2;have h3:PySem.NumText.digitsVal cs=cs.foldl (λ acc c=>acc*10+(c-48)) 0:=rfl;omega
theorem sgn_abs (cs:List Nat) (t:Nat):(bB cs t).natAbs=t:=by unfold bB;split <;> omega
inductive IspReadX (a:Ad) (vs:List V) (H:Hp) (Q:VK) (E:XK):Prop
 | mk (z:Str) (h1:vs=[.str z]) (h2:z.length<=60000) (h3:(∀ x r H',aY z=some x->H r=none->Same H H'->FrAt a.Fraction H' r x->Q (.ref r) H')) (h4:(aY z=none->NoTextE a H E)):IspReadX a vs H Q E
noncomputable def spReadX (a:Ad):Sp:=λ vs H Q E=>IspReadX a vs H Q E
theorem cg (T:TX K mg a):FnB P w K mg base (CX1 P w) "read_fraction" 4 ["text"] (spReadX a):=by
 refine T.d_read_fraction.okX sc_read_fraction (λ vs H Q E h=>?_) (λ f cdv A outer s H vs Q E hr h=>?_)
 ·obtain ⟨z,rfl,_⟩:=h;rfl
 ·obtain ⟨z,rfl,lz,k,ke⟩:=h
  refine ⟨_,(av (ak (i:=1) sc_read_fraction.nd rfl (Or.inl rfl) (pe_bm PySem.F.plainAttrs_str PySem.F.slot_str_partition PySem.F.type_str_partition mt_part (pv 0) (aa aE ae)))
   (av (ak (i:=2) sc_read_fraction.nd rfl (Or.inl rfl) (pe_bm PySem.F.plainAttrs_str PySem.F.slot_str_startswith PySem.F.type_str_startswith mt_starts (aO bw (pv 1) ac (λ _ _=>rfl)) (aa aE ae)))
   (av (ak (i:=3) sc_read_fraction.nd rfl (Or.inl rfl) (aF (bE T) hr pass1 (aa (pe_ifExp (pt_val (pv 2)) (aZ bS (aO bw (pv 1) ac (λ _ _=>rfl)) (a6 ac) br) (aO bw (pv 1) ac (λ _ _=>rfl))) ae)))
   (av (ak (i:=4) sc_read_fraction.nd rfl (Or.inl rfl) (pe_ifExp (al a7 (aO bw (pv 1) ac (λ _ _=>rfl)) aE (aq _)) (aF (bE T) hr pass1 (aa (aO bw (pv 1) ac (λ _ _=>rfl)) ae)) ac))
   (ag (aN (al a7 (pv 4) ac (aq _)) (ah (ps_raise xout1 rfl hr.hd (by rfl) T.mg_NoText T.ex_NoText (aa aE ae))) au)
   (ag (ak (i:=5) sc_read_fraction.nd rfl (Or.inl rfl) (pe_mkfr (mk2 T) hr T.mg_Fraction aG (aa (pe_ifExp (pt_val (pv 2)) (pe_un un_neg (pv 3)) (pv 3)) (aa (pv 4) ae))))
   (ag (aN (al op_ne (pe_frm0 T.fr (pv 5) (ok_shown T) hr aG) (pv 0) (aq _)) (ah (ps_raise xout1 rfl hr.hd (by rfl) T.mg_NoText T.ex_NoText (aa aE ae))) au)
   (ah (am (pv 5)))))))))),?_⟩
  try dsimp only [aM,Cx.nox,Cx.wish]
  obtain ⟨pl1,pl2⟩:=part_len (z:=z);unfold aY at k ke;generalize hpt:Txt.partition z ⟨#[47]⟩=pt at pl1 pl2 k ke;obtain ⟨A',S,B⟩:=pt;have pl1:A'.length<=z.length:=pl1;have pl2:B.length<=z.length:=pl2;have ke':∀ {H1:Hp},Same H H1->(∀ H',Same H H'->E (.ref a.NoText) none H')->NoTextE a H1 E:=λ s1 h H' s'=>h H' (s1.trans s');refine ⟨λ σ' H'=>∃ p,σ'=[some (.str z),some (.ref p),none,none,none,none]/\Same H H'/\H' p=some (.tup [.str A',.str S,.str B]),?_,?_⟩
  ·refine ⟨_,rfl,rfl,_,_,rfl,rfl,rfl,cn lz (by decide),λ p np=>?_⟩;have e:Txt.partition z "/"=(A',S,B):=hpt;rw [e];exact ⟨p,rfl,ax np,ai⟩
  rintro σ' H1 ⟨p,rfl,s1,hp⟩;have sq:=SqT.of (K:=K) hp;refine ⟨λ σ' H'=>σ'=[some (.str z),some (.ref p),some (.bl (aI A'.cps.toList)),none,none,none]/\H'=H1,?_,?_⟩
  ·refine ⟨_,rfl,p,_,_,_,rfl,rfl,sq,rfl,rfl,_,_,rfl,rfl,?_,rfl⟩;show [_,_,some (V.bl (Txt.startswith A' ⟨#[45]⟩)),_,_,_]=_;rw [starts_one];rfl
  rintro σ' H2 ⟨rfl,eH⟩;subst eH
  have sl1:(Txt.slice A' (some 1) none).length<=60000:=by
   rw [<- bZ,bo,List.length_drop,bZ];omega
  cases e1:aw (aP A'.cps.toList) with
  | none=>
   simp only [e1] at ke;have ke:=ke' s1 (ke trivial);refine ⟨λ _ _=>False,?_,λ _ _ z=>z.elim⟩;refine ⟨_,rfl,_,rfl,?_⟩
   cases hb:aI A'.cps.toList with
   | true=>
    refine iteT ⟨_,rfl,p,_,_,_,rfl,rfl,sq,rfl,_,rfl,_,rfl,cn (cn pl1 lz) (by decide),_,rfl,?_,λ t H' ht=>?_,λ _=>ke⟩
    ·exact sl1
    ·unfold aP at e1;rw [bo] at ht;rw [if_pos hb,ht] at e1
     cases e1
   | false=>
    refine iteF ⟨_,rfl,p,_,_,_,rfl,rfl,sq,rfl,_,rfl,cn pl1 lz,λ t H' ht=>?_,λ _=>ke⟩;unfold aP at e1;rw [if_neg (by rw [hb];decide),ht] at e1
    cases e1
  | some t=>
   have t9:=val9 e1;refine ⟨λ σ' H'=>σ'=[some (.str z),some (.ref p),some (.bl (aI A'.cps.toList)),some (.int (t:Nat)),none,none]/\Same H2 H',?_,?_⟩
   ·refine ⟨_,rfl,_,rfl,?_⟩
    cases hb:aI A'.cps.toList with
    | true=>
     have e2:aw (Txt.slice A' (some 1) none).cps.toList=some t:=by
      rw [bo];unfold aP at e1;rwa [if_pos hb] at e1
     exact iteT ⟨_,rfl,p,_,_,_,rfl,rfl,sq,rfl,_,rfl,_,rfl,cn (cn pl1 lz) (by decide),_,rfl,sl1,λ t' H' ht s'=>(by cases e2.symm.trans ht;exact ⟨rfl,s'⟩),λ hn=>by rw [hn] at e2;cases e2⟩
    | false=>
     have e2:aw A'.cps.toList=some t:=by
      unfold aP at e1;rwa [if_neg (by rw [hb];decide)] at e1
     exact iteF ⟨_,rfl,p,_,_,_,rfl,rfl,sq,rfl,_,rfl,cn pl1 lz,λ t' H' ht s'=>(by cases e2.symm.trans ht;exact ⟨rfl,s'⟩),λ hn=>by rw [hn] at e2;cases e2⟩
   rintro σ' H3 ⟨rfl,s3⟩;have s13:=s1.trans s3;have sq3:=SqT.of (K:=K) (s3 _ _ hp)
   cases e2:(if S=⟨#[47]⟩ then aw B.cps.toList else some 1) with
   | none=>
    simp only [e1,e2] at ke;have ke:=ke' s13 (ke trivial);have hS:S=⟨#[47]⟩:=Decidable.byContradiction λ z=>by rw [if_neg z] at e2;cases e2
    rw [if_pos hS] at e2;refine ⟨λ _ _=>False,?_,λ _ _ z=>z.elim⟩;refine ⟨_,rfl,p,_,_,_,rfl,rfl,sq3,rfl,rfl,_,rfl,bx (cB (by rw [hS];rfl)) ?_⟩;exact ⟨_,rfl,p,_,_,_,rfl,rfl,sq3,rfl,_,rfl,cn pl2 lz,λ t' H' ht=>(by rw [e2] at ht;cases ht),λ _=>ke⟩
   | some b=>
    have b9:b<10 ^ 9:=by
     by_cases hS:S=⟨#[47]⟩
     ·rw [if_pos hS] at e2;exact val9 e2
     ·rw [if_neg hS] at e2
      cases e2;decide
    refine ⟨λ σ' H'=>σ'=[some (.str z),some (.ref p),some (.bl (aI A'.cps.toList)),some (.int (t:Nat)),some (.int (b:Nat)),none]/\Same H3 H',?_,?_⟩
    ·refine ⟨_,rfl,p,_,_,_,rfl,rfl,sq3,rfl,rfl,_,rfl,?_⟩;by_cases hS:S=⟨#[47]⟩
     ·rw [if_pos hS] at e2;exact bx (cB (by rw [hS];rfl)) ⟨_,rfl,p,_,_,_,rfl,rfl,sq3,rfl,_,rfl,cn pl2 lz,λ t' H' ht s'=>(by cases e2.symm.trans ht;exact ⟨rfl,s'⟩),λ hn=>by rw [hn] at e2;cases e2⟩
     ·rw [if_neg hS] at e2
      cases e2;exact bX (cv λ q=>hS (V.str.inj q)) ⟨rfl,Same.refl _⟩
    rintro σ' H4 ⟨rfl,s4⟩;have s14:=s13.trans s4;simp only [e1,e2] at k ke;by_cases hb0:b=0
    ·rw [if_pos hb0] at ke;exact ⟨_,rfl,rfl,_,rfl,bx (cB (by rw [hb0];rfl)) ⟨by decide,ke rfl _ s14⟩⟩
    rw [if_neg hb0] at k ke;refine ⟨_,rfl,rfl,_,rfl,bX (neV (by omega)) ?_⟩;generalize hx:Rat.divInt (bB A'.cps.toList t) b=x at k ke
    have bd:Bd 30 x:=by
     rw [<- hx];exact Bd.divInt (by rw [sgn_abs];exact cn (Nat.le_of_lt t9) (by decide)) (by rw [c9];exact cn (Nat.le_of_lt b9) (by decide))
    have t1:Tx x.num:=Nat.lt_of_le_of_lt bd.1 (by decide);have t2:Tx (x.den:Int):=by show ((x.den:Int)).natAbs<_;rw [c9];exact Nat.lt_of_le_of_lt bd.2 (by decide)
    have sd:Sm (b:Int):=Sm.of_le (n:=100) (by rw [c9];exact cn (Nat.le_of_lt b9) (by decide)) (by decide)
    have ex:(if aI A'.cps.toList=true then Rat.divInt (-(t:Int)) b else Rat.divInt t b)=x:=by
     rw [<- hx];unfold bB
     split <;> rfl
    refine ⟨_,rfl,_,rfl,?_⟩;by_cases hsx:aL x=z
    ·rw [if_pos hsx] at k
     cases hb:aI A'.cps.toList with
     | true=>
      rw [hb,if_pos rfl] at ex;refine iteT ⟨_,rfl,_,rfl,_,rfl,_,_,rfl,by omega,sd,λ r H5 nr s5 hr5=>?_⟩;rw [ex] at hr5;refine ⟨_,rfl,r,x,rfl,hr5,r,x,rfl,hr5,t1,t2,_,rfl,rfl,_,rfl,iteNS (congrArg V.str hsx) ?_⟩;exact ⟨_,rfl,k x r H5 rfl (s14.free nr) (s14.trans s5) hr5⟩
     | false=>
      rw [hb,if_neg (by decide)] at ex;refine iteF ⟨_,rfl,_,rfl,_,_,rfl,by omega,sd,λ r H5 nr s5 hr5=>?_⟩;rw [ex] at hr5;refine ⟨_,rfl,r,x,rfl,hr5,r,x,rfl,hr5,t1,t2,_,rfl,rfl,_,rfl,iteNS (congrArg V.str hsx) ?_⟩;exact ⟨_,rfl,k x r H5 rfl (s14.free nr) (s14.trans s5) hr5⟩
    ·rw [if_neg hsx] at ke;have nq:(!decide (V.str (aL x)=V.str z))=true:=by rw [cv λ q=>hsx (V.str.inj q)];rfl
     cases hb:aI A'.cps.toList with
     | true=>
      rw [hb,if_pos rfl] at ex;refine iteT ⟨_,rfl,_,rfl,_,rfl,_,_,rfl,by omega,sd,λ r H5 nr s5 hr5=>?_⟩;rw [ex] at hr5;exact ⟨_,rfl,r,x,rfl,hr5,r,x,rfl,hr5,t1,t2,_,rfl,rfl,_,rfl,bx nq ⟨by decide,ke rfl _ (s14.trans s5)⟩⟩
     | false=>
      rw [hb,if_neg (by decide)] at ex;refine iteF ⟨_,rfl,_,rfl,_,_,rfl,by omega,sd,λ r H5 nr s5 hr5=>?_⟩;rw [ex] at hr5;exact ⟨_,rfl,r,x,rfl,hr5,r,x,rfl,hr5,t1,t2,_,rfl,rfl,_,rfl,bx nq ⟨by decide,ke rfl _ (s14.trans s5)⟩⟩
noncomputable def sI (b:Bool) (n:Nat):Int:=if b=true then -(n:Int) else n
noncomputable def dueN (b:Bool):List (Option Nat)->Option (Int × Int)
 | [some n]=>if b=true/\n=0 then none else some (sI b n,1)
 | [some n,some m]=>if b=true/\n=0 then none else if m<2∨Nat.gcd n m≠1 then none else some (sI b n,m)
 | _=>none
noncomputable def dueP (z:Str):Option (Int × Int):=
 match Txt.split z ⟨#[47]⟩ with
 | []=>none
 | p::r=>dueN (aI p.cps.toList) (aQ (aP p.cps.toList)::r.map λ q=>aQ q.cps.toList)
theorem join1 (p:Str):Str.join ⟨#[47]⟩ [p]=p:=rfl
theorem join2 (p q:Str) (r:List Str):(Str.join ⟨#[47]⟩ (p::q::r)).cps.toList=p.cps.toList++47::(Str.join ⟨#[47]⟩ (q::r)).cps.toList:=by
 show (p++⟨#[47]⟩++Str.join ⟨#[47]⟩ (q::r)).cps.toList=_;rw [PySem.W.KT.app_list,PySem.W.KT.app_list,List.append_assoc];rfl
theorem bV {i:Int} {b:Nat} (hb:b≠0) (h:Nat.gcd i.natAbs b=1):(Rat.divInt i b).num=i/\(Rat.divInt i b).den=b:=by
 have g:(b:Int).gcd i=1:=by
  rw [Int.gcd_comm];exact h
 have b0:(b:Int)≠0:=by omega
 rw [Rat.num_divInt,Rat.den_divInt,if_neg b0,g,Int.sign_eq_one_of_pos (by omega)];exact ⟨by simp,by simp⟩
theorem den_gcd {i:Int} {b:Nat} (hb:b≠0):(Rat.divInt i b).den=b / Nat.gcd i.natAbs b:=by
 rw [Rat.den_divInt,if_neg (by omega),Int.gcd_comm];rfl
theorem shown_den1 {x:Rat} (h:(x.den:Int)=1):(aL x).cps.toList=(txt x.num).cps.toList:=by
 unfold aL;rw [if_pos h];rfl
theorem shown_denN {x:Rat} (h:(x.den:Int)≠1):(aL x).cps.toList=(txt x.num).cps.toList++47::dg x.den:=by
 unfold aL;rw [if_neg h];show (Str.ofString (toString x.num) ++ "/" ++ Str.ofString (toString (x.den:Int))).cps.toList=_;rw [PySem.W.KT.app_list,PySem.W.KT.app_list,List.append_assoc]
 have:=bL x.den
 unfold txt at this;rw [this];rfl
theorem app_inj {A B C D:List Nat} (hA:¬ 47∈A) (hC:¬ 47∈C) (e:A++47::B=C++47::D):A=C/\B=D:=by
 induction A generalizing C with
 | nil=>
  cases C with
  | nil=>exact ⟨rfl,(List.cons.inj e).2⟩
  | cons c r=>exact absurd (by rw [(List.cons.inj e).1];exact cE) hC
 | cons x A ih=>
  cases C with
  | nil=>exact absurd (by rw [(List.cons.inj (show x::(A++47::B)=47::D from e)).1];exact cE) hA
  | cons c r=>
   obtain ⟨e1,e2⟩:=List.cons.inj (show x::(A++47::B)=c::(r++47::D) from e);obtain ⟨h1,h2⟩:=ih (λ z=>hA (cK _ z)) (λ z=>hC (cK _ z)) e2;exact ⟨by rw [e1,h1],h2⟩
theorem sI_sgn (cs:List Nat) (t:Nat):sI (aI cs) t=bB cs t:=rfl
theorem one_part {z:Str} (h:¬ 47∈z.cps.toList):dueN (aI z.cps.toList) [aQ (aP z.cps.toList)]=(aY z).map λ x=>(x.num,(x.den:Int)):=by
 unfold aY;rw [part_none h];have se:¬ (Str.empty=(⟨#[47]⟩:Str)):=by decide
 simp only [if_neg se]
 cases e1:aw (aP z.cps.toList) with
 | none=>rw [a9 e1];rfl
 | some t=>
  have ti:=txt_is e1;show _=Option.map _ (if (1:Nat)=0 then none else if aL (Rat.divInt (bB z.cps.toList t) (1:Nat))=z then some _ else none);rw [if_neg (by decide)];obtain ⟨x1,x2⟩:=bV (i:=bB z.cps.toList t) (b:=1) (by decide) (Nat.gcd_one_right _);generalize hx:Rat.divInt (bB z.cps.toList t) (1:Nat)=x at x1 x2;have d1:(x.den:Int)=1:=by rw [x2];rfl
  have sh:aL x=z↔(txt (bB z.cps.toList t)).cps.toList=z.cps.toList:=by
   rw [<- x1,<- shown_den1 d1];exact ⟨λ q=>by rw [q],λ q=>bn q⟩
  rcases bG e1 with ⟨c1,c2⟩ | ⟨c1,c2⟩
  ·rw [c2];show (if aI z.cps.toList=true/\t=0 then none else some (sI (aI z.cps.toList) t,(1:Int)))=_;by_cases h0:aI z.cps.toList=true/\t=0
   ·rw [if_pos h0,if_neg λ q=>((ti.mp (sh.mp q)).2 h0)];rfl
   ·rw [if_neg h0,if_pos (sh.mpr (ti.mpr ⟨c1,h0⟩))];show some (sI (aI z.cps.toList) t,(1:Int))=some (x.num,(x.den:Int));rw [x1,d1,sI_sgn]
  ·rw [c2,if_neg λ q=>c1 (ti.mp (sh.mp q)).1];rfl
theorem two_parts {z p q:Str} (e:z.cps.toList=p.cps.toList++47::q.cps.toList) (hp:¬ 47∈p.cps.toList) (hq:¬ 47∈q.cps.toList):dueN (aI p.cps.toList) [aQ (aP p.cps.toList),aQ q.cps.toList]=(aY z).map λ x=>(x.num,(x.den:Int)):=by
 unfold aY
 have pe:Txt.partition z ⟨#[47]⟩=(p,⟨#[47]⟩,q):=by
  rw [part_one e hp hq]
 rw [pe];simp only [if_pos]
 cases e1:aw (aP p.cps.toList) with
 | none=>rw [a9 e1];rfl
 | some t=>
  cases e2:aw q.cps.toList with
  | none=>
   rw [a9 e2]
   cases aQ (aP p.cps.toList) <;> rfl
  | some b=>
   have ti:=txt_is e1;obtain ⟨⟨l1,l2⟩,ad,eb⟩:=a8 e2;show _=Option.map _ (if b=0 then none else if aL (Rat.divInt (bB p.cps.toList t) b)=z then some _ else none);by_cases b0:b=0
   ·rw [if_pos b0]
    cases e3:aQ (aP p.cps.toList) with
    | none=>rfl
    | some n=>
     rcases bG e2 with ⟨c1,c2⟩ | ⟨c1,c2⟩
     ·rw [c2];show (if _ then none else if b<2∨_ then none else _)=_
      split
      ·rfl
      ·rw [if_pos (Or.inl (by omega))];rfl
     ·rw [c2];rfl
   rw [if_neg b0];have dn:=den_gcd (i:=bB p.cps.toList t) b0;rw [sgn_abs] at dn;generalize hx:Rat.divInt (bB p.cps.toList t) b=x at dn
   have sh:aL x=z↔(Can (aP p.cps.toList)/\¬ (aI p.cps.toList=true/\t=0))/\Can q.cps.toList/\¬ (b<2∨Nat.gcd t b≠1):=by
    by_cases d1:(x.den:Int)=1
    ·constructor
     ·intro s;have s1:=shown_den1 d1;rw [s,e] at s1;exact absurd (by rw [<- s1];exact cD _ cE) (txt47 x.num)
     ·rintro ⟨_,_,h3⟩;have g1:Nat.gcd t b=1:=Decidable.byContradiction λ z=>h3 (.inr z);rw [g1,Nat.div_one] at dn;exact absurd (Or.inl (by omega)) h3
    ·have s1:=shown_denN d1;by_cases g1:Nat.gcd t b=1
     ·obtain ⟨x1,x2⟩:=bV (i:=bB p.cps.toList t) (b:=b) b0 (by rw [sgn_abs];exact g1);rw [hx] at x1 x2;rw [x1,x2] at s1;have b2:¬ b<2:=λ z=>d1 (by rw [x2];omega);constructor
      ·intro s;rw [s,e] at s1;obtain ⟨h1,h2⟩:=app_inj hp (txt47 _) s1;refine ⟨ti.mp h1.symm,(dg_can l1 ad).mp (by rw [<- eb];exact h2.symm),λ z=>z.elim b2 λ z=>z g1⟩
      ·rintro ⟨h1,h2,_⟩;refine bn ?_;rw [s1,e,ti.mpr h1,eb,(dg_can l1 ad).mpr h2]
     ·constructor
      ·intro s;rw [s,e] at s1;obtain ⟨h1,h2⟩:=app_inj hp (txt47 _) s1;have h3:=dv_dg x.den;rw [<- h2,<- eb,dn] at h3;have gp:0<Nat.gcd t b:=Nat.gcd_pos_of_pos_right _ (by omega)
       have:=Nat.div_lt_self (show 0<b by omega) (show 1<Nat.gcd t b by omega)
       omega
      ·rintro ⟨_,_,h3⟩;exact absurd (Or.inr g1) h3
   rcases bG e1 with ⟨c1,c2⟩ | ⟨c1,c2⟩
   ·rcases bG e2 with ⟨c3,c4⟩ | ⟨c3,c4⟩
    ·rw [c2,c4];show (if aI p.cps.toList=true/\t=0 then none else if b<2∨Nat.gcd t b≠1 then none else some (sI (aI p.cps.toList) t,(b:Int)))=_;by_cases h0:aI p.cps.toList=true/\t=0
     ·rw [if_pos h0,if_neg λ q=>(sh.mp q).1.2 h0];rfl
     ·rw [if_neg h0];by_cases h1:b<2∨Nat.gcd t b≠1
      ·rw [if_pos h1,if_neg λ q=>(sh.mp q).2.2 h1];rfl
      ·rw [if_neg h1,if_pos (sh.mpr ⟨⟨c1,h0⟩,c3,h1⟩)];have g1:Nat.gcd t b=1:=Decidable.byContradiction λ z=>h1 (.inr z);obtain ⟨x1,x2⟩:=bV (i:=bB p.cps.toList t) (b:=b) b0 (by rw [sgn_abs];exact g1);rw [hx] at x1 x2;show some (sI (aI p.cps.toList) t,(b:Int))=some (x.num,(x.den:Int));rw [x1,x2,sI_sgn]
    ·rw [c4,if_neg λ q=>c3 (sh.mp q).2.1]
     cases aQ (aP p.cps.toList) <;> rfl
   ·rw [c2,if_neg λ q=>c1 (sh.mp q).1.1];rfl
theorem read_three {z:Str} (h:∀ A B:List Nat,z.cps.toList=A++47::B->47∈A∨47∈B) (hm:47∈z.cps.toList):aY z=none:=by
 have f:=StrLaws.found_one z 47;rw [cB hm] at f;have ch:=StrLaws.occ_chain z ⟨#[47]⟩ 1;unfold aY Txt.partition
 cases e:Builtin.Str.occurrences z ⟨#[47]⟩ 0 z.length 1 with
 | nil=>rw [e] at f;simp at f
 | cons i r=>
  rw [e] at ch;obtain ⟨_,_,⟨h1,h2⟩,_⟩:=ch;have hi:=(StrLaws.subAt_one z 47 i).mp ⟨h1,h2⟩;have il:=(cI.mp hi).1
  have ez:z.cps.toList=z.cps.toList.take i++47::z.cps.toList.drop (i+1):=by
   have:=List.take_append_drop i z.cps.toList
   rw [List.drop_eq_getElem_cons il,(cI.mp hi).2] at this;exact this.symm
  have z1:(Builtin.Str.strSub z 0 i).cps.toList=z.cps.toList.take i:=by rw [StrLaws.strSub_toList,List.drop_zero,Nat.sub_zero]
  have z2:(Builtin.Str.strSub z (i+1) z.length).cps.toList=z.cps.toList.drop (i+1):=by
   rw [StrLaws.strSub_toList];exact List.take_of_length_le (by rw [List.length_drop,bZ];exact cy _)
  show (match aw (aP (Builtin.Str.strSub z 0 i).cps.toList),(if (⟨#[47]⟩:Str)=⟨#[47]⟩ then aw (Builtin.Str.strSub z (i+1) z.length).cps.toList else some 1) with | some t,some b=>_ | _,_=>none)=none;rw [z1,z2,if_pos rfl];rcases h _ _ ez with q | q
  ·rw [whole47 (off47 q)]
  ·rw [whole47 q]
   cases aw (aP (z.cps.toList.take i)) <;> rfl
theorem due_read (z:Str):dueP z=(aY z).map λ x=>(x.num,(x.den:Int)):=by
 have js:=StrLaws.join_split z ⟨#[47]⟩;have fr:=StrLaws.split_free z 47;unfold dueP
 match hs:Txt.split z ⟨#[47]⟩ with
 | []=>
  exfalso
  unfold Txt.split at hs
  split at hs
  ·cases hs
  ·split at hs
   ·cases hs
   ·have:=PySem.length_partsBetween z (Builtin.Str.occurrences z ⟨#[47]⟩ 0 z.length (z.length+1)) (⟨#[47]⟩:Str).length
    rw [hs] at this
    cases this
 | [p]=>
  rw [hs] at js fr;rw [join1] at js;subst js;exact one_part (fr _ cE)
 | [p,q]=>
  rw [hs] at js fr;have e:=join2 p q [];rw [js,join1] at e;exact two_parts e (fr p cE) (fr q (by simp))
 | p::q::r::t=>
  rw [hs] at js fr;have e:=join2 p q (r::t);rw [js] at e;have e':=join2 q r t;rw [e'] at e;have hm:47∈z.cps.toList:=by rw [e];exact cD _ cE
  rw [read_three (λ A B h=>?_) hm]
  ·show dueN (aI p.cps.toList) (aQ (aP p.cps.toList)::aQ q.cps.toList::aQ r.cps.toList::t.map λ q=>aQ q.cps.toList)=none
   cases aQ (aP p.cps.toList) <;> cases aQ q.cps.toList <;> rfl
  ·by_cases hA:47∈A
   ·exact .inl hA
   ·rw [e] at h;obtain ⟨_,h2⟩:=app_inj (fr p cE) hA h;refine .inr ?_;rw [<- h2];exact cD _ cE
inductive IspLDiv (vs:List V) (H:Hp) (Q:VK):Prop
 | mk (i j:Int) (h1:vs=[.int i,.int j]) (h2:0<j) (h3:∀ H',Same H H'->Q (.int (gcd i j)) H'):IspLDiv vs H Q
noncomputable def spLDiv:Sp:=λ vs H Q _=>IspLDiv vs H Q
theorem bF (T:TX K mg a):FnB P w K mg base CX0 "_law_divisor" 1 ["_law_one","_law_other"] spLDiv:=by
 refine T.d_law_divisor.ok sc_law_divisor (λ vs H Q E h=>?_) (λ f cdv A outer s H vs Q E hr h=>?_)
 ·obtain ⟨i,j,rfl,_⟩:=h;rfl
 ·obtain ⟨i,j,rfl,hj,k⟩:=h
  refine ⟨_,(ag (ps_while PassesOwn.never (al op_ne (pv 1) ac (aq _)) (ah (ps_par (i:=0) (j:=1) rfl sc_law_divisor.nd rfl rfl (by decide) rfl rfl (aa (pv 1) (aa (aj aH (pv 0) (pv 1)) ae)) rfl)))
   (ah (am (ao call_abs (by rfl) T.z_abs PyProof.Rows.boot_abs (aa (pv 0) ae))))),?_⟩
  try dsimp only [aM,Cx.nox,Cx.wish]
  refine while_by (λ σ H'=>∃ (n m:Int),σ=[some (.int n),some (.int m)]/\Same H H'/\0<=m/\(m=0->0<=n)/\gcd n m=gcd i j) (λ σ _=>match σ with | [_,some (.int m)]=>m.toNat | _=>0) ?_ ?_ ?_
  ·exact ⟨i,j,rfl,Same.refl _,by omega,λ z=>by omega,rfl⟩
  ·rintro σ H' ⟨n,m,rfl,s',hm,hn,hg⟩;refine ⟨_,rfl,rfl,_,rfl,?_⟩;by_cases z:m=0
   ·subst z;refine iteNS rfl ?_;refine ⟨_,rfl,_,rfl,?_⟩;rw [gcd_zero n (hn rfl)] at hg;have e:(if n<0 then -n else n)=n:=if_neg (by have:=hn rfl;omega);rw [e,hg];exact k H' s'
   ·refine bx (by rw [neV z];rfl) ?_;obtain ⟨g1,g2,g3⟩:=gcd_turn hg hm z;refine ⟨_,rfl,_,rfl,_,rfl,_,_,rfl,rfl,(by show (0:Int)<m;omega),_,_,rfl,⟨_,_,rfl,s',g1,λ _=>hm,g3⟩,?_⟩;show (n % m).toNat<m.toNat;omega
  ·rintro σ H' Q1 Q2 hq ⟨v,e,s1,c,ec,q⟩;exact ⟨v,e,s1,c,ec,hq _ _ q⟩
inductive IspLowL (vs:List V) (H:Hp) (Q:VK):Prop
 | mk (i j:Int) (h1:vs=[.int i,.int j]) (h2:0<j) (h3:i.natAbs<=10 ^ 13) (h4:j.natAbs<=10 ^ 13) (h5:∀ t H' (p q:Int),H' t=some (.tup [.int p,.int q])->Same H H'->p.natAbs<=10 ^ 13->q.natAbs<=10 ^ 13->Q (.ref t) H'):IspLowL vs H Q
noncomputable def spLowL:Sp:=λ vs H Q _=>IspLowL vs H Q
theorem fdiv_nb {i g:Int} (hg:0<g) (n:Nat) (h:i.natAbs<=n):(i.fdiv g).natAbs<=n:=by
 rw [Int.fdiv_eq_ediv_of_nonneg _ (by omega)];obtain ⟨d,rfl⟩:=Int.eq_ofNat_of_zero_le (Int.le_of_lt hg);exact cn (bH _ _) h
theorem ok_law_lowest (T:TX K mg a):FnB P w K mg base CX0 "_law_lowest" 2 ["_law_top","_law_bottom"] spLowL:=by
 refine T.d_law_lowest.ok sc_law_lowest (λ vs H Q E h=>?_) (λ f cdv A outer s H vs Q E hr h=>?_)
 ·obtain ⟨i,j,rfl,_⟩:=h;rfl
 ·obtain ⟨i,j,rfl,hj,bi,bj,k⟩:=h
  refine ⟨_,(ag (ak (i:=2) sc_law_lowest.nd rfl (Or.inl rfl) (aF (bF T) hr aG (aa (pv 0) (aa (pv 1) ae))))
   (ah (am (bT (aa (aj cf (pv 0) (pv 2)) (aa (aj cf (pv 1) (pv 2)) ae)))))),?_⟩
  try dsimp only [aM,Cx.nox,Cx.wish]
  have gp:0<gcd i j:=gcd_pos_r i (by omega);have gs:Sm (gcd i j):=Sm.gcd_r i (by omega) (Sm.of_le (n:=50) (cn bj (by decide)) (by decide));refine ⟨_,rfl,_,rfl,i,j,rfl,hj,λ H1 s1=>?_⟩;refine ⟨_,rfl,_,rfl,_,_,rfl,rfl,⟨by omega,gs⟩,_,rfl,_,rfl,_,_,rfl,rfl,⟨by omega,gs⟩,zL2,λ t nt=>?_⟩;exact k t _ _ _ ai (s1.trans (ax nt)) (fdiv_nb gp _ bi) (fdiv_nb gp _ bj)
theorem b3 {i:Int} (h:i.natAbs<=10 ^ 14):(Str.ofString (toString i)).length<=16:=by
 have key:∀ m:Nat,m<=10 ^ 14->(dg m).length<=15:=λ m hm=>by
  have h1:=PyProof.Rows.toString_length_le (v:=(m:Int)) (by omega) (k:=15) (by decide) (by
   have e:(10:Int) ^ 15=1000000000000000:=by decide
   have e2:(10:Nat) ^ 14=100000000000000:=by decide
   omega)
  rw [<- bL m];exact h1
 show (txt i).cps.size<=16;rw [<- cM]
 cases i with
 | ofNat m=>rw [show Int.ofNat m=((m:Nat):Int) from rfl,bL];exact Nat.le_succ_of_le (key m h)
 | negSucc m=>rw [txt_neg,cH];exact Nat.succ_le_succ (key (m+1) h)
theorem log_ok {i:Int} (h:i.natAbs<=10 ^ 14):i.natAbs.log2<1920:=by
 by_cases h0:i.natAbs=0
 ·rw [h0];decide
 ·exact (Nat.log2_lt h0).mpr (Nat.lt_of_le_of_lt h (by decide))
inductive IspTextL (vs:List V) (H:Hp) (Q:VK):Prop
 | mk (t:Addr) (p q:Int) (h1:vs=[.ref t]) (h2:H t=some (.tup [.int p,.int q])) (h3:p.natAbs<=10 ^ 13) (h4:q.natAbs<=10 ^ 13) (h5:∀ z:Str,z.length<=40->Q (.str z) H):IspTextL vs H Q
noncomputable def spTextL:Sp:=λ vs H Q _=>IspTextL vs H Q
theorem ok_law_text (T:TX K mg a):FnB P w K mg base CX0 "_law_text" 1 ["_law_pair_here"] spTextL:=by
 refine T.d_law_text.ok sc_law_text (λ vs H Q E h=>?_) (λ f cdv A outer s H vs Q E hr h=>?_)
 ·obtain ⟨t,p,q,rfl,_⟩:=h;rfl
 ·obtain ⟨t,p,q,rfl,ht,bp,bq,k⟩:=h
  refine ⟨_,(ag (aN (al a7 (aO bw (pv 0) ac (λ _ _=>rfl)) ac (aq _)) (ah (am (aJ ay (by rfl) T.z_str cS (aa (aO bw (pv 0) ac (λ _ _=>rfl)) ae)))) au)
   (ah (am (aj az (aj az (aJ ay (by rfl) T.z_str cS (aa (aO bw (pv 0) ac (λ _ _=>rfl)) ae)) aE) (aJ ay (by rfl) T.z_str cS (aa (aO bw (pv 0) ac (λ _ _=>rfl)) ae)))))),?_⟩
  try dsimp only [aM,Cx.nox,Cx.wish]
  have sq:=SqT.of (K:=K) ht;have p14:p.natAbs<=10 ^ 14:=cn bp (by decide);have q14:q.natAbs<=10 ^ 14:=cn bq (by decide);have l1:=b3 p14;have l2:=b3 q14;refine ⟨_,rfl,t,_,_,_,rfl,rfl,sq,rfl,rfl,_,rfl,ifV (λ _=>?_) (λ _=>?_)⟩
  ·exact ⟨_,rfl,t,_,_,_,rfl,rfl,sq,rfl,_,rfl,log_ok p14,k _ (cn l1 (by decide))⟩
  ·refine ⟨_,rfl,t,_,_,_,rfl,rfl,sq,rfl,_,rfl,log_ok p14,_,_,rfl,rfl,?_,_,rfl,t,_,_,_,rfl,rfl,sq,rfl,_,rfl,log_ok q14,_,_,rfl,rfl,?_,k _ ?_⟩
   ·rw [cL];show (Str.ofString (toString p)).length+1<=_;omega
   ·rw [cO,cL];show (Str.ofString (toString p)).length+1+(Str.ofString (toString q)).length<=_;omega
   ·rw [cO,cO];show (Str.ofString (toString p)).length+1+(Str.ofString (toString q)).length<=_;omega
inductive IspPower (vs:List V) (H:Hp) (Q:VK):Prop
 | mk (n:Nat) (h1:vs=[.int n]) (h2:n<=20) (h3:Q (.int ((10:Int) ^ n)) H):IspPower vs H Q
noncomputable def spPower:Sp:=λ vs H Q _=>IspPower vs H Q
theorem cj (T:TX K mg a):FnB P w K mg base CX0 "_law_power" 1 ["_law_count"] spPower:=by
 refine T.d_law_power.ok sc_law_power (λ vs H Q E h=>?_) (λ f cdv A outer s H vs Q E hr h=>?_)
 ·obtain ⟨n,rfl,_⟩:=h;rfl
 ·obtain ⟨n,rfl,n20,k⟩:=h
  refine ⟨_,(ag (ak (i:=1) sc_law_power.nd rfl (Or.inl rfl) ac)
   (ag (ps_for PassesOwn.never rfl (pi_range1 rfl T.z_range (aa (pv 0) ae)) (ce (i:=2) sc_law_power.nd rfl (Or.inl rfl)) (ah (ak (i:=1) sc_law_power.nd rfl (Or.inl rfl) (aj op_mulG (pv 1) ac))))
   (ah (am (pv 1))))),?_⟩
  try dsimp only [aM,Cx.nox,Cx.wish]
  refine ⟨_,rfl,(n:Int),rfl,by omega,by omega,for_range (n:=n) (λ i σ H'=>∃ z2,σ=[some (.int n),some (.int ((10:Int) ^ i)),z2]/\H'=H) ⟨_,rfl,rfl⟩ ?_ ?_⟩
  ·rintro i σ H' hi ⟨z2,rfl,rfl⟩;refine ⟨_,rfl,_,_,rfl,rfl,PySem.IntMulOk.of_right (by decide),some (.int (0+(i:Int))),?_,rfl⟩;rw [Int.pow_succ];rfl
  ·rintro σ H' ⟨z2,rfl,rfl⟩;exact ⟨_,rfl,k⟩
theorem at_some {z:Str} {i:Int} (h0:0<=i) (h1:i<(z.length:Int)):∃ c,atI z.cps.toList i=some c:=by
 obtain ⟨j,rfl⟩:=Int.eq_ofNat_of_zero_le h0;have hj:j<z.cps.toList.length:=by rw [cM];have:z.cps.size=z.length:=rfl;omega
 exact ⟨_,cm (cr hj)⟩
inductive IspSign (vs:List V) (H:Hp) (Q:VK):Prop
 | mk (c:Int) (h1:vs=[.int c]) (h2:∀ ch:Nat,Q (.str ⟨#[ch]⟩) H):IspSign vs H Q
noncomputable def spSign:Sp:=λ vs H Q _=>IspSign vs H Q
theorem ok_law_sign (T:TX K mg a):FnB P w K mg base CX0 "_law_sign" 1 ["_law_cell"] spSign:=by
 refine T.d_law_sign.ok sc_law_sign (λ vs H Q E h=>?_) (λ f cdv A outer s H vs Q E hr h=>?_)
 ·obtain ⟨c,rfl,_⟩:=h;rfl
 ·obtain ⟨c,rfl,k⟩:=h
  refine ⟨_,(ag (ak (i:=1) sc_law_sign.nd rfl (Or.inl rfl) aE)
   (ag (ak (i:=1) sc_law_sign.nd rfl (Or.inl rfl) (aj az (pv 1) aE))
   (ah (am (aO ix_str (pv 1) (aj aH (pv 0) (ao aU (by rfl) T.z_len PySem.boot_len (aa (pv 1) ae))) (λ _ _=>rfl)))))),?_⟩
  try dsimp only [aM,Cx.nox,Cx.wish]
  refine ⟨_,rfl,_,_,rfl,rfl,by decide,?_⟩;generalize hz:(Str.ofString " !\"#$&'()*+,-./0123456789:;<=>?@ABCDEFGHIJKLMNOPQRSTUVWXYZ[\\]^_`" ++ Str.ofString "abcdefghijklmnopqrstuvwxyz{|}~":Str)=z;have lz:z.length=94:=by rw [<- hz,cO];decide
  obtain ⟨e0,e1⟩:=aS c (show (0:Int)<(z.length:Int) by omega);obtain ⟨ch,hch⟩:=at_some e0 e1;exact ⟨_,rfl,_,rfl,_,rfl,z,rfl,by rw [lz];decide,_,_,rfl,rfl,by show (0:Int)<(z.length:Int);omega,z,_,ch,rfl,rfl,by rw [lz];decide,hch,k ch⟩
inductive IspFig (vs:List V) (H:Hp) (Q:VK):Prop
 | mk (c:Int) (h1:vs=[.int c]) (h2:∀ z:Str,z.length<=20->Q (.str z) H):IspFig vs H Q
noncomputable def spFig:Sp:=λ vs H Q _=>IspFig vs H Q
theorem ok_law_figure (T:TX K mg a):FnB P w K mg base CX0 "_law_figure" 1 ["_law_cell"] spFig:=by
 refine T.d_law_figure.ok sc_law_figure (λ vs H Q E h=>?_) (λ f cdv A outer s H vs Q E hr h=>?_)
 ·obtain ⟨c,rfl,_⟩:=h;rfl
 ·obtain ⟨c,rfl,k⟩:=h
  refine ⟨_,(ag (aN (al a7 (aj aH (pv 0) ac) ac (aq _)) (ah (am (aO ix_str aE (aj aH (aj bt (pv 0) ac) ac) (λ _ _=>rfl)))) au)
   (ah (am (aJ ay (by rfl) T.z_str cS (aa (aj aH (aj bt (pv 0) ac) ac) ae))))),?_⟩
  try dsimp only [aM,Cx.nox,Cx.wish]
  refine ⟨_,rfl,_,_,rfl,rfl,zI5,rfl,_,rfl,ifV (λ _=>?_) (λ _=>?_)⟩
  ·obtain ⟨e0,e1⟩:=aS (c / 5) (show (0:Int)<9 by decide);obtain ⟨ch,hch⟩:=at_some (z:="-/-/ +.01") e0 e1;exact ⟨_,rfl,_,_,rfl,rfl,⟨by decide,by decide⟩,_,_,rfl,rfl,zI9,_,_,ch,rfl,rfl,by decide,hch,k _ (by show 1<=20;decide)⟩
  ·obtain ⟨e0,e1⟩:=aS (c / 5) (show (0:Int)<10 by decide);have b:(c / 5 % 10).natAbs<=10 ^ 14:=by omega
   exact ⟨_,rfl,_,_,rfl,rfl,⟨by decide,by decide⟩,_,_,rfl,rfl,zI10,_,rfl,log_ok b,k _ (cn (b3 b) (by decide))⟩
theorem pow11:∀ n:Nat,n<=11->(1:Int)<=10 ^ n/\(10:Int) ^ n<=10 ^ 11:=by decide
inductive IspWritten (K:W.Frag) (vs:List V) (H:Hp) (Q:VK):Prop
 | mk (l:Addr) (ns:List Int) (h1:vs=[.ref l]) (h2:SqL K H l (ns.map V.int)) (h3:∀ (z:Str) H',z.length<=30000->Same H H'->Q (.str z) H'):IspWritten K vs H Q
noncomputable def spWritten (K:W.Frag):Sp:=λ vs H Q _=>IspWritten K vs H Q
theorem odd_texts {i:Int} (h0:0<=i) (h1:i<12):∃ s:Str,atI [V.str "-0",V.str "0",V.str "00",V.str "-0/2",V.str "0/7",V.str "1/1",V.str "07",V.str "-7/1",V.str "1/02",V.str "3/0",V.str "/",V.str ""] i=some (.str s)/\s.length<=10:=by
 obtain ⟨j,rfl⟩:=Int.eq_ofNat_of_zero_le h0
 match j,h1 with
 | 0,_=>exact ⟨_,rfl,by decide⟩
 | 1,_=>exact ⟨_,rfl,by decide⟩
 | 2,_=>exact ⟨_,rfl,by decide⟩
 | 3,_=>exact ⟨_,rfl,by decide⟩
 | 4,_=>exact ⟨_,rfl,by decide⟩
 | 5,_=>exact ⟨_,rfl,by decide⟩
 | 6,_=>exact ⟨_,rfl,by decide⟩
 | 7,_=>exact ⟨_,rfl,by decide⟩
 | 8,_=>exact ⟨_,rfl,by decide⟩
 | 9,_=>exact ⟨_,rfl,by decide⟩
 | 10,_=>exact ⟨_,rfl,by decide⟩
 | 11,_=>exact ⟨_,rfl,by decide⟩
 | j+12,h=>omega
theorem mul2 {n:Int} (h0:0<=n) (h1:n<2):(Txt.mul "/02" n).length<=3:=by
 rcases (show n=0∨n=1 by omega) with rfl | rfl <;> decide
theorem ok_law_written (T:TX K mg a):FnB P w K mg base CX0 "_law_written" 3 ["_law_script"] (spWritten K):=by
 refine T.d_law_written.ok sc_law_written (λ vs H Q E h=>?_) (λ f cdv A outer s H vs Q E hr h=>?_)
 ·obtain ⟨l,ns,rfl,_⟩:=h;rfl
 ·obtain ⟨l,ns,rfl,hS,k⟩:=h;refine' ⟨_,av ?s0 ?r0,?kk⟩
  case s0=>exact (ak (i:=1) sc_law_written.nd rfl (Or.inl rfl) (aF (cj T) hr aG (aa (aj op_add ac (aj aH (aF (aA T) hr aG (aa (pv 0) (aa ac ae))) ac)) ae)))
  case' r0=>refine' av ?s1 ?r1
  case s1=>exact (ak (i:=2) sc_law_written.nd rfl (Or.inl rfl) (aj op_sub (aj aH (aF (aA T) hr aG (aa (pv 0) (aa ac ae))) (aj bM ac (pv 1))) (pv 1)))
  case' r1=>refine' av ?s2 ?r2
  case s2=>exact (ak (i:=3) sc_law_written.nd rfl (Or.inl rfl) (aj op_add ac (aj aH (aF (aA T) hr aG (aa (pv 0) (aa ac ae))) (aF (cj T) hr aG (aa (aj aH (aj bt (aF (aA T) hr aG (aa (pv 0) (aa ac ae))) ac) ac) ae)))))
  case' r2=>refine' av ?s3 ?r3
  case s3=>exact (ak (i:=4) sc_law_written.nd rfl (Or.inl rfl) (aF (ok_law_text T) hr aG (aa (aF (ok_law_lowest T) hr aG (aa (pv 2) (aa (pv 3) ae))) ae)))
  case' r3=>refine' av ?s4 ?r4
  case s4=>exact (ak (i:=5) sc_law_written.nd rfl (Or.inl rfl) (aF (aA T) hr aG (aa (pv 0) (aa ac ae))))
  case' r4=>refine' av ?s5 ?r5
  case s5=>exact (ak (i:=6) sc_law_written.nd rfl (Or.inl rfl) (aj aH (aj bt (pv 5) ac) (aj op_add (ao aU (by rfl) T.z_len PySem.boot_len (aa (pv 4) ae)) ac)))
  case' r5=>refine' ag ?s6 ?r6
  case s6=>exact (aN (al a7 (aj aH (pv 5) ac) ac (aq _)) (ah (am (aj az (aj az (aZ bS (pv 4) br (a6 (pv 6))) (aF (ok_law_sign T) hr aG (aa (aF (aA T) hr aG (aa (pv 0) (aa ac ae))) ae))) (aZ bS (pv 4) (a6 (pv 6)) br)))) au)
  case' r6=>refine' ag ?s7 ?r7
  case s7=>exact (aN (al a7 (aj aH (pv 5) ac) ac (aq _)) (ah (am (aj az (aZ bS (pv 4) br (a6 (pv 6))) (aZ bS (pv 4) (a6 (aj op_add (pv 6) ac)) br)))) au)
  case' r7=>refine' ag ?s8 ?r8
  case s8=>exact (aN (al a7 (aj aH (pv 5) ac) ac (aq _)) (ag (ak (i:=7) sc_law_written.nd rfl (Or.inl rfl) (aj op_add ac (aj aH (aj bt (pv 5) ac) ac)))
   (ah (am (aj az (aj az (aJ ay (by rfl) T.z_str cS (aa (aj bM (pv 2) (pv 7)) ae)) aE) (aJ ay (by rfl) T.z_str cS (aa (aj bM (pv 3) (pv 7)) ae)))))) au)
  case' r8=>refine' ag ?s9 ?r9
  case s9=>exact (ps_ifp (aj aH (pv 5) ac) (pssp_ret (pep_op az (pep_replace (i:=4) rfl (Or.inl rfl)) (aj op_repR (aj aH (aj bt (pv 5) ac) ac) aE))) au)
  case' r9=>refine' ag ?s10 ?r10
  case' s10=>
   generalize hL:Expr.List _ _=L;refine' (aN (al a7 (aj aH (pv 5) ac) ac (aq _)) (ah (am (aO aR (pe_eqE hL ?y10) (aj aH (aj bt (pv 5) ac) ac) (λ _ _=>rfl)))) au)
  case y10=>
   refine' pe_txl ["-0","0","00","-0/2","0/7","1/1","07","-7/1","1/02","3/0","/",""] ?_;decide +kernel
  case r10=>exact ah (am (pv 4))
  try dsimp only [aM,Cx.nox,Cx.wish]
  refine ⟨λ σ' H'=>∃ t:Int,σ'=[some (.ref l),some (.int t),none,none,none,none,none,none]/\H'=H/\1<=t/\t<=10 ^ 11,?_,?_⟩
  ·obtain ⟨e0,e1⟩:=aS (aW ns 3) (show (0:Int)<11 by decide);obtain ⟨n,hn⟩:∃ n:Nat,1+aW ns 3 % 11=n:=Int.eq_ofNat_of_zero_le (by omega);obtain ⟨p1,p2⟩:=pow11 n (by omega);exact ⟨_,rfl,l,ns,3,rfl,hS,_,_,rfl,rfl,zI11,_,_,rfl,rfl,n,by show [V.int (1+aW ns 3 % 11)]=[V.int (n:Int)];rw [hn],by omega,_,rfl,rfl,p1,p2⟩
  rintro σ' H' ⟨t,rfl,rfl,t1,t2⟩;have st:Sm t:=Sm.of_le (n:=40) (by have e:(10:Int) ^ 11=100000000000:=(by decide);have e2:(2:Nat) ^ 40=1099511627776:=(by decide);omega) (by decide);refine ⟨λ σ' H2=>∃ u:Int,σ'=[some (.ref l),some (.int t),some (.int u),none,none,none,none,none]/\H2=H'/\u.natAbs<=10 ^ 11,?_,?_⟩
  ·have tp:(0:Int)<2*t:=by omega
   obtain ⟨e0,e1⟩:=aS (aW ns 1) tp;refine ⟨_,rfl,l,ns,1,rfl,hS,_,rfl,_,_,rfl,rfl,⟨Sm.of_le (n:=10) (by decide) (by decide),st⟩,_,_,rfl,rfl,tp,_,rfl,_,_,rfl,rfl,_,rfl,rfl,?_⟩;have e:(10:Int) ^ 11=((10 ^ 11:Nat):Int):=by decide
   omega
  rintro σ' H2 ⟨u,rfl,rfl,bu⟩;refine ⟨λ σ' H'=>∃ v:Int,σ'=[some (.ref l),some (.int t),some (.int u),some (.int v),none,none,none,none]/\H'=H2/\0<v/\v.natAbs<=10 ^ 12,?_,?_⟩
  ·obtain ⟨e0,e1⟩:=aS (aW ns 3 / 11) (show (0:Int)<11 by decide);obtain ⟨n,hn⟩:∃ n:Nat,aW ns 3 / 11 % 11=n:=Int.eq_ofNat_of_zero_le (by omega);obtain ⟨p1,p2⟩:=pow11 n (by omega);have tp:(0:Int)<10 ^ n:=by omega
   obtain ⟨g0,g1⟩:=aS (aW ns 2) tp;refine ⟨_,rfl,l,ns,2,rfl,hS,_,rfl,l,ns,3,rfl,hS,_,_,rfl,rfl,⟨by decide,by decide⟩,_,_,rfl,rfl,zI11,n,by show [V.int (aW ns 3 / 11 % 11)]=[V.int (n:Int)];rw [hn],by omega,_,_,rfl,rfl,tp,_,_,rfl,rfl,_,rfl,rfl,by omega,?_⟩;have e:(10:Int) ^ 11=100000000000:=by decide
   have e2:(10:Nat) ^ 12=1000000000000:=by decide
   omega
  rintro σ' H' ⟨v,rfl,rfl,v0,bv⟩;refine ⟨λ σ' H2=>∃ z:Str,σ'=[some (.ref l),some (.int t),some (.int u),some (.int v),some (.str z),none,none,none]/\Same H' H2/\z.length<=40,?_,?_⟩
  ·refine ⟨_,rfl,_,rfl,u,v,rfl,v0,cn bu (by decide),cn bv (by decide),λ tt H1 p q ht s1 bp bq=>?_⟩;exact ⟨tt,p,q,rfl,ht,bp,bq,λ z lz=>⟨z,rfl,s1,lz⟩⟩
  rintro σ' H2 ⟨z,rfl,s2,lz⟩;have hS2:=s2.seq hS;refine ⟨λ σ' H'=>∃ wy:Int,σ'=[some (.ref l),some (.int t),some (.int u),some (.int v),some (.str z),some (.int wy),none,none]/\H'=H2,?_,?_⟩
  ·exact ⟨_,rfl,l,ns,4,rfl,hS2,_,rfl,rfl⟩
  rintro σ' H3 ⟨wy,rfl,rfl⟩;have zp:(0:Int)<(z.length:Int)+1:=by omega
  obtain ⟨a0,a1⟩:=aS (wy / 8) zp;have zl:z.length<=sizeLine:=cn lz (by decide);refine ⟨λ σ' H'=>∃ at_:Int,σ'=[some (.ref l),some (.int t),some (.int u),some (.int v),some (.str z),some (.int wy),some (.int at_),none]/\H'=H3,?_,?_⟩
  ·exact ⟨_,rfl,_,_,rfl,rfl,⟨by decide,by decide⟩,_,rfl,z,rfl,zl,_,_,rfl,rfl,_,_,rfl,rfl,zp,_,rfl,rfl⟩
  rintro σ' H4 ⟨at_,rfl,rfl⟩;have l1:=Txt.slice_le z none (some at_);have l2:=Txt.slice_le z (some at_) none;have l3:=Txt.slice_le z (some (at_+1)) none;refine ⟨_,rfl,_,_,rfl,rfl,zI8,rfl,_,rfl,ifV (λ _=>?_) (λ _=>?_)⟩
  ·refine ⟨_,rfl,_,rfl,_,rfl,z,rfl,zl,_,rfl,l,ns,5,rfl,hS2,_,rfl,λ ch=>?_⟩;refine ⟨_,_,rfl,rfl,by rw [cL];show _+1<=_;omega,_,rfl,_,rfl,_,rfl,z,rfl,zl,_,_,rfl,rfl,by rw [cO,cL];show _+1+_<=_;omega,k _ _ ?_ s2⟩;rw [cO,cO];show _+1+_<=_;omega
  refine ⟨_,rfl,_,_,rfl,rfl,zI8,rfl,_,rfl,ifV (λ _=>?_) (λ _=>?_)⟩
  ·refine ⟨_,rfl,_,rfl,_,rfl,z,rfl,zl,_,rfl,_,rfl,_,_,rfl,rfl,_,rfl,z,rfl,zl,_,_,rfl,rfl,by rw [cL];omega,k _ _ ?_ s2⟩;rw [cO];omega
  refine ⟨_,rfl,_,_,rfl,rfl,zI8,rfl,_,rfl,ifV (λ _=>?_) (λ _=>?_)⟩
  ·obtain ⟨b0,b1⟩:=aS (wy / 8) (show (0:Int)<8 by decide);refine ⟨_,rfl,_,_,rfl,rfl,⟨by decide,by decide⟩,_,_,rfl,rfl,zI8,_,_,rfl,rfl,?_⟩;generalize hby:2+wy / 8 % 8=by_;have b9:by_.natAbs<=10:=by omega
   have sb:Sm by_:=Sm.of_le (n:=10) (cn b9 (by decide)) (by decide);have su:Sm u:=Sm.of_le (n:=40) (cn bu (by decide)) (by decide);have sv:Sm v:=Sm.of_le (n:=40) (cn bv (by decide)) (by decide);have m1:(u*by_).natAbs<=10 ^ 14:=by rw [Int.natAbs_mul];exact cn (Nat.mul_le_mul bu b9) (by decide)
   have m2:(v*by_).natAbs<=10 ^ 14:=by rw [Int.natAbs_mul];exact cn (Nat.mul_le_mul bv b9) (by decide)
   have n1:=b3 m1;have n2:=b3 m2;refine ⟨_,rfl,_,rfl,_,_,rfl,rfl,⟨su,sb⟩,_,rfl,log_ok m1,_,_,rfl,rfl,?_,_,rfl,_,rfl,_,_,rfl,rfl,⟨sv,sb⟩,_,rfl,log_ok m2,_,_,rfl,rfl,?_,k _ _ ?_ s2⟩
   ·rw [cL];show (Str.ofString (toString (u*by_))).length+1<=_;omega
   ·rw [cO,cL];show (Str.ofString (toString (u*by_))).length+1+(Str.ofString (toString (v*by_))).length<=_;omega
   ·rw [cO,cO];show (Str.ofString (toString (u*by_))).length+1+(Str.ofString (toString (v*by_))).length<=_;omega
  refine ⟨_,rfl,_,_,rfl,rfl,zI8,_,_,rfl,rfl,_,rfl,ifV (λ _=>?_) (λ _=>?_)⟩
  ·obtain ⟨b0,b1⟩:=aS (wy / 8) (show (0:Int)<2 by decide);have m2:=mul2 b0 b1;refine ⟨z,rfl,by omega,by decide,λ r lr=>?_⟩;refine ⟨_,rfl,_,_,rfl,rfl,⟨by decide,by decide⟩,_,_,rfl,rfl,zI2,"/02",_,rfl,rfl,by decide,by omega,_,_,rfl,rfl,?_,k _ _ ?_ s2⟩
   ·rw [cL];omega
   ·rw [cO];omega
  refine ⟨_,rfl,_,_,rfl,rfl,zI8,rfl,_,rfl,ifV (λ _=>?_) (λ _=>?_)⟩
  ·obtain ⟨b0,b1⟩:=aS (wy / 8) (show (0:Int)<12 by decide);obtain ⟨sx,hx,lx⟩:=odd_texts b0 b1;refine ⟨zL12,λ q nq=>?_⟩;exact ⟨_,rfl,_,_,rfl,rfl,⟨by decide,by decide⟩,_,_,rfl,rfl,zI12,q,_,_,_,rfl,rfl,SqL.of ai,hx,k _ _ (by omega) (s2.trans (ax nq))⟩
  exact ⟨_,rfl,k _ _ (by omega) s2⟩
noncomputable def nV:Option Nat->V
 | some t=>.int t
 | none=>.non
theorem occ_fig {c:Nat} (h:bY c=true):Builtin.Str.occurrences "0123456789" ⟨#[c]⟩ 0 ("0123456789":Str).length 1=[c-48]:=by
 obtain ⟨h1,h2⟩:=figB_iff.mp h;obtain ⟨d,rfl⟩:∃ d,c=48+d:=⟨c-48,by omega⟩;have key:∀ d:Nat,d<10->Builtin.Str.occurrences "0123456789" ⟨#[48+d]⟩ 0 ("0123456789":Str).length 1=[48+d-48]:=by decide +kernel
 exact key d (by omega)
theorem num_no {cs:List Nat} (h:(bW cs && !(decide (1<cs.length) && decide (cs[0]?=some 48)) && cs.all bY)=false):aQ cs=none:=by
 unfold aQ;rw [h];exact if_neg (by decide)
theorem dig_add (cs:List Nat) (c:Nat):PySem.NumText.digitsVal (cs++[c])=PySem.NumText.digitsVal cs*10+(c-48):=by
 show (cs++[c]).foldl (λ acc c=>acc*10+(c-48)) 0=_;rw [List.foldl_append];rfl
inductive IspNum (vs:List V) (H:Hp) (Q:VK):Prop
 | mk (z:Str) (h1:vs=[.str z]) (h2:z.length<=60000) (h3:Q (nV (aQ z.cps.toList)) H):IspNum vs H Q
noncomputable def spNum (K:W.Frag):Sp:=λ vs H Q _=>IspNum vs H Q
theorem ok_law_number (T:TX K mg a):FnB P w K mg base CX0 "_law_number" 1 ["_law_text_here"] (spNum K):=by
 refine T.d_law_number.ok sc_law_number (λ vs H Q E h=>?_) (λ f cdv A outer s H vs Q E hr h=>?_)
 ·obtain ⟨z,rfl,_⟩:=h;rfl
 ·obtain ⟨z,rfl,lz,k⟩:=h
  refine ⟨_,(av (aN (PW.pt (pw_or (pt_not (pt_chain op_le op_le ac (ao aU (by rfl) T.z_len PySem.boot_len (aa (pv 0) ae)) ac)) (pw_or1 (PW.pt (pw_and (al op_gt (ao aU (by rfl) T.z_len PySem.boot_len (aa (pv 0) ae)) ac (aq _)) (pw_and1 (al a7 (aO ix_str (pv 0) ac (λ _ _=>rfl)) aE (aq _)))))))) (ah (am a5)) au)
   (ag (ak (i:=1) sc_law_number.nd rfl (Or.inl rfl) ac)
   (ag (ps_for PassesOwn.never rfl (pi_str (pv 0)) (ce (i:=2) sc_law_number.nd rfl (Or.inl rfl)) (ag (aN (al op_notin_str (pv 2) aE (by with_unfolding_all rfl)) (ah (am a5)) au)
   (ah (ak (i:=1) sc_law_number.nd rfl (Or.inl rfl) (aj op_add (aj bM ac (pv 1)) (pe_bm PySem.F.plainAttrs_str PySem.F.slot_str_index PySem.F.type_str_index mt_indexS aE (aa (pv 2) ae)))))))
   (ah (am (pv 1)))))),?_⟩
  try dsimp only [aM,Cx.nox,Cx.wish]
  have zl:z.length<=sizeLine:=cn lz (by decide);have zz:=bZ z;refine ⟨λ σ' H'=>σ'=[some (.str z),none,none]/\H'=H/\bW z.cps.toList=true/\(decide (1<z.cps.toList.length) && decide (z.cps.toList[0]?=some 48))=false,?_,?_⟩
  ·refine ⟨_,rfl,z,rfl,zl,_,_,rfl,rfl,_,rfl,?_⟩;by_cases h1:(1:Int)<=(z.length:Int)
   ·refine bx (cB h1) ⟨_,_,rfl,rfl,_,rfl,?_⟩;by_cases h2:(z.length:Int)<=9
    ·have hl:bW z.cps.toList=true:=by
      unfold bW;rw [cP,cR,cR,bZ];omega
     rw [cB h2];refine iteF ⟨_,rfl,z,rfl,zl,_,_,rfl,rfl,_,rfl,?_⟩;by_cases h3:(1:Int)<(z.length:Int)
     ·obtain ⟨c,hc'⟩:∃ c,z.cps.toList[0]?=some c:=⟨_,cr (by omega)⟩;have hc:atI z.cps.toList 0=some c:=cm (j:=0) hc';refine bx (cB h3) ⟨_,rfl,z,0,c,rfl,rfl,zl,hc,rfl,_,rfl,?_⟩;by_cases h4:c=48
      ·refine bx (cB (by rw [h4];rfl)) ?_;rw [num_no (by rw [hc',h4,bZ,cB (show 1<z.length by omega)];simp)] at k;exact k
      ·refine bX (cv λ e=>h4 (by injection e with e;injection e with e;injection e with e;injection e)) ⟨rfl,rfl,hl,?_⟩;rw [hc',cv (show ¬ some c=some 48 from λ e=>h4 (cU e)),Bool.and_false]
     ·refine bX (cv h3) ⟨rfl,rfl,hl,?_⟩;rw [bZ,cv (show ¬ 1<z.length by omega)];rfl
    ·rw [cv h2];refine iteT ?_;rw [num_no (by unfold bW;rw [bZ,cv (show ¬ z.length<=9 by omega)];simp)] at k;exact k
   ·refine bX (cv h1) ⟨_,rfl,iteT ?_⟩;rw [num_no (by unfold bW;rw [bZ,cv (show ¬ 1<=z.length by omega)];simp)] at k;exact k
  rintro σ' H' ⟨rfl,rfl,h1,h2⟩;have h9:=h1;unfold bW at h9;rw [cP,cR,cR,bZ] at h9;refine ⟨_,rfl,_,rfl,?_⟩;refine for_str (λ i σ H=>i<=z.cps.size/\H=H'/\(∃ u,σ=[some (.str z),some (.int (PySem.NumText.digitsVal (z.cps.toList.take i):Nat)),u])/\(z.cps.toList.take i).all bY=true) ⟨da _,rfl,⟨_,rfl⟩,rfl⟩ ?_ ?_
  ·rintro i c σ H2 hc ⟨_,rfl,⟨u,rfl⟩,hf⟩;have hc':z.cps.toList[i]?=some c:=by rw [Array.getElem?_toList];exact hc
   have hi:i<z.cps.size:=(c5.mp hc).1;refine ⟨_,rfl,_,_,rfl,rfl,_,rfl,?_⟩;have ob:=occ_inB "0123456789" c;rw [inB_fig] at ob
   cases fc:bY c with
   | false=>
    rw [fc] at ob;refine bx (by rw [ob];rfl) ?_;rw [num_no (by rw [List.all_eq_false.mpr ⟨c,List.mem_of_getElem? hc',by rw [fc];decide⟩,Bool.and_false])] at k;exact k
   | true=>
    rw [fc] at ob
    have sm:Sm (PySem.NumText.digitsVal (z.cps.toList.take i):Nat):=by
     refine Sm.of_le (n:=40) ?_ (by decide);rw [c9];by_cases i0:i=0
     ·rw [i0,List.take_zero];decide
     ·refine cn (Nat.le_of_lt (val9 (cs:=z.cps.toList.take i) ?_)) (by decide);unfold aw bW;rw [hf,List.length_take,bZ,cB (show 1<=min i z.length by have:z.cps.size=z.length:=rfl;omega),cB (show min i z.length<=9 by omega)];rfl
    refine bX (by rw [ob];rfl) ⟨_,rfl,_,_,rfl,rfl,⟨Sm.of_le (n:=10) (by decide) (by decide),sm⟩,rfl,_,rfl,_,_,c-48,[],rfl,rfl,occ_fig fc,_,_,rfl,rfl,?_⟩
    have ad:PySem.NumText.digitsVal (z.cps.toList.take (i+1))=PySem.NumText.digitsVal (z.cps.toList.take i)*10+(c-48):=by
     rw [List.take_add_one,hc',Option.toList_some,dig_add]
    refine ⟨hi,rfl,⟨some (.str ⟨#[c]⟩),?_⟩,?_⟩
    ·rw [ad];show [_,some (V.int (10*((PySem.NumText.digitsVal (z.cps.toList.take i):Nat):Int)+((c-48:Nat):Int))),_]=_;rw [show (10*((PySem.NumText.digitsVal (z.cps.toList.take i):Nat):Int)+((c-48:Nat):Int))=((PySem.NumText.digitsVal (z.cps.toList.take i)*10+(c-48):Nat):Int) by omega]
    ·rw [List.take_add_one,hc',Option.toList_some,List.all_append,hf];show (true && (bY c && true))=true;rw [fc];rfl
  ·rintro σ H2 ⟨_,rfl,⟨u,rfl⟩,hf⟩;rw [List.take_of_length_le (by rw [cM];exact cy _)] at hf ⊢
   have:aQ z.cps.toList=some (PySem.NumText.digitsVal z.cps.toList):=by
    unfold aQ;rw [h1,h2,hf];rfl
   rw [this] at k;exact ⟨_,rfl,k⟩
theorem at0 {α:Type} {x:α} {xs:List α}:atI (x::xs) 0=some x:=cm (j:=0) rfl
theorem at1 {α:Type} {x y:α} {xs:List α}:atI (x::y::xs) 1=some y:=cm (j:=1) rfl
theorem ix0 {n:Nat}:ixN (n+1) 0=some 0:=by
 unfold ixN;simp
 done
theorem split_cons (z:Str):∃ p r,Txt.split z ⟨#[47]⟩=p::r:=by
 cases hs:Txt.split z ⟨#[47]⟩ with
 | cons p r=>exact ⟨p,r,rfl⟩
 | nil=>
  exfalso
  unfold Txt.split at hs
  split at hs
  ·cases hs
  ·split at hs
   ·cases hs
   ·have:=PySem.length_partsBetween z (Builtin.Str.occurrences z ⟨#[47]⟩ 0 z.length (z.length+1)) (⟨#[47]⟩:Str).length
    rw [hs] at this
    cases this
theorem split_le (z:Str):(Txt.split z ⟨#[47]⟩).length<=z.length+2/\∀ p∈Txt.split z ⟨#[47]⟩,p.length<=z.length:=by
 unfold Txt.split
 split
 ·exact ⟨by simp,λ p hp=>by rw [List.mem_singleton.mp hp];exact cy _⟩
 ·split
  ·exact ⟨by simp,λ p hp=>by rw [List.mem_singleton.mp hp];exact cy _⟩
  ·refine ⟨?_,parts_len⟩;rw [PySem.length_partsBetween]
   have:=occ_len z ⟨#[47]⟩ (z.length+1)
   omega
theorem slice_head (z:Str):Txt.slice z none (some 1)=⟨#[45]⟩↔aI z.cps.toList=true:=by
 unfold aI;rw [cR]
 cases e:z.cps.toList with
 | nil=>
  have:z=Str.empty:=bn e
  rw [this];exact ⟨λ h=>absurd h (by decide),λ h=>by cases h⟩
 | cons c cs=>
  have zl:z.length=cs.length+1:=by show z.cps.size=_;rw [<- cM,e,cH]
  have ei:Builtin.Str.strSliceIndices none (some 1) 1 z.length=[0]:=by
   unfold Builtin.Str.strSliceIndices sliceRange;simp only [show (1:Int) > 0 by decide,if_true,show ¬ (1:Int)<0 by decide,if_false];rw [zl,show max (0:Int) (min 1 ((cs.length+1:Nat):Int))=1 by omega];rfl
  have es:(Txt.slice z none (some 1)).cps.toList=[c]:=by
   unfold Txt.slice;rw [ei]
   split
   ·rename_i h
    have:cs=[]:=by
     rw [zl] at h
     cases cs with
     | nil=>rfl
     | cons _ _=>simp at h
    rw [e,this]
   ·have c0:z.cps[0]?=some c:=by rw [<- Array.getElem?_toList,e];rfl
    rw [List.filterMap_cons,c0];rfl
  show _↔some c=some 45;constructor
  ·intro h;rw [h] at es;exact congrArg some (List.cons.inj es).1.symm
  ·intro h
   cases h;exact bn es
theorem num9 {cs:List Nat} {n:Nat} (h:aQ cs=some n):n<10 ^ 9:=by
 cases e:aw cs with
 | none=>rw [a9 e] at h;cases h
 | some t=>
  rcases bG e with ⟨_,c⟩ | ⟨_,c⟩
  ·rw [c] at h
   cases h;exact val9 e
  ·rw [c] at h
   cases h
theorem in_none:∀ ns:List (Option Nat),inV .non (ns.map nV)=decide (none∈ns)
 | []=>rfl
 | none::ns=>by
  rw [cB cE];rfl
 | some n::ns=>by
  have:=in_none ns
  show (false || inV .non (ns.map nV))=_;rw [this,Bool.false_or];exact decide_eq_decide.mpr ⟨cK _,λ h=>by rcases cQ.mp h with h | h;cases h;exact h⟩
theorem flat_nV (ns:List (Option Nat)):(ns.map nV).all a3=true:=by
 rw [List.all_map,List.all_eq_true];intro o _
 cases o <;> rfl
theorem due_none {b:Bool} {ns:List (Option Nat)} (h:none∈ns):dueN b ns=none:=by
 match ns,h with
 | [none],_=>rfl
 | [some n],h=>cases List.mem_singleton.mp h
 | [none,_],_=>rfl
 | [some n,none],_=>rfl
 | [some n,some m],h=>rcases cQ.mp h with h | h;cases h;cases List.mem_singleton.mp h
 | x::y::u::t,_=>cases x <;> cases y <;> rfl
inductive IspDue (vs:List V) (H:Hp) (Q:VK):Prop
 | mk (z:Str) (h1:vs=[.str z]) (h2:z.length<=30000) (h3:(∀ H',Same H H'->dueP z=none->Q .non H')) (h4:(∀ p x y H',Same H H'->dueP z=some (x,y)->H' p=some (.tup [.int x,.int y])->Q (.ref p) H')):IspDue vs H Q
noncomputable def spDue (K:W.Frag):Sp:=λ vs H Q _=>IspDue vs H Q
theorem ok_law_due (T:TX K mg a):FnB P w K mg base CX0 "_law_due" 2 ["_law_text_here"] (spDue K):=by
 refine T.d_law_due.ok sc_law_due (λ vs H Q E h=>?_) (λ f cdv A outer s H vs Q E hr h=>?_)
 ·obtain ⟨z,rfl,_⟩:=h;rfl
 ·obtain ⟨z,rfl,lz,k,k2⟩:=h
  refine ⟨_,(av (ak (i:=1) sc_law_due.nd rfl (Or.inl rfl) (pe_bm PySem.F.plainAttrs_str PySem.F.slot_str_split PySem.F.type_str_split mt_split (pv 0) (aa aE ae)))
   (av (ak (i:=2) sc_law_due.nd rfl (Or.inl rfl) ac)
   (av (aN (al a7 (aZ bS (aO aR (pv 1) ac (λ _ _=>rfl)) br (a6 ac)) aE (aq _)) (ag (ak (i:=2) sc_law_due.nd rfl (Or.inl rfl) (aj op_sub ac ac))
   (ah (ps_asg (aZ bS (aO aR (pv 1) ac (λ _ _=>rfl)) (a6 ac) br) (pg_sub (pv 1) ac set_list)))) au)
   (av (ps_compG (i:=3) (xs:=["_law_part"]) (rest:=[]) sc_law_due.nd rfl rfl rfl (pi_list (pv 1))
   (λ pins fp C' s' H'=>(ce (i:=0) (show (["_law_part"]:List Str).Nodup by decide +kernel) rfl (Or.inl rfl))) (λ pins fp C' s' H'=>pts_nil)
   (λ pins fp C' s' H'=>(aF (ok_law_number T) hr aG (aa (pv 0) ae)))
   (Clos.none (by decide +kernel) (by decide +kernel)) (Reads.many (ys:=[]) (js:=[]) True.intro))
   (av (aN (PW.pt (pw_or (al op_in_seq a5 (pv 3) (by with_unfolding_all rfl)) (pw_or (al op_gt (ao call_lenK (by rfl) T.z_len PySem.boot_len (aa (pv 3) ae)) ac (aq _)) (pw_or1 (PW.pt (pw_and (al op_lt (pv 2) ac (aq _)) (pw_and1 (al a7 (aO aR (pv 3) ac (λ _ _=>rfl)) ac (aq _))))))))) (ah (am a5)) au)
   (ag (aN (al a7 (ao call_lenK (by rfl) T.z_len PySem.boot_len (aa (pv 3) ae)) ac (aq _)) (ah (am (bT (aa (aj bM (pv 2) (aO aR (pv 3) ac (λ _ _=>rfl))) (aa ac ae))))) au)
   (ag (aN (PW.pt (pw_or (al op_lt (aO aR (pv 3) ac (λ _ _=>rfl)) ac (aq _)) (pw_or1 (al op_ne (aF (bF T) hr aG (aa (aO aR (pv 3) ac (λ _ _=>rfl)) (aa (aO aR (pv 3) ac (λ _ _=>rfl)) ae))) ac (aq _))))) (ah (am a5)) au)
   (ah (am (bT (aa (aj bM (pv 2) (aO aR (pv 3) ac (λ _ _=>rfl))) (aa (aO aR (pv 3) ac (λ _ _=>rfl)) ae)))))))))))),?_⟩
  try dsimp only [aM,Cx.nox,Cx.wish]
  have zl:z.length<=sizeLine:=cn lz (by decide);obtain ⟨p,r,hs⟩:=split_cons z;obtain ⟨sl,sp⟩:=split_le z;have hs':Txt.split z "/"=p::r:=hs
  have hd:dueP z=dueN (aI p.cps.toList) (aQ (aP p.cps.toList)::r.map λ q=>aQ q.cps.toList):=by
   unfold dueP;rw [hs]
  rw [hs] at sl sp;have pl:=sp p cE;have pl':p.length<=sizeLine:=cn pl zl;refine ⟨λ σ' H'=>∃ l,σ'=[some (.str z),some (.ref l),none,none]/\H l=none/\H'=upd H l (.lst ((p::r).map V.str)),?_,?_⟩
  ·refine ⟨_,rfl,rfl,z,"/",rfl,rfl,by decide,zl,by rw [hs',cL];omega,λ l nl=>?_⟩;rw [hs'];exact ⟨l,rfl,nl,rfl⟩
  rintro σ' H' ⟨l,rfl,nl,rfl⟩;refine ⟨λ σ' H'=>σ'=[some (.str z),some (.ref l),some (.int 1),none]/\H'=upd H l (.lst ((p::r).map V.str)),⟨rfl,rfl⟩,?_⟩;rintro σ' H' ⟨rfl,rfl⟩;refine ⟨λ σ' H'=>∃ p':Str,σ'=[some (.str z),some (.ref l),some (.int (if aI p.cps.toList=true then -1 else 1)),none]/\Same H H'/\H' l=some (.lst ((p'::r).map V.str))/\p'.cps.toList=aP p.cps.toList/\p'.length<=z.length,?_,?_⟩
  ·refine ⟨_,rfl,l,_,0,_,rfl,rfl,SqL.of ai,at0,1,rfl,p,rfl,pl',rfl,_,rfl,?_⟩
   cases hb:aI p.cps.toList with
   | true=>
    refine bx (cB (congrArg V.str ((slice_head p).mpr hb))) ⟨_,_,rfl,rfl,?_⟩;refine ⟨_,rfl,l,_,0,_,rfl,rfl,SqL.of ai,at0,1,rfl,p,rfl,pl',_,rfl,l,_,0,0,rfl,rfl,ai,ix0,Txt.slice p (some 1) none,rfl,b5 nl (ax nl),ai,?_,cn (Txt.slice_le p _ _) pl⟩;rw [bo];unfold aP;rw [if_pos hb]
   | false=>
    refine bX (cv λ e=>?_) ⟨p,rfl,ax nl,ai,?_,pl⟩
    ·rw [(slice_head p).mp (V.str.inj e)] at hb
     cases hb
    ·unfold aP;rw [if_neg (by rw [hb];decide)]
  rintro σ' H1 ⟨p',rfl,s1,h1,ep,lp⟩;generalize hns:(p'::r).map (λ q=>aQ q.cps.toList)=ns
  have hd:dueP z=dueN (aI p.cps.toList) ns:=by
   rw [hd,<- hns,List.map_cons,ep]
  have ne:ns≠[]:=by rw [<- hns];exact List.cons_ne_nil _ _
  have n9:∀ n,some n∈ns->n<10 ^ 9:=λ n hn=>by
   rw [<- hns] at hn;obtain ⟨q,_,e⟩:=List.mem_map.mp hn;exact num9 e
  have ll:(p'::r).length<=30002:=by rw [cH] at sl ⊢;omega
  refine ⟨λ σ' H'=>∃ q,σ'=[some (.str z),some (.ref l),some (.int (if aI p.cps.toList=true then -1 else 1)),some (.ref q)]/\Same H H'/\H' q=some (.lst (ns.map nV)),?_,?_⟩
  ·refine ⟨_,rfl,l,rfl,⟨_,SqL.of h1⟩,λ q nq=>?_⟩;refine compG_list (K:=K) (a:=l) (xs:=(p'::r).map V.str) (λ i H2=>i<=(p'::r).length/\Same H1 H2/\H2 q=some (.lst ((ns.take i).map nV))) ⟨da _,ax nq,ai⟩ (λ i H2 ⟨_,s2,_⟩=>SqL.of (s2 _ _ h1)) ?_ ?_
   ·rintro i x H2 hx ⟨_,s2,h2⟩;rw [List.getElem?_map] at hx
    cases ex:(p'::r)[i]? with
    | none=>rw [ex] at hx;cases hx
    | some n=>
     rw [ex] at hx
     cases hx;have hi:=(cI.mp ex).1
     have nl:n.length<=z.length:=by
      rcases cQ.mp (List.mem_of_getElem? ex) with rfl | hm
      ·exact lp
      ·exact sp n (cK _ hm)
     have en:ns[i]?=some (aQ n.cps.toList):=by rw [<- hns,List.getElem?_map,ex];rfl
     refine g1 ⟨⟨[_],rfl,rfl⟩,yes ?_⟩;refine ⟨_,rfl,n,rfl,by omega,_,h2,by rw [cA,List.length_take,cL];omega,nextP (by rw [cA];exact hi) ⟨hi,b5 nq s2,?_⟩⟩;rw [ai,List.take_add_one,en,Option.toList_some,List.map_append];rfl
   ·rintro H2 ⟨_,s2,h2⟩;rw [List.take_of_length_le (by rw [<- hns,cA,cA];exact cy _)] at h2;exact ⟨q,rfl,s1.trans s2,h2⟩
  rintro σ' H2 ⟨q,rfl,s2,h2⟩;have sq:=SqL.of (K:=K) h2;obtain ⟨sd,esd⟩:∃ sd:Int,(if aI p.cps.toList=true then (-1:Int) else 1)=sd:=⟨_,rfl⟩
  have sdc:(aI p.cps.toList=true/\sd = -1)∨(aI p.cps.toList=false/\sd=1):=by
   rw [<- esd]
   cases aI p.cps.toList
   ·exact .inr ⟨rfl,rfl⟩
   ·exact .inl ⟨rfl,rfl⟩
  rw [esd];generalize hbb:aI p.cps.toList=bb at sdc hd;refine ⟨λ σ' H'=>σ'=[some (.str z),some (.ref l),some (.int sd),some (.ref q)]/\H'=H2/\∃ n,(ns=[some n]∨∃ m,ns=[some n,some m])/\¬ (bb=true/\n=0),?_,?_⟩
  ·refine ⟨_,rfl,q,_,rfl,.inl sq,rfl,flat_nV ns,_,rfl,?_⟩;show if inV .non (ns.map nV)=true then _ else _
   rw [in_none];by_cases hn:none∈ns
   ·exact bx (cB hn) (k H2 s2 (by rw [hd,due_none hn]))
   refine bX (cv hn) ⟨_,rfl,q,_,rfl,.inl sq,_,_,rfl,rfl,_,rfl,?_⟩;rw [cA]
   obtain ⟨n,t,et⟩:∃ n t,ns=some n::t:=by
    match ns,ne,hn with
    | [],ne,_=>exact absurd rfl ne
    | none::_,_,hn=>exact absurd cE hn
    | some n::t,_,_=>exact ⟨n,t,rfl⟩
   by_cases l2:(2:Int)<(ns.length:Int)
   ·refine bx (cB l2) (k H2 s2 ?_);rw [hd]
    match ns,l2 with
    | [],l2=>exact absurd l2 (by decide)
    | [_],l2=>exact absurd (show (2:Int)<((1:Nat):Int) from l2) (by decide)
    | [_,_],l2=>exact absurd (show (2:Int)<((2:Nat):Int) from l2) (by decide)
    | x::y::u::t,_=>cases x <;> cases y <;> rfl
   have et2:ns=[some n]∨∃ m,ns=[some n,some m]:=by
    match t,et with
    | [],et=>exact .inl et
    | [some m],et=>exact .inr ⟨m,et⟩
    | none::_,et=>exact absurd (by rw [et];simp) hn
    | some m::o::t,et=>exact absurd (by rw [et];show (2:Int)<((t.length+1+1+1:Nat):Int);omega) l2
   have sq0:=sq;rw [et,List.map_cons] at sq0;refine bX (cv l2) ⟨_,rfl,_,_,rfl,rfl,_,rfl,?_⟩;rcases sdc with ⟨hb,rfl⟩ | ⟨hb,rfl⟩
   ·refine bx rfl ⟨_,rfl,q,_,0,_,rfl,rfl,sq0,at0,rfl,_,rfl,ifV (λ e=>k H2 s2 ?_) (λ e=>⟨rfl,rfl,n,et2,λ h=>e (by rw [h.2];rfl)⟩)⟩;have n0:n=0:=by omega
    rw [hd];rcases et2 with et | ⟨m,et⟩
    ·rw [et];exact if_pos ⟨hb,n0⟩
    ·rw [et];exact if_pos ⟨hb,n0⟩
   ·exact bX rfl ⟨rfl,rfl,n,et2,λ h=>by rw [hb] at h;cases h.1⟩
  rintro σ' H3 ⟨rfl,rfl,n,et,nb⟩;have ssd:Sm sd:=Sm.of_le (n:=10) (by rcases sdc with ⟨_,rfl⟩ | ⟨_,rfl⟩ <;> decide) (by decide);have n9':=n9 n (by rcases et with et | ⟨m,et⟩ <;> rw [et] <;> exact cE);have sn:Sm (n:Int):=Sm.of_le (n:=40) (by rw [c9];exact cn (Nat.le_of_lt n9') (by decide)) (by decide)
  have emul:sd*(n:Int)=sI bb n:=by
   unfold sI;rcases sdc with ⟨hb,rfl⟩ | ⟨hb,rfl⟩ <;> rw [hb] <;> simp
  rcases et with et | ⟨m,et⟩
  ·have hd:dueP z=some (sI bb n,1):=by
    rw [hd,et];exact if_neg nb
   rw [et] at sq;refine ⟨_,rfl,q,_,rfl,.inl sq,rfl,_,rfl,bx rfl ?_⟩;refine ⟨_,rfl,_,rfl,q,_,0,_,rfl,rfl,sq,at0,_,_,rfl,rfl,⟨ssd,sn⟩,zL2,λ t nt=>?_⟩;exact k2 t _ _ _ (s2.trans (ax nt)) hd (by rw [ai,<- emul])
  ·have m9:=n9 m (by rw [et];simp)
   have hd:dueP z=if m<2∨Nat.gcd n m≠1 then none else some (sI bb n,(m:Int)):=by
    rw [hd,et];exact if_neg nb
   rw [et] at sq;refine ⟨_,rfl,q,_,rfl,.inl sq,rfl,_,rfl,bX rfl ?_⟩;refine ⟨_,rfl,q,_,1,_,rfl,rfl,sq,at1,_,_,rfl,rfl,_,rfl,?_⟩;by_cases m2:(m:Int)<2
   ·exact bx (cB m2) (k _ s2 (by rw [hd,if_pos (Or.inl (by omega))]))
   refine bX (cv m2) ⟨_,rfl,q,_,0,_,rfl,rfl,sq,at0,_,rfl,q,_,1,_,rfl,rfl,sq,at1,n,m,rfl,by omega,λ H4 s4=>?_⟩;refine ⟨rfl,_,rfl,?_⟩;have eg:gcd n m=(Nat.gcd n m:Nat):=rfl;by_cases g1:Nat.gcd n m=1
   ·refine iteNS (by rw [eg,g1];rfl) ?_;have sq4:=s4.seq sq;refine ⟨_,rfl,_,rfl,q,_,0,_,rfl,rfl,sq4,at0,_,_,rfl,rfl,⟨ssd,sn⟩,_,rfl,q,_,1,_,rfl,rfl,sq4,at1,zL2,λ t nt=>?_⟩;exact k2 t _ _ _ ((s2.trans s4).trans (ax nt)) (by rw [hd,if_neg (λ h=>h.elim (by omega) (λ h=>h g1))]) (by rw [ai,<- emul];rfl)
   ·refine bx (by rw [eg,cv (λ e=>g1 (by have:=V.int.inj e;omega))];rfl) ?_;exact k _ (s2.trans s4) (by rw [hd,if_pos (Or.inr g1)])
inductive IspTold (vs:List V) (H:Hp) (Q:VK):Prop
 | mk (z:Str) (h1:vs=[.str z]) (h2:z.length<=30000) (h3:(∀ p H',Same H H'->aY z=none->H' p=some (.tup [.bl true,.non])->Q (.ref p) H')) (h4:(∀ p q x H',Same H H'->aY z=some x->H' q=some (.tup [.int x.num,.int x.den])->H' p=some (.tup [.bl true,.ref q])->Q (.ref p) H')):IspTold vs H Q
noncomputable def spTold (a:Ad):Sp:=λ vs H Q _=>IspTold vs H Q
theorem ok_law_told (T:TX K mg a):FnB P w K mg base CX0 "_law_told" 5 ["_law_text_here"] (spTold a):=by
 refine T.d_law_told.ok sc_law_told (λ vs H Q E h=>?_) (λ f cdv A outer s H vs Q E hr h=>?_)
 ·obtain ⟨z,rfl,_⟩:=h;rfl
 ·obtain ⟨z,rfl,lz,k,k2⟩:=h
  refine ⟨_,(av (ak (i:=1) sc_law_told.nd rfl (Or.inl rfl) a5)
   (av (ak (i:=2) sc_law_told.nd rfl (Or.inl rfl) a5)
   (av (ps_try (pssx_one (psx_set (i:=2) sc_law_told.nd rfl (Or.inl rfl) (px_fn (cg T) hr (aa (pv 0) ae)))) (ph_as (i:=3) (by rfl) T.mg_GainError ⟨T.ca1_GainError,T.ca2_GainError,T.ca3_GainError⟩ sc_law_told.nd rfl rfl (λ x=>(ah (ak (i:=1) sc_law_told.nd rfl (Or.inl rfl) (pv 3)))) ph_never))
   (ag (aN (al op_notN (pv 1) a5 (aq _)) (ag (ak (i:=4) sc_law_told.nd rfl (Or.inl rfl) (pe_and (ao (a4 (c:=.ref a.NoText)) (by rfl) T.z_isinstance cG (aa (pv 1) (aa (aX (v:=.ref a.NoText) (by rfl) T.mg_NoText rfl) ae))) (bU (ao (a4 (c:=.type "ValueError")) (by rfl) T.z_isinstance cG (aa (pv 1) (aa (pe_bltn (v:=.ty "ValueError") (by rfl) T.z_ValueError boot_ValueError rfl) ae))))))
   (ag (ak (i:=5) sc_law_told.nd rfl (Or.inl rfl) (pe_or (ao (a4 (c:=.ref a.NoNumber)) (by rfl) T.z_isinstance cG (aa (pv 1) (aa (aX (v:=.ref a.NoNumber) (by rfl) T.mg_NoNumber rfl) ae))) (pe_or (ao (a4 (c:=.ref a.NoRow)) (by rfl) T.z_isinstance cG (aa (pv 1) (aa (aX (v:=.ref a.NoRow) (by rfl) T.mg_NoRow rfl) ae))) (bU (ao (a4 (c:=.ref a.TooMany)) (by rfl) T.z_isinstance cG (aa (pv 1) (aa (aX (v:=.ref a.TooMany) (by rfl) T.mg_TooMany rfl) ae)))))))
   (ag (ak (i:=5) sc_law_told.nd rfl (Or.inl rfl) (pe_or (pv 5) (pe_or (ao (a4 (c:=.ref a.NoRing)) (by rfl) T.z_isinstance cG (aa (pv 1) (aa (aX (v:=.ref a.NoRing) (by rfl) T.mg_NoRing rfl) ae))) (pe_or (ao (a4 (c:=.ref a.NoStrand)) (by rfl) T.z_isinstance cG (aa (pv 1) (aa (aX (v:=.ref a.NoStrand) (by rfl) T.mg_NoStrand rfl) ae))) (bU (ao (a4 (c:=.ref a.NoExchange)) (by rfl) T.z_isinstance cG (aa (pv 1) (aa (aX (v:=.ref a.NoExchange) (by rfl) T.mg_NoExchange rfl) ae))))))))
   (ah (am (bT (aa (pe_and (pv 4) (bU (pe_not (pv 5)))) (aa a5 ae)))))))) au)
   (ag (ak (i:=6) sc_law_told.nd rfl (Or.inl rfl) (aF (ok_law_pair T) hr aG (aa (pv 2) ae)))
   (ah (am (bT (aa (pe_cmpR op_notN (pv 6) a5 (aq _)) (aa (pv 6) ae)))))))))),?_⟩
  try dsimp only [aM,Cx.nox,Cx.wish]
  refine ⟨λ σ' H'=>σ'=[some (.str z),some .non,none,none,none,none,none]/\H'=H,⟨rfl,rfl⟩,?_⟩;rintro σ' H' ⟨rfl,rfl⟩;refine ⟨λ σ' H2=>σ'=[some (.str z),some .non,some .non,none,none,none,none]/\H2=H',⟨rfl,rfl⟩,?_⟩;rintro σ' H2 ⟨rfl,rfl⟩
  cases hr:aY z with
  | none=>
   refine ⟨λ σ' H'=>∃ x,σ'=[some (.str z),some (.ref x),some .non,none,none,none,none]/\Same H2 H'/\XAt H' x a.NoText,?_,?_⟩
   ·refine ⟨_,rfl,z,rfl,by omega,λ x r H' hx=>(by rw [hr] at hx;cases hx),λ _ H' s'=>?_⟩;exact ⟨_,_,rfl,T.su_NoText_GainError,iteT λ x nx=>⟨_,rfl,x,rfl,s'.trans (ax nx),ai⟩⟩
   rintro σ' H3 ⟨x,rfl,s3,hx⟩;have ea:=T.exa_NoText;refine ⟨_,rfl,rfl,_,rfl,bx rfl ?_⟩;refine ⟨_,rfl,x,a.NoText,_,true,rfl,(λ u h=>h),hx,ea,T.k_NoText_NoText,_,rfl,iteT ⟨_,rfl,x,a.NoText,_,true,rfl,(λ u h=>h),hx,ea,T.k_NoText_ValueError,?_⟩⟩;refine ⟨_,rfl,x,a.NoText,_,false,rfl,(λ u h=>h),hx,ea,T.k_NoText_NoNumber,_,rfl,iteF ⟨_,rfl,x,a.NoText,_,false,rfl,(λ u h=>h),hx,ea,T.k_NoText_NoRow,_,rfl,iteF ⟨_,rfl,x,a.NoText,_,false,rfl,(λ u h=>h),hx,ea,T.k_NoText_TooMany,?_⟩⟩⟩;refine ⟨_,rfl,_,rfl,iteF ⟨_,rfl,x,a.NoText,_,false,rfl,(λ u h=>h),hx,ea,T.k_NoText_NoRing,_,rfl,iteF ⟨_,rfl,x,a.NoText,_,false,rfl,(λ u h=>h),hx,ea,T.k_NoText_NoStrand,_,rfl,iteF ⟨_,rfl,x,a.NoText,_,false,rfl,(λ u h=>h),hx,ea,T.k_NoText_NoExchange,?_⟩⟩⟩⟩;refine ⟨_,rfl,_,rfl,iteT ⟨_,rfl,_,rfl,zL2,λ q nq=>?_⟩⟩;exact k q _ (s3.trans (ax nq)) hr ai
  | some x=>
   refine ⟨λ σ' H'=>∃ r,σ'=[some (.str z),some .non,some (.ref r),none,none,none,none]/\Same H2 H'/\FrAt a.Fraction H' r x,?_,?_⟩
   ·refine ⟨_,rfl,z,rfl,by omega,λ y r H' hy nr s' hf=>?_,λ h=>by rw [hr] at h;cases h⟩;rw [hr] at hy
    cases hy;exact ⟨r,rfl,s',hf⟩
   rintro σ' H3 ⟨r,rfl,s3,hf⟩;refine ⟨_,rfl,rfl,_,rfl,bX rfl ⟨_,rfl,r,x,rfl,hf,λ t nt=>?_⟩⟩;refine ⟨_,rfl,rfl,_,rfl,zL2,λ q nq=>?_⟩;have s4:=ax (o:=.tup [.int x.num,.int x.den]) nt;have s5:=ax (o:=.tup [.bl true,.ref t]) nq;exact k2 q t x _ ((s3.trans s4).trans s5) hr (s5 _ _ ai) ai
theorem cut26 (ns:List Int):∃ ms:List Int,cutV (ns.map V.int) (some 1) (some 27)=ms.map V.int/\ms.length<=26:=⟨(ns.drop (min 1 (ns.map V.int).length)).take (min 27 (ns.map V.int).length-min 1 (ns.map V.int).length),by rw [show cutV (ns.map V.int) (some 1) (some 27)=_ from cut_both 1 27,List.map_take,List.map_drop],by rw [List.length_take];omega⟩
structure Bt (i:Int):Prop where
 le:Builtin.Int.intBits i<=2 ^ 20
noncomputable def DueAt (z:Str) (d:Addr) (H:Hp):Prop:=(aY z=none/\H d=some (.tup [.bl true,.non]))∨∃ (x:Rat) (p:Addr),aY z=some x/\H p=some (.tup [.int x.num,.int x.den])/\H d=some (.tup [.bl true,.ref p])
theorem DueAt.mono {z:Str} {d:Addr} {H H':Hp} (h:DueAt z d H) (s:Same H H'):DueAt z d H':=by
 rcases h with ⟨a,b⟩ | ⟨x,p,a,b,c⟩
 ·exact .inl ⟨a,s _ _ b⟩
 ·exact .inr ⟨x,p,a,s _ _ b,s _ _ c⟩
noncomputable def rEqT (K:W.Frag):R2:=λ x y H Q=>∃ p q xs ys,x=.ref p/\y=.ref q/\SqT K H p xs/\SqT K H q ys/\xs.length=ys.length/\(∀ (j:Nat) (x y:V),xs[j]?=some x->ys[j]?=some y->EqD K H 20 x y)/\Q (.bl true) H
theorem eqd2 {H:Hp} {n:Nat} {x y x' y':V} (h1:EqD K H n x x') (h2:EqD K H n y y'):∀ (j:Nat) (u v:V),[x,y][j]?=some u->[x',y'][j]?=some v->EqD K H n u v
 | 0,u,v,a,b=>by cases a;cases b;exact h1
 | 1,u,v,a,b=>by cases a;cases b;exact h2
 | j+2,u,v,a,b=>by cases a
inductive IspLaw (K:W.Frag) (vs:List V) (H:Hp) (Q:VK):Prop
 | mk (l:Addr) (ns:List Int) (h1:vs=[.ref l]) (h2:SqL K H l (ns.map V.int)) (h3:ns.length<=63) (h4:(∀ i∈ns,Bt i)) (h5:∀ H',Q (.bl true) H'):IspLaw K vs H Q
noncomputable def spLaw (K:W.Frag):Sp:=λ vs H Q _=>IspLaw K vs H Q
theorem ok_law {f:Addr} {fd:FuncData} (N:Fun K "law" "law" s_law f fd) (T:TX K mg a):FnOk P w K mg base CX0 8 f fd ["_law_script"] (spLaw K):=by
 refine N.ok sc_law (λ vs H Q E h=>?_) (λ cdv A outer s H vs Q E hr h=>?_)
 ·obtain ⟨l,ns,rfl,_⟩:=h;rfl
 ·obtain ⟨l,ns,rfl,hS,_,_,k⟩:=h
  refine ⟨_,(av (aN (al a7 (aj aH (aF (aA T) hr aG (aa (pv 0) (aa ac ae))) ac) ac (aq _)) (ah (ak (i:=1) sc_law.nd rfl (Or.inl rfl) (aF (ok_law_written T) hr aG (aa (pv 0) ae)))) (ah (ak (i:=1) sc_law.nd rfl (Or.inl rfl) (pe_bm PySem.F.plainAttrs_str PySem.F.slot_str_join PySem.F.type_str_join mt_join aE (aa (pe_compG (xs:=["_law_cell"]) (rest:=[]) rfl (pi_list (aZ sl_list (pv 0) (a6 ac) (a6 ac)))
   (λ pins fp C' s' H'=>(ce (i:=0) (show (["_law_cell"]:List Str).Nodup by decide +kernel) rfl (Or.inl rfl))) (λ pins fp C' s' H'=>pts_nil)
   (λ pins fp C' s' H'=>(aF (ok_law_figure T) hr aG (aa (pv 0) ae)))
   (Clos.none (by decide +kernel) (by decide +kernel)) (Reads.many (ys:=[]) (js:=[]) True.intro)) ae)))))
   (av (ak (i:=2) sc_law.nd rfl (Or.inl rfl) (bT (aa pe_bl (aa (aF (ok_law_due T) hr aG (aa (pv 1) ae)) ae))))
   (ah (am (pe_and (pe_cmpR (op_eqDT hr.units) (aF (ok_law_told T) hr aG (aa (pv 1) ae)) (pv 2) (aq _)) (bU (pe_cmpR (op_eqDT hr.units) (aF (ok_law_told T) hr aG (aa (pv 1) ae)) (pv 2) (aq _)))))))),?_⟩
  try dsimp only [aM,Cx.nox,Cx.wish]
  refine ⟨λ σ' H'=>∃ z,σ'=[some (.ref l),some (.str z),none]/\Same H H'/\z.length<=30000,?_,?_⟩
  ·refine ⟨_,rfl,l,ns,0,rfl,hS,_,_,rfl,rfl,zI2,rfl,_,rfl,ifV (λ _=>?_) (λ _=>?_)⟩
   ·exact ⟨_,rfl,l,ns,rfl,hS,λ z H' lz s'=>⟨z,rfl,s',lz⟩⟩
   ·refine ⟨rfl,?_⟩;refine ⟨_,rfl,_,rfl,_,rfl,l,_,rfl,hS,λ q nq=>?_⟩;obtain ⟨ms,hms,lms⟩:=cut26 ns;obtain ⟨H1,zq,s1,hq⟩:=uG (o:=.lst (cutV (ns.map V.int) (some 1) (some 27))) nq;rw [zq];rw [hms] at hq;refine ⟨q,rfl,⟨_,SqL.of hq⟩,λ t nt=>?_⟩;refine compG_list (K:=K) (a:=q) (xs:=ms.map V.int) (λ i H2=>Same H1 H2/\∃ xs:List Str,H2 t=some (.lst (xs.map V.str))/\xs.length=i/\i<=26/\∀ y∈xs,y.length<=20) ⟨ax nt,[],ai,rfl,by decide,λ y hy=>by cases hy⟩ (λ i H2 ⟨s2,_⟩=>SqL.of (s2 _ _ hq)) ?_ ?_
    ·rintro i x H2 hx ⟨s2,xs,h2,lx,l26,hy⟩;have hi:=(cI.mp hx).1;have hi':=hi;rw [cA] at hi';obtain ⟨c,_,rfl⟩:=List.mem_map.mp (List.mem_of_getElem? hx);refine g1 ⟨⟨[_],rfl,rfl⟩,yes ?_⟩;refine ⟨_,rfl,c,rfl,λ y ly=>⟨_,h2,by rw [cA,cL];omega,nextP hi ⟨b5 nt s2,xs++[y],?_,by rw [cZ,lx];rfl,by omega,λ u hu=>?_⟩⟩⟩
     ·rw [ai,List.map_append];rfl
     ·rcases List.mem_append.mp hu with hu | hu
      ·exact hy u hu
      ·rw [List.mem_singleton.mp hu];exact ly
    ·rintro H2 ⟨s2,xs,h2,lx,l26,hy⟩;have gl:=glued_len "" 20 xs hy;have gl2:xs.length*(20+("":Str).length)<=26*20:=Nat.mul_le_mul (by omega) (by decide);refine ⟨_,t,xs,rfl,rfl,SqL.of h2,λ y h=>cn (hy y h) (by decide),by decide,by omega,?_,_,rfl,s1.trans s2,?_⟩
     ·rw [cL];omega
     ·omega
  rintro σ' H1 ⟨z,rfl,s1,lz⟩;refine ⟨λ σ' H'=>∃ d,σ'=[some (.ref l),some (.str z),some (.ref d)]/\DueAt z d H',?_,?_⟩
  ·have dr:=due_read z;refine ⟨_,rfl,z,rfl,lz,λ H' s' e=>⟨zL2,λ d nd=>⟨d,rfl,.inl ⟨?_,ai⟩⟩⟩,λ p x y H' s' e hp=>⟨zL2,λ d nd=>⟨d,rfl,.inr ?_⟩⟩⟩
   ·rw [e] at dr
    cases hr:aY z with
    | none=>rfl
    | some x=>rw [hr] at dr;cases dr
   ·rw [e] at dr
    cases hr:aY z with
    | none=>rw [hr] at dr;cases dr
    | some u=>
     rw [hr] at dr
     cases dr;exact ⟨u,p,rfl,ax nd _ _ hp,ai⟩
  rintro σ' H2 ⟨d,rfl,hd⟩
  have one:∀ (H0:Hp) (R:VK),Same H2 H0->(∀ H',Same H0 H'->R (.bl true) H')->tOp (rEqT K) (tCall (spTold a) [] E0 (tCons (tVar 1) tNil)) (tVar 2) [some (.ref l),some (.str z),some (.ref d)] H0 R:=λ H0 R s0 r=>by
   refine ⟨_,rfl,z,rfl,lz,λ p H' s' e hp=>?_,λ p q x H' s' e hq hp=>?_⟩
   ·rcases hd.mono (s0.trans s') with ⟨_,h⟩ | ⟨x,_,h,_⟩
    ·exact ⟨_,rfl,p,d,_,_,rfl,rfl,SqT.of hp,SqT.of h,rfl,eqd2 (.flat rfl) (.flat rfl),r _ s'⟩
    ·rw [e] at h
     cases h
   ·rcases hd.mono (s0.trans s') with ⟨h,_⟩ | ⟨x',p',h,h1,h2⟩
    ·rw [e] at h
     cases h
    ·rw [e] at h
     cases h;exact ⟨_,rfl,p,d,_,_,rfl,rfl,SqT.of hp,SqT.of h2,rfl,eqd2 (.flat rfl) (.tup (n:=19) (SqT.of hq) (SqT.of h1) rfl (eqd2 (.flat rfl) (.flat rfl))),r _ s'⟩
  exact one H2 (λ x H3=>∃ c,x=.bl c/\if c=true then tOp (rEqT K) (tCall (spTold a) [] E0 (tCons (tVar 1) tNil)) (tVar 2) [some (.ref l),some (.str z),some (.ref d)] H3 Q else Q (.bl false) H3) (Same.refl _) λ H3 s3=>⟨_,rfl,iteT (one H3 Q s3 λ H4 _=>k H4)⟩
end
end G
namespace G
open PySem L2
theorem ln1 {α:Type} {P:List α->Prop} (h:∀ a,P [a]):∀ us:List α,us.length=1->P us
 | [a],_=>h a
theorem ln2 {α:Type} {P:List α->Prop} (h:∀ a b,P [a,b]):∀ us:List α,us.length=2->P us
 | [a,b],_=>h a b
theorem ln3 {α:Type} {P:List α->Prop} (h:∀ a b c,P [a,b,c]):∀ us:List α,us.length=3->P us
 | [a,b,c],_=>h a b c
section
variable {K:W.Frag} {h:Heap} {mg:Str->Option Value} {x qual:Str} {st:Stmt} {f C T:Addr} {fd:FuncData} {ps:List Str} {ds:Array Value} {oc:Value} {od an:Option Addr} {osl:Array (Option Value)} {kV doc pm cdv ct:Value}
noncomputable def BA (x qual:Str) (st:Stmt) (ps:List Str) (us:List Value):Prop:=∀ (kV doc pm:Value) (an:Option Addr) (cdv ct:Value),bindArgs (W.fnOf x qual (aT st) (aB st) (af st) .none kV doc pm an cdv ct) ⟨us,[]⟩=pure (ps.zip us)
noncomputable def BE (x qual:Str) (st:Stmt) (ps:List Str) (ds:Array Value) (es us:List Value):Prop:=∀ (T:Addr) (kV doc pm:Value) (an:Option Addr) (cdv ct:Value),∃ k,bindArgs (W.fnOf x qual (aT st) (aB st) (af st) (.ref T) kV doc pm an cdv ct) ⟨us,[]⟩=seqItems? (.ref T) >>= k/\k (some ds)=pure (ps.zip (us++es))
theorem bi (N:Fun K x qual st f fd) (b:∀ us:List Value,us.length=ps.length->BA x qual st ps us):Binds K fd ps []:=N.binds λ kV doc pm an cdv ct us hl=>b us hl kV doc pm an cdv ct
theorem biD {es:List Value} {n:Nat} (N:FunD K x qual st f fd ds) (e:n+es.length=ps.length) (b:∀ us:List Value,us.length=n->BE x qual st ps ds es us):Binds K fd ps es:=N.binds λ T kV doc pm an cdv ct us hl=>b us (by rw [cZ] at hl;omega) T kV doc pm an cdv ct
theorem mD (X:K.In h) (G:h.Ns mainGlobals mg) (a:W.nsIn K mainGlobals x=some (some (.ref f))) (N:Fun K x x st f fd) (b:∀ us:List Value,us.length=ps.length->BA x x st ps us):FDe K mg x st ps:=⟨_,_,N,W.mg_of X G a,bi N b⟩
theorem mM (a:W.findIn K (.ref C) x=some (some (.ref f))) (N:Fun K x qual st f fd) (i:W.isFn K (.ref f)=true) (b:∀ us:List Value,us.length=ps.length->BA x qual st ps us):MDe K C x qual st ps:=⟨_,_,N,⟨a,i,N.kp⟩,bi N b⟩
theorem mJ {dvss:List (List V)} (a:W.findIn K (.ref C) "__init__"=some (some (.ref f))) (N:FunD K "__init__" qual st f fd ds) (m:W.makesIn K C=true) (i:W.isFn K (.ref f)=true) (k:W.keepIn K (.ref C)=true) (b:FunD K "__init__" qual st f fd ds->∀ dvs∈dvss,∃ es,Vals dvs es/\Binds K fd ps es):IDe K C qual st ps dvss:=⟨_,_,N.gen,⟨m,a,i,k⟩,b N⟩
theorem all0 {P:List V->Prop}:∀ d∈([]:List (List V)),P d:=λ _ h=>nomatch h
theorem all1 {P:List V->Prop} {d:List V} {r:List (List V)} (h:P d) (k:∀ d∈r,P d):∀ e∈d::r,P e:=λ e he=>by
 rcases cQ.mp he with rfl | q
 ·exact h
 ·exact k e q
theorem mE0 {cd:ClassData} (a:W.clsIn K C=some cd):∃ cd,W.clsIn K C=some cd:=⟨_,a⟩
theorem mGi {v:Int} {t:Tok} (X:K.In h) (G:h.Ns mainGlobals mg) (a:W.nsIn K mainGlobals x=some (some (.int v t))):∃ tk,mg x=some (.int v tk):=⟨_,W.mg_of X G a⟩
theorem mGs {v:Str} {t:Tok} (X:K.In h) (G:h.Ns mainGlobals mg) (a:W.nsIn K mainGlobals x=some (some (.str v t))):∃ tk,mg x=some (.str v tk):=⟨_,W.mg_of X G a⟩
end
theorem top {l:W.OpenLaw} {w:World} {K:W.Frag} {mg:Str->Option Value} {fa A0 A1 A2 A3 A4 A5 A6 A7 A8:Addr} (hfa:mg "law"=some (.ref fa)) (T:TX K mg ⟨A0,A1,A2,A3,A4,A5,A6,A7,A8⟩) :
  ∃ fd:FuncData,(∀ (s:Shared) (v:Value),BindsTo s fd ⟨[v],[]⟩ [("_law_script",v)])/\∀ base:Heap,K.In base->base.Ns mainGlobals mg->FnOk l.prog w K mg base CX0 8 fa fd ["_law_script"] (spLaw K):=by
 obtain ⟨f,fd,N,e,_⟩:=T.d_law
 cases hfa.symm.trans e;obtain ⟨oc,od,kV,doc,pm,an,cdv,ct,osl,rfl,_,_⟩:=N.ex;exact ⟨_,λ s v=>.of_eq rfl,λ base _ _=>ok_law N T⟩
theorem walkL {l:PySem.W.OpenLaw} {q:Program} {loose:List Str} {XP:(Str->Option Value)->Heap->Prop} {YP:World->Heap->Prop} {d:DefRec} {K:Params->W.Frag} (hn:l.most=some 63) (hdf:d.params.defaults=[])
  (hY:∀ (w:World) (h:Heap),YP w h->(K w.params).In h)
  (F:∀ (w:World) (mg:Str->Option Value) (fa:Addr) (h:Heap),(K w.params).In h->h.Ns mainGlobals mg->mg d.name=some (.ref fa)->
   ∃ fd:FuncData,(∀ (s:Shared) (u:Value),BindsTo s fd ⟨[u],[]⟩ [("_law_script",u)])/\∀ base:Heap,(K w.params).In base->base.Ns mainGlobals mg->FnOk l.prog w (K w.params) mg base CX0 8 fa fd ["_law_script"] (spLaw (K w.params))) :
  PySem.W.WalkO q loose XP YP l.row.toRowW d [] (λ f vs=>PySem.call f vs):=
 L2.walk_ofB (n:=63) (k:=8) (x:="_law_script") (CX:=λ _=>CX0) (sp:=λ w=>spLaw (K w.params)) hn (by decide) hdf ⟨rfl,by decide,by decide⟩ hY F (λ _ _ a ns hl hb _ hS=>⟨a,ns,rfl,hS,hl,λ i hi=>⟨hb i hi⟩,λ _=>rfl⟩) λ _ _ _ _ _ z=>z
end G
inductive PySem.W.Fast:Prop | tw12362738428561283693 | tw11828104133544045611 | tw17131794542247201590 | tw17129184558387363581 | tw12599198321660474302 | tw2234630793528060199 | tw649252079704180194 | tw8319318442868172710 | tw14431831267237472418 | tw4386868391146653664 | tw8179800934990484973 | tw4427480847601884871 | tw4456977907780516919 | tw14846434124504763775 | tw5181318920354783006 | tw11480673261334487282 | tw996460854653400216 | tw4567309848902304956 | tw8958456259347685061 | tw9855773257496148218 | tw272893364942050888 | tw1876683108362848544 | tw6872187014435641874 | tw7693257959823588363 | tw207177072498789321 | tw12155113393928556979 | tw7140253151840740534 | tw11251646689313039405 | tw7121594439069932924 | tw6561973970420796519 | tw951344117214927891 | tw15314551179617233376 | tw8910856487523654932 | tw16193547252138249787 | tw620440807567418479 | tw14207103634373330359 | tw5292303115126261465 | tw3474411728130574015 | tw9894007402638836806 | tw16195872196509704350 | tw913065665751955363 | tw7952934104740028231
open PySem L2 in
local macro_rules | `(tactic| walk_at $s:str) => do
  let v := (s.getString.splitOn " ").toArray
  if v.size < 3 then Lean.Macro.throwUnsupported
  let id (i : Nat) := Lean.mkIdent (Lean.Name.mkSimple s!"o{i}")
  let KX := Lean.mkIdent `KX
  let GN := Lean.mkIdent `GN
  let ln (n : Nat) := Lean.mkIdent (Lean.Name.mkStr2 "G" s!"ln{n}")
  let us (n : Nat) : Lean.MacroM (Lean.TSyntax `term) := do
    let hs ← (Array.range n).mapM fun _ => `(Lean.Parser.Term.funBinder| _)
    `(fun $hs:funBinder* => rfl)
  let ks ← `(tactic| (try dsimp only) <;> k_is)
  if v[0]! == "H" then
    let hs ← (Array.range v[2]!.toNat!).mapM fun i => `(?$(id i):ident)
    return ← `(tactic| refine' G.top $(Lean.mkIdent `hmg) ⟨$hs,*⟩)
  let i0 := v[1]!.toNat!
  let mut ts : Array (Lean.TSyntax `tactic) := #[]
  for (t, j) in (v.extract 2 v.size).zipIdx do
    let c := t.take 1 |>.toString
    let n := (t.drop 1).toString.toNat!
    let i := id (i0 + j)
    if (c == "m") != (v[0]! == "m") then continue
    let r ← match c with
      | "m" => `(tactic| case $i:ident => refine' W.mg_of $KX $GN ?_; k_is)
      | "d" => `(tactic| case $i:ident => refine' G.mD $KX $GN ?a (fun_mk ?l ?c ?k) ($(ln n) $(← us (n + 6))); (case a => k_is); (case l => k_is); (case c => k_is); (case k => k_is))
      | "M" => `(tactic| case $i:ident => dsimp only; refine' G.mM ?a (fun_mk ?l ?c ?k) ?i ($(ln n) $(← us (n + 6))); (case a => k_is); (case l => k_is); (case c => k_is); (case k => k_is); (case i => k_is))
      | "I" => `(tactic| case $i:ident => dsimp only; refine' G.mI ?a (fun_mk ?l ?c ?k) ?m ?i ?j ($(ln n) $(← us (n + 6))); (case a => k_is); (case l => k_is); (case c => k_is); (case k => k_is); (case m => k_is); (case i => k_is); (case j => k_is))
      | "X" => `(tactic| case $i:ident => dsimp only; refine' G.mX ?a (fun_mk ?l ?c ?k) ?t ?e ($(ln n) $(← us (n + 6))); (case a => k_is); (case l => k_is); (case c => k_is); (case k => k_is); (case t => k_is); (case e => kernel_rfl))
      | "C" => `(tactic| case $i:ident => dsimp only; refine' G.mC ?a (fun_mk ?l ?c ?k) ?r ?s ($(ln n) $(← us (n + 6))); (case a => k_is); (case l => k_is); (case c => k_is); (case k => k_is); (case r => k_is); (case s => k_is))
      | "c" => `(tactic| case $i:ident => refine' ⟨?_, ?_, ?_, ?_⟩ <;> $ks:tactic)
      | "n" => `(tactic| case $i:ident => refine' (?_ : W.findIn _ _ _ = _); $ks:tactic)
      | "k" => `(tactic| case $i:ident => $ks:tactic)
      | "t" => `(tactic| case $i:ident => (try dsimp only); kit_is)
      | "x" => `(tactic| case $i:ident => (try dsimp only); k_exc)
      | "e" => `(tactic| case $i:ident => refine' G.mE0 ?a; (case a => $ks:tactic))
      | "b" => `(tactic| case $i:ident => refine' ⟨?_, ?_⟩ <;> $ks:tactic)
      | "g" => `(tactic| case $i:ident => refine' G.mGi $KX $GN ?a; (case a => k_is))
      | "s" => `(tactic| case $i:ident => refine' G.mGs $KX $GN ?a; (case a => k_is))
      | "z" => `(tactic| case $i:ident => refine' W.mg_none_of $KX $GN ?_; k_is)
      | "E" => do
        let e := Lean.mkIdent (Lean.Name.mkStr2 "G" s!"mE{n}")
        `(tactic| case $i:ident => dsimp only; refine' $e ?a ?b ?c ?d; (case a => k_is); (case b => rfl); (case c => rfl); (case d => k_is))
      | _ => continue
    ts := ts.push r
  `(tactic| ($[$ts];*))
open PySem PySem.W PyProof.Rows
set_option maxRecDepth 100000 in
set_option maxHeartbeats 0 in
theorem PySem.Challenge.cw_gainstream_k70_a_fraction_read_holds : PySem.Challenge.rw_gainstream_k70_a_fraction_read.Holds := by
 w_on;o_law;k_head;(case hw=>w_witness2)
 k_fill
 refine G.walkL (l:=PySem.Challenge.rw_gainstream_k70_a_fraction_read) rfl rfl (λ w h Y=>PySem.W.kIn_of Y) ?F
 case F=>
  intro w mg fa h KX GN hmg
  walk_at "H 9 69"
  walk_at "m 0 d2 d3 d1 d1 d2 d1 d1 d2 d2 d1 d1 d1 d1 d1 d1 d1 d1 d1 c0 m0 n0 n0 w0 M1 k0 k0 k0 k0 m0 m0 m0 m0 m0 m0 m0 x0 m0 k0 e0 k0 k0 t0 t0 t0 k0 k0 k0 k0 k0 e0 t0 t0 t0 t0 t0 t0 t0 t0 g0 s0"
  walk_at "r 0 d2 d3 d1 d1 d2 d1 d1 d2 d2 d1 d1 d1 d1 d1 d1 d1 d1 d1 c0 m0 n0 n0 w0 M1 k0 k0 k0 k0 m0 m0 m0 m0 m0 m0 m0 x0 m0 k0 e0 k0 k0 t0 t0 t0 k0 k0 k0 k0 k0 e0 t0 t0 t0 t0 t0 t0 t0 t0 g0 s0"
  walk_at "r 60 z0 z0 z0 z0 z0 z0 z0 z0 z0"
  (case o22=>dsimp only;refine' G.mJ ?a (L2.funD_mk ?l ?c ?t ?d) ?m ?i ?k ?b;(case a=>k_is);(case l=>k_is);(case c=>k_is);(case t=>k_is);(case d=>rfl);(case m=>k_is);(case i=>k_is);(case k=>k_is);(case b=>exact λ N=>G.all1 ⟨[],.nil,G.biD N rfl (G.ln3 λ _ _ _ _ _ _ _ _ _ _=>⟨_,rfl,rfl⟩)⟩ (G.all1 ⟨[.int 1 _],(.cons ⟨_,rfl⟩ (.nil)),G.biD N rfl (G.ln2 λ _ _ _ _ _ _ _ _ _=>⟨_,rfl,rfl⟩)⟩ (G.all0))))
#print axioms PySem.Challenge.cw_gainstream_k70_a_fraction_read_holds
