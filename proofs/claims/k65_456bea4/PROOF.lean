import PyProof.Rows.All
import Wide.All
import OpenK.AllK
import Wide.FinOn
import Lean
import PyProof.EqAt
import PyProof.EqKinds
import PyProof.TupleCall
import PySem.Challenge.RW_gainstream_k65_a_plan_turn_by_turn
set_option compiler.extract_closed false
set_option linter.defProp false
def hU:=@PySem.wpAny_bind
def hV.{u0}:=@List.getElem?_eq_some_iff.{u0}
def hZ.{u0,u1}:=@List.length_map.{u0,u1}
def ia:=@PySem.Heap.get?_push_of_some
def ib.{u0}:=@List.not_mem_nil.{u0}
def ic:=@Nat.le_refl
def ie:=@Nat.le_trans
def ig.{u0}:=@List.mem_of_getElem?.{u0}
def ii.{u0}:=@List.getElem?_eq_getElem.{u0}
def ik:=@PySem.Heap.lt_size
def im:=@Nat.zero_le
def ip:=@PySem.wpAny_pure
def iq.{u0,u1}:=@List.getElem?_map.{u0,u1}
def ir.{u0}:=@List.length_append.{u0}
def iu.{u0,u1}:=@List.map_append.{u0,u1}
def iw.{u0}:=@List.mem_cons.{u0}
def ix:=@PySem.PassesOwn.never
def iy.{u0,u1}:=@List.mem_map.{u0,u1}
def iz.{u0}:=@List.length_take.{u0}
def iA:=@PySem.Heap.get?_push_size
def iB.{u0}:=@List.take_length.{u0}
def iC:=@Bool.false_ne_true
def iD.{u0}:=@List.mem_append_right.{u0}
def iE.{u0}:=@Option.toList_some.{u0}
def iF:=@decide_eq_false
def iG.{u0}:=@Option.some.inj.{u0}
def iH.{u0}:=@List.take_add_one.{u0}
def iI:=@Nat.ne_of_lt
def iJ:=@PySem.strLen_append
def iK:=@PySem.sizeLine_eq
def iL:=@Nat.lt_of_lt_of_le
def iM:=@decide_eq_true
def iN:=@PySem.W.mg_of
def iO:=@PySem.F.plainAttrs_list
def iP:=@Nat.lt_irrefl
def iQ.{u0,u1,u2}:=@List.map_map.{u0,u1,u2}
def iR.{u0}:=@List.getD_eq_getElem?_getD.{u0}
def iS.{u0}:=@List.mem_append.{u0}
def iT:=@Int.eq_ofNat_of_zero_le
def iU:=@PySem.boot_len
def iV.{u0}:=@List.mem_append_left.{u0}
def iW.{u0}:=@List.size_toArray.{u0}
def iX:=@PySem.wpAny_mono
def iY:=@Nat.lt_of_le_of_lt
def iZ.{u0}:=@List.mem_cons_of_mem.{u0}
def i3:=@or_false
def i4:=@Nat.mul_le_mul
def i5.{u0}:=@List.mem_singleton.{u0}
def i6:=@PyProof.Rows.boot_isinstance
def i7.{u0,u1}:=@congrArg.{u0,u1}
def i8:=@PySem.F.slot_list_append
def i9:=@PySem.F.type_list_append
def ja.{u0}:=@List.length_cons.{u0}
def jb.{u0}:=@List.nodup_append.{u0}
def jc.{u0}:=@List.getElem?_append_right.{u0}
def jf.{u0}:=@List.append_nil.{u0}
def jg:=@Nat.ne_of_gt
def jh:=@PyProof.Rows.callWith_type1
def jj.{u0}:=@List.mem_iff_getElem?.{u0}
def jk:=@PyProof.Rows.boot_str
def jm.{u0,u1}:=@Option.map_some.{u0,u1}
def jo:=@Int.natAbs_mul
def jp.{u0,u1}:=@List.map_cons.{u0,u1}
def jr.{u0}:=@List.getElem?_append_left.{u0}
def ju:=@Int.mul_comm
def jv:=@PySem.mem_of_lookup
def jw.{u0}:=@List.length_replicate.{u0}
def jy:=@PySem.W.mg_none_of
def jz:=@PySem.wpAny_callSpecial?_slot
def jA:=@PySem.wpAny_field
def jB:=@Nat.pow_le_pow_right
def jC:=@PySem.W.kia_one
def jD:=@PySem.Heap.get?_update_other
def jE.{u0}:=@beq_eq_false_iff_ne.{u0}
def jF:=@Bool.false_eq_true
def jG.{u0,u1}:=@List.lookup_cons.{u0,u1}
def jH:=@PySem.wpAny_call_entry
def jI.{u0}:=@List.filter_cons_of_pos.{u0}
def jJ.{u0}:=@List.filter_cons_of_neg.{u0}
def jK:=@Nat.add_le_add_left
def jL.{u0}:=@List.filter_nil.{u0}
def jM:=@PySem.Heap.get?_update_self
def jN:=@PySem.W.methodCall_KW
def jO:=@PySem.W.callWith_K
def jP:=@PySem.Obj.data_mapFields
def jQ:=@Nat.le_add_right
def jR:=@Int.gcd_dvd_left
def jS:=@PySem.wpAny_standAt
def jT:=@List.mem_range
set_option Elab.async false
set_option linter.all false
set_option maxRecDepth 100000
namespace L2
open PySem PySem.Spec PyProof.Rows
noncomputable abbrev Key:=Sum Int Str
noncomputable def keyIs:Key->Value->Bool
 | .inl k,v=>Value.isInt k v
 | .inr x,v=>Value.isStrOf x v
noncomputable def keyH (w:World):Key->Int
 | .inl k=>hashInt k
 | .inr x=>hashStr w x
theorem bD:∀ {k:Key} {v:Value},keyIs k v=true->(∃ i t,k=Sum.inl i/\v=Value.int i t)∨(∃ x t,k=Sum.inr x/\v=Value.str x t)
 | .inl i,v,h=>by
  obtain ⟨t,e⟩:=Value.isInt_shape (k:=i) (v:=v) h
  exact .inl ⟨i,t,rfl,e⟩
 | .inr x,v,h=>by
  obtain ⟨t,e⟩:=Value.isStrOf_shape (x:=x) (v:=v) h
  exact .inr ⟨x,t,rfl,e⟩
theorem keyIs_int (i:Int) (t:Tok):keyIs (.inl i) (.int i t)=true:=by simp [keyIs,Value.isInt]
theorem keyIs_str (x:Str) (t:Tok):keyIs (.inr x) (.str x t)=true:=by simp [keyIs,Value.isStrOf]
theorem key_ll (a b:Int):decide ((Sum.inl a:Key)=Sum.inl b)=(a == b):=by
 by_cases e:a=b
 ·subst e;simp
 ·have h:¬ (Sum.inl a:Key)=Sum.inl b:=λ q=>e (Sum.inl.inj q)
  rw [iF h]
  exact (jE.mpr e).symm
theorem key_rr (a b:Str):decide ((Sum.inr a:Key)=Sum.inr b)=decide (a=b):=by
 by_cases e:a=b
 ·subst e;simp
 ·have h:¬ (Sum.inr a:Key)=Sum.inr b:=λ q=>e (Sum.inr.inj q)
  rw [iF h,iF e]
theorem key_lr (a:Int) (b:Str):decide ((Sum.inl a:Key)=Sum.inr b)=false:=iF (λ q=>nomatch q)
theorem key_rl (a:Str) (b:Int):decide ((Sum.inr a:Key)=Sum.inl b)=false:=iF (λ q=>nomatch q)
noncomputable def bb (prog:Program) (w:World):PySem.KeyKind prog w Key where
 is:=keyIs
 hash:=keyH w
 inj:=λ v a b ha hb=>by
  rcases bD ha with ⟨i,t,rfl,rfl⟩ | ⟨x,t,rfl,rfl⟩
  ·rcases bD hb with ⟨j,u,rfl,e⟩ | ⟨y,u,rfl,e⟩
   ·injection e with e1 _;rw [e1]
   ·exact nomatch e
  ·rcases bD hb with ⟨j,u,rfl,e⟩ | ⟨y,u,rfl,e⟩
   ·exact nomatch e
   ·injection e with e1 _;rw [e1]
 byValue:=λ k v h=>by
  rcases bD h with ⟨i,t,rfl,rfl⟩ | ⟨x,t,rfl,rfl⟩ <;> rfl
 pyHash:=λ hv h=>by
  rcases bD hv with ⟨i,t,rfl,rfl⟩ | ⟨x,t,rfl,rfl⟩
  ·exact wpAny_pyHash_int h
  ·exact wpAny_pyHash_str h
 eqBool:=λ hu hv h=>by
  rcases bD hu with ⟨i,t,rfl,rfl⟩ | ⟨x,t,rfl,rfl⟩
  ·rcases bD hv with ⟨j,u,rfl,rfl⟩ | ⟨y,u,rfl,rfl⟩
   ·rw [key_ll] at h;exact wpAny_eqBool_int h
   ·rw [key_lr] at h;exact SeqAt.EqAt.int_str i t y u _ _ _ _ h
  ·rcases bD hv with ⟨j,u,rfl,rfl⟩ | ⟨y,u,rfl,rfl⟩
   ·rw [key_rl] at h;exact SeqAt.EqAt.str_int x t j u _ _ _ _ h
   ·rw [key_rr] at h;exact wpAny_eqBool_str h
 «strs»:=λ k x t v h=>by
  rcases bD h with ⟨i,u,rfl,e⟩ | ⟨y,u,rfl,e⟩
  ·exact nomatch e
  ·injection e with e1 _
   subst e1
   cases v <;> rfl
theorem mixKind_int (prog:Program) (w:World) (i:Int) (t:Tok):(bb prog w).is (.inl i) (.int i t)=true:=keyIs_int i t
theorem mixKind_str (prog:Program) (w:World) (x:Str) (t:Tok):(bb prog w).is (.inr x) (.str x t)=true:=keyIs_str x t
end L2
namespace L2
open PySem PySem.Spec PyProof.Rows
inductive V where
 | non | bl (b:Bool) | int (i:Int) | str (x:Str) | byt (b:Array UInt8) | flt (b:UInt64) | ref (a:Addr) | ty (n:String)
 deriving DecidableEq
noncomputable def RelV:V->Value->Prop
 | .non,u=>u=Value.none
 | .bl b,u=>u=Value.bool b
 | .int i,u=>∃ t,u=Value.int i t
 | .str x,u=>∃ t,u=Value.str x t
 | .byt b,u=>∃ t,u=Value.bytes b t
 | .flt b,u=>∃ t,u=Value.float b t
 | .ref a,u=>u=Value.ref a
 | .ty n,u=>u=Value.type n
noncomputable abbrev Vals:List V->List Value->Prop:=Paired RelV
theorem Vals.length {xs:List V} {us:List Value} (r:Vals xs us):xs.length=us.length:=Paired.length r
theorem Vals.get:∀ {xs:List V} {us:List Value} {i:Nat} {x:V},Vals xs us->xs[i]?=some x->∃ u,us[i]?=some u/\RelV x u
 | _,_,_,_,.nil,e=>by simp at e
 | _,_,0,_,.cons r _,e=>by simp at e;subst e;exact ⟨_,rfl,r⟩
 | _,_,i+1,x,.cons _ t,e=>by
  obtain ⟨u,h1,h2⟩:=Vals.get (i:=i) (x:=x) t (by simpa using e)
  exact ⟨u,by simpa using h1,h2⟩
theorem Vals.append:∀ {xs ys:List V} {us ws:List Value},Vals xs us->Vals ys ws->Vals (xs++ys) (us++ws)
 | _,_,_,_,.nil,s=>s
 | _,_,_,_,.cons r t,s=>.cons r (Vals.append t s)
noncomputable def RelO:Option V->Option Value->Prop
 | some v,some u=>RelV v u
 | none,none=>True
 | _,_=>False
noncomputable def KV {κ:Type}:List (κ × V)->List (κ × Value)->Prop:=Paired λ(p:κ × V) (q:κ × Value)=>p.1=q.1/\RelV p.2 q.2
noncomputable def kV:Key->V
 | .inl i=>.int i
 | .inr x=>.str x
inductive HO where
 | lst (xs:List V)
 | tup (xs:List V)
 | dK (kvs:List (Key × V)) | dT (kvs:List (List Key × V))
 | set (S:Int->Bool) (n:Nat)
 | ins (C dx:Addr) (fs:List (Str × V))
 | own (x:Addr)
 | xd (fs:List (Str × V))
 | met (f x:Addr)
 | rng (lo hi:Int)
 | frz (o:Obj) (u:HO)
 | tbl (ps:Array Value)
 | ext (φ:Heap->Prop)
noncomputable abbrev Hp:=Addr->Option HO
noncomputable def upd (H:Hp) (a:Addr) (o:HO):Hp:=λ b=>if b=a then some o else H b
theorem ac {H:Hp} {a:Addr} {o:HO}:upd H a o a=some o:=by unfold upd;rw [if_pos rfl]
theorem ai {H:Hp} {a b:Addr} {o:HO} (h:b≠a):upd H a o b=H b:=by unfold upd;rw [if_neg h]
theorem upd_upd {H:Hp} {a:Addr} {o u:HO}:upd (upd H a o) a u=upd H a u:=by
 funext b;unfold upd;split <;> rfl
theorem bz {H:Hp} {a b:Addr} {o u:HO} (h:H a=some o) (h':H b=some u) (d:o≠u):a≠b:=by
 intro e;subst e;rw [h] at h';exact d (iG h')
theorem av {H:Hp} {a b:Addr} {o:HO} (h:H a=some o) (h':H b=none):a≠b:=by
 intro e;subst e;rw [h] at h';cases h'
section
variable (P:Program) (w:World)
noncomputable def ObjOk (H:Hp) (h:Heap) (a:Addr):HO->Prop
 | .lst xs=>xs.length<=sizeLine/\∃ (its:List Value) (n:Nat),Vals xs its/\h.get? a=some { cls:=.type "list",data:=.seq its.toArray n }
 | .tup xs=>xs.length<=sizeLine/\∃ its:List Value,Vals xs its/\IsTup h a its.toArray
 | .dK kvs=>kvs.length<=sizeLine/\(a == sysModules)=false/\∃ vs,KV kvs vs/\h.DictOf (bb P w) a vs
 | .dT kvs=>kvs.length<=sizeLine/\(a == sysModules)=false/\∃ xs:List (List Key × Addr × Value),
   Paired (λ(p:List Key × V) (q:List Key × Addr × Value)=>p.1=q.1/\H q.2.1=some (.tup (p.1.map kV))/\RelV p.2 q.2.2) kvs xs/\
   ∃ o es ep,h.get? a=some o/\o.ExactDict/\o.data=.dict es ep/\es.toList=xs.map (entryOfKey (tupleKind (bb P w)))/\(xs.map (·.1)).Nodup
 | .set S n=>h.SetOf (intKind P w) a S n
 | .ins C dx fs=>H dx=some (.own a)/\fs.length<=1000/\dx≠a/\h.get? a=some (PySem.W.instObj C dx)/\
   ∃ mA,h.Ns1 dx mA/\(∀ f,RelO (fs.lookup f) (mA f))/\PySem.Within mA (fs.map (·.1))
 | .own _=>∃ o,h.get? a=some o
 | .xd fs=>∃ mA,h.Ns1 a mA/\∀ f,RelO (fs.lookup f) (mA f)
 | .rng lo hi=>∃ t u v,h.get? a=some { cls:=.type "range",data:=.fields #[.int lo t,.int hi u,.int 1 v] }
 | .frz o u=>h.get? a=some o/\ObjOk H h a u
 | .tbl ps=>h.get? a=some { cls:=.none,data:=.fields ps }
 | .met f x=>h.get? a=some (PySem.W.methodObj (.ref f) (.ref x))
 | .ext φ=>φ h/\(∃ o,h.get? a=some o)/\∀ h1 h2:Heap,φ h1->(∀ o,h1.get? a=some o->h2.get? a=some o)->φ h2
noncomputable def HOk (H:Hp) (h:Heap):Prop:=∀ a o,H a=some o->ObjOk P w H h a o
end
section
variable {P:Program} {w:World} {H H':Hp} {h h':Heap} {a:Addr} {o:HO}
theorem ObjOk.lt (x:ObjOk P w H h a o):a<h.objs.size:=by
 cases o with
 | lst xs=>obtain ⟨_,_,_,_,e⟩:=x;exact ik e
 | tup xs=>obtain ⟨_,_,_,p⟩:=x;exact p.lt
 | dK kvs=>obtain ⟨_,_,_,_,o,_,_,e,_⟩:=x;exact ik e
 | dT kvs=>obtain ⟨_,_,_,_,o,_,_,e,_⟩:=x;exact ik e
 | set S n=>obtain ⟨o,_,_,_,e,_⟩:=x;exact ik e
 | ins C dx fs=>obtain ⟨_,_,_,e,_⟩:=x;exact ik e
 | own y=>obtain ⟨_,e⟩:=x;exact ik e
 | xd fs=>obtain ⟨_,⟨_,_,_,e,_⟩,_⟩:=x;exact ik e
 | rng lo hi=>obtain ⟨_,_,_,e⟩:=x;exact ik e
 | frz ob u=>obtain ⟨e,_⟩:=x;exact ik e
 | tbl ps=>exact ik (show h.get? a=some _ from x)
 | met f y=>exact ik (show h.get? a=some _ from x)
 | ext φ=>obtain ⟨_,⟨_,e⟩,_⟩:=x;exact ik e
theorem Paired.mapP {α β:Type} {F G:α->β->Prop}:∀ {l₁:List α} {l₂:List β},Paired F l₁ l₂->(∀ a b,F a b->G a b)->Paired G l₁ l₂
 | _,_,.nil,_=>.nil
 | _,_,.cons r t,f=>.cons (f _ _ r) (Paired.mapP t f)
theorem ObjOk.stay (x:ObjOk P w H h a o) (k:∀ b u,(b=a∨H b=some (.own a))->h.get? b=some u->h'.get? b=some u)
  (ho:∀ b,H b=some (.own a)->H' b=some (.own a)) (ht:∀ b xs,H b=some (.tup xs)->H' b=some (.tup xs)):ObjOk P w H' h' a o:=by
 induction o with
 | lst xs=>obtain ⟨z,its,n,r,e⟩:=x;exact ⟨z,its,n,r,k _ _ (.inl rfl) e⟩
 | tup xs=>obtain ⟨z,its,r,ob,e,c⟩:=x;exact ⟨z,its,r,ob,k _ _ (.inl rfl) e,c⟩
 | dK kvs=>obtain ⟨z,y,vs,r,ob,es,ep,e,c⟩:=x;exact ⟨z,y,vs,r,ob,es,ep,k _ _ (.inl rfl) e,c⟩
 | dT kvs=>
  obtain ⟨z,y,xs,r,ob,es,ep,e,c⟩:=x
  exact ⟨z,y,xs,Paired.mapP r λ p q z=>⟨z.1,ht _ _ z.2.1,z.2.2⟩,ob,es,ep,k _ _ (.inl rfl) e,c⟩
 | set S n=>obtain ⟨ob,es,ep,t,e,c⟩:=x;exact ⟨ob,es,ep,t,k _ _ (.inl rfl) e,c⟩
 | ins C dx fs=>
  obtain ⟨d,z,ne,e,mA,⟨od,es,ep,e2,c⟩,r⟩:=x
  exact ⟨ho _ d,z,ne,k _ _ (.inl rfl) e,mA,⟨od,es,ep,k _ _ (.inr d) e2,c⟩,r⟩
 | own y=>obtain ⟨ob,e⟩:=x;exact ⟨ob,k _ _ (.inl rfl) e⟩
 | xd fs=>obtain ⟨mA,⟨od,es,ep,e,c⟩,r⟩:=x;exact ⟨mA,⟨od,es,ep,k _ _ (.inl rfl) e,c⟩,r⟩
 | rng lo hi=>obtain ⟨t,u,v,e⟩:=x;exact ⟨t,u,v,k _ _ (.inl rfl) e⟩
 | frz ob u ih=>obtain ⟨e,q⟩:=x;exact ⟨k _ _ (.inl rfl) e,ih q⟩
 | tbl ps=>
  have e:h.get? a=some { cls:=.none,data:=.fields ps }:=x
  show h'.get? a=some { cls:=.none,data:=.fields ps }
  exact k a _ (.inl rfl) e
 | met f y=>
  have e:h.get? a=some (PySem.W.methodObj (.ref f) (.ref y)):=x
  show h'.get? a=some (PySem.W.methodObj (.ref f) (.ref y))
  exact k a _ (.inl rfl) e
 | ext φ=>obtain ⟨p,⟨o,e⟩,st⟩:=x;exact ⟨st _ _ p λ o q=>k _ _ (.inl rfl) q,⟨o,k _ _ (.inl rfl) e⟩,st⟩
theorem HOk.lt (x:HOk P w H h) (e:H a=some o):a<h.objs.size:=(x a o e).lt
theorem HOk.fresh (x:HOk P w H h) (e:h.objs.size<=a):H a=none:=by
 cases q:H a with
 | none=>rfl
 | some u=>exact absurd (iL (x.lt q) e) (iP _)
theorem HOk.kept (x:HOk P w H h) (k:∀ b u,h.get? b=some u->h'.get? b=some u):HOk P w H h':=λ a o e=>
 (x a o e).stay (λ b u _ q=>k b u q) (λ _ q=>q) λ _ _ q=>q
theorem HOk.laid (x:HOk P w H h) (k:∀ b u,h.get? b=some u->h'.get? b=some u) (hp:h.objs.size<=a) (new:ObjOk P w (upd H a o) h' a o):HOk P w (upd H a o) h':=λ b u e=>by
 have hn:=x.fresh hp
 by_cases hb:b=a
 ·subst hb;rw [ac] at e;cases e;exact new
 ·rw [ai hb] at e
  exact (x b u e).stay (λ c v _ q=>k c v q) (λ c q=>by rw [ai (av q hn)];exact q) λ c xs q=>by rw [ai (av q hn)];exact q
end
noncomputable def Rd (H:Hp) (a:Addr) (u:HO):Prop:=H a=some u∨∃ o,H a=some (.frz o u)
theorem Rd.ok {P:Program} {w:World} {H:Hp} {h:Heap} {a:Addr} {u:HO} (r:Rd H a u) (x:HOk P w H h):ObjOk P w H h a u:=by
 rcases r with r | ⟨o,r⟩
 ·exact x a u r
 ·obtain ⟨_,q⟩:=x a _ r
  exact q
noncomputable def Mut:Option HO->Prop
 | some (.lst _)=>True
 | some (.dK _)=>True
 | some (.dT _)=>True
 | some (.set _ _)=>True
 | some (.ins _ _ _)=>True
 | some (.ext _)=>True
 | _=>False
section
variable {P:Program} {w:World} {H:Hp} {h h':Heap} {x e:Addr} {o':HO}
theorem HOk.write (ok:HOk P w H h) (mu:Mut (H x)) (he:e=x∨H e=some (.own x)) (k:∀ b u,b≠e->h.get? b=some u->h'.get? b=some u) (heo:∃ u,h'.get? e=some u)
  (new:ObjOk P w (upd H x o') h' x o'):HOk P w (upd H x o') h':=λ b u q=>by
 have nown:∀ c y,H c=some (.own y)->c≠x:=λ c y r z=>by subst z;rw [r] at mu;exact mu
 have ntup:∀ c xs,H c=some (.tup xs)->c≠x:=λ c xs r z=>by subst z;rw [r] at mu;exact mu
 by_cases hb:b=x
 ·subst hb;rw [ac] at q;cases q;exact new
 ·rw [ai hb] at q
  by_cases hbe:b=e
  ·have q':H b=some (.own x):=by
    rcases he with z | z
    ·exact absurd (hbe.trans z) hb
    ·rw [hbe];exact z
   rw [q] at q';cases q'
   obtain ⟨v,hv⟩:=heo
   exact ⟨v,by rw [hbe];exact hv⟩
  ·refine (ok b u q).stay (λ c v hc r=>k c v ?_ r) (λ c r=>by rw [ai (nown c b r)];exact r) λ c xs r=>by rw [ai (ntup c xs r)];exact r
   rcases hc with rfl | hc
   ·exact hbe
   ·rintro rfl
    rcases he with z | z
    ·exact nown c b hc z
    ·rw [hc] at z;cases z;exact hb rfl
end
structure Un (fs ex:List Addr) (H H':Hp) (h h':Heap):Prop where
 keep:∀ b o,h.get? b=some o->H b=none->b ∉ fs->b ∉ ex->h'.get? b=some o
 slot:∀ b o,h.get? b=some o->H b=none->b∈fs->b ∉ ex->∃ sl,h'.get? b=some { o with slots:=sl }
 free:∀ b o,h.get? b=some o->H b=none->b ∉ ex->H' b=none
 there:∀ b o,h.get? b=some o->b ∉ ex->∃ o',h'.get? b=some o'
 tups:∀ b xs,H b=some (.tup xs)->H' b=some (.tup xs)
 frzs:∀ b o u,H b=some (.frz o u)->H' b=some (.frz o u)
 tbls:∀ b ps,H b=some (.tbl ps)->∃ more,H' b=some (.tbl (ps++more))
section
variable {fs fs' ex ex':List Addr} {H H1 H2:Hp} {h h1 h2 h':Heap} {a x e:Addr} {o:HO}
theorem Un.any (u:Un fs ex H H1 h h1) {b:Addr} {ob:Obj} (q:h.get? b=some ob) (n:H b=none) (hx:b ∉ ex):∃ sl,h1.get? b=some { ob with slots:=sl }:=by
 by_cases hb:b∈fs
 ·exact u.slot b ob q n hb hx
 ·exact ⟨ob.slots,u.keep b ob q n hb hx⟩
theorem Un.kept (k:∀ b u,h.get? b=some u->h'.get? b=some u):Un fs ex H H h h':=
 ⟨λ b ob q _ _ _=>k b ob q,λ b ob q _ _ _=>⟨ob.slots,k b ob q⟩,λ _ _ _ n _=>n,λ b ob q _=>⟨ob,k b ob q⟩,λ _ _ q=>q,λ _ _ _ q=>q,λ _ ps q=>⟨#[],by rw [q];simp⟩⟩
theorem Un.refl:Un fs ex H H h h:=Un.kept λ _ _ q=>q
theorem Un.laid (k:∀ b u,h.get? b=some u->h'.get? b=some u) (hp:h.objs.size<=a) (hn:H a=none):Un fs ex H (upd H a o) h h' where
 keep:=λ b u q _ _ _=>k b u q
 slot:=λ b u q _ _ _=>⟨u.slots,k b u q⟩
 free:=λ b u q n _=>by rw [ai (iI (iL (ik q) hp))];exact n
 there:=λ b u q _=>⟨u,k b u q⟩
 tups:=λ b xs q=>by rw [ai (av q hn)];exact q
 frzs:=λ b u xs q=>by rw [ai (av q hn)];exact q
 tbls:=λ b ps q=>⟨#[],by rw [ai (av q hn),q];simp⟩
theorem Un.write (mu:Mut (H x)) (he:e=x∨H e=some (.own x)) (k:∀ b u,b≠e->h.get? b=some u->h'.get? b=some u) (heo:∃ u,h'.get? e=some u):Un fs ex H (upd H x o) h h':=by
 have hx:∀ b,H b=none->b≠x:=λ b n z=>by subst z;rw [n] at mu;exact mu
 have hb:∀ b,H b=none->b≠e:=λ b n z=>by
  subst z
  rcases he with r | r
  ·exact hx b n r
  ·rw [n] at r;cases r
 have hm:∀ b u,H b=some u->¬ Mut (some u)->b≠x:=λ b u q nm z=>by subst z;rw [q] at mu;exact nm mu
 refine ⟨λ b u q n _ _=>k b u (hb b n) q,λ b u q n _ _=>⟨u.slots,k b u (hb b n) q⟩,λ b u q n _=>by rw [ai (hx b n)];exact n,λ b u q _=>?_,
  λ b xs q=>by rw [ai (hm b _ q λ z=>z)];exact q,λ b u xs q=>by rw [ai (hm b _ q λ z=>z)];exact q,λ b ps q=>⟨#[],by rw [ai (hm b _ q λ z=>z),q];simp⟩⟩
 by_cases hbe:b=e
 ·subst hbe;exact heo
 ·exact ⟨u,k b u hbe q⟩
end
noncomputable def trk (h:Heap) (H:Hp):List Addr:=(List.range h.objs.size).filter λ a=>(H a).isSome
noncomputable def hidT (h:Heap) (H:Hp):Heap:=PySem.W.hideAll h (trk h H)
theorem hidT_size (h:Heap) (H:Hp):(hidT h H).objs.size=h.objs.size:=PySem.W.hideAll_size _ _
theorem hidT_get {h:Heap} {H:Hp} {b:Addr} {o:Obj} (e:h.get? b=some o) (n:H b=none):(hidT h H).get? b=some o:=
 PySem.W.hideAll_get _ e λ hm=>by
  have q:(H b).isSome=true:=(List.mem_filter.mp hm).2
  rw [n] at q;simp at q
theorem of_hidT {h:Heap} {H:Hp} {b:Addr} {o:Obj} (e:(hidT h H).get? b=some o):h.get? b=some o/\H b=none:=by
 have e':h.get? b=some o:=PySem.W.of_hideAll (trk h H) e
 refine ⟨e',?_⟩
 cases q:H b with
 | none=>rfl
 | some x=>
  have hm:b∈trk h H:=List.mem_filter.mpr ⟨jT.mpr (ik e'),by simp [q]⟩
  have z:(hidT h H).get? b=none:=PySem.W.hideAll_none (trk h H) hm
  rw [z] at e;cases e
noncomputable def allNews (g h:Heap) (L:Addr):List (Addr × Obj):=(List.range h.objs.size).filterMap λ a=>if a=L∨(g.get? a).isSome=true then none else (h.get? a).map λ o=>(a,o)
noncomputable def rest (g h:Heap) (L d:Addr):List (Addr × Obj):=(allNews g h L).filter λ p=>decide (p.1≠d)
end L2
namespace L2
open PySem PySem.Spec PyProof.Rows
structure Mod (K:W.Frag) (mg:Str->Option Value) (base:Heap):Prop where
 kin:K.In base
 glob:base.Ns mainGlobals mg
 blt:∃ mb,base.Ns builtinsNs mb/\∀ x:Str,x≠"__name__"->mb x=bootBuiltins x
 nolimit:base.NoLimit
structure Cx where
 prog:Program
 w:World
 K:W.Frag
 mg:Str->Option Value
 base:Heap
 A:Around
 N:List Str
 s₀:Shared
 H₀:Hp
 env:Env
 outer:List Env
 stack:List Env
 ex:List Addr
 fn:Str->Bool
 calm:Bool
 pn:List (Addr × Obj)
 xe:Value->Shared->Prop
noncomputable def frs (l:List Env):List Addr:=l.filterMap (·.frame)
noncomputable abbrev Cx.fs (X:Cx):List Addr:=frs X.outer
noncomputable def Vis (sc:Scope) (x:Str):Prop:=sc.names.lookup x=some .local∨sc.names.lookup x=some .cell∨sc.names.lookup x=some .free
noncomputable def Loc (sc:Scope) (x:Str):Prop:=sc.names.lookup x=some .local∨sc.names.lookup x=some .cell
noncomputable def Look (env:Env) (h:Heap) (m:Str->Option Value) (x:Str) (u:Value):Prop:=
 (env.kindOf x=some .local/\m x=some u)∨((env.kindOf x=some .cell∨env.kindOf x=some .free)/\∃ c,env.cells.lookup x=some c/\h.IsCell c (some u))
structure Cx.Ok (X:Cx):Prop where
 mod:Mod X.K X.mg X.base
 kind:X.env.scope.kind=.function
 glob:X.env.globals=mainGlobals
 blt:X.env.builtins=builtinsNs
 above:X.s₀.heap.objs.size<=X.env.locals
 inj:∀ x y c,X.env.cells.lookup x=some c->X.env.cells.lookup y=some c->x=y
 has:∀ x,(X.env.kindOf x=some .cell∨X.env.kindOf x=some .free)->∃ c,X.env.cells.lookup x=some c
 cab:∀ x c,X.fn x=true->X.env.cells.lookup x=some c->X.s₀.heap.objs.size<=c
 hd:X.calm=true->X.A.handled=none
 frames:X.A.frames=some X.stack
 stk:X.stack=X.outer∨(X.stack=X.env::X.outer/\X.env.frame=some X.env.locals)
 exf:∀ b∈X.ex,b≠X.env.locals/\∀ x c,X.env.cells.lookup x=some c->c≠b
 bs:∀ b o,X.base.get? b=some o->X.s₀.heap.get? b=some o/\X.H₀ b=none
 bsz:X.base.objs.size<=X.s₀.heap.objs.size
 noex:∀ b o,X.base.get? b=some o->b ∉ X.ex
 exfs:∀ b∈X.ex,b ∉ X.fs
 funs:X.s₀.heap.FunFrames X.base X.outer
 frf:∀ b∈X.fs,X.H₀ b=none
structure Inv (X:Cx) (pins:List (Addr × Obj)) (σ:List (Option V)) (H:Hp) (s:Shared):Prop where
 ok:X.Ok
 os:s.os=X.s₀.os
 bare:AllBare s.gens
 base:Un X.fs X.ex X.H₀ H X.s₀.heap s.heap
 loc:∃ m,s.heap.Ns X.env.locals m/\∀ (i:Nat) (x:Str) (v:V),X.N[i]?=some x->σ[i]?=some (some v)->Vis X.env.scope x->∃ u,RelV v u/\Look X.env s.heap m x u
 cell:∀ x c,X.env.cells.lookup x=some c->∃ v,s.heap.IsCell c v
 free:H X.env.locals=none
 freeC:∀ x c,X.env.cells.lookup x=some c->H c=none
 pin:∀ p∈X.pn++pins,s.heap.get? p.1=some p.2/\H p.1=none/\p.1≠X.env.locals/\p.1 ∉ X.fs/\∀ v,p.2.data≠.cell v
 hok:HOk X.prog X.w H s.heap
 len:σ.length=X.N.length
section
variable {X:Cx} {pins:List (Addr × Obj)} {σ:List (Option V)} {H H':Hp} {s:Shared} {h':Heap}
theorem Cx.Ok.nofr (ok:X.Ok) {b:Addr} {o:Obj} (e:X.base.get? b=some o):b ∉ X.fs:=λ hb=>by
 have:=(ok.funs.mem hb).1
 rw [e] at this;cases this
theorem Inv.bs (I:Inv X pins σ H s):∀ b o,X.base.get? b=some o->s.heap.get? b=some o/\H b=none:=λ b o e=>
 ⟨I.base.keep b o (I.ok.bs b o e).1 (I.ok.bs b o e).2 (I.ok.nofr e) (I.ok.noex b o e),I.base.free b o (I.ok.bs b o e).1 (I.ok.bs b o e).2 (I.ok.noex b o e)⟩
theorem Inv.bk (I:Inv X pins σ H s):∀ b o,X.base.get? b=some o->s.heap.get? b=some o:=λ b o e=>(I.bs b o e).1
theorem Inv.mod (I:Inv X pins σ H s):Mod X.K X.mg X.base:=I.ok.mod
theorem Inv.kIn (I:Inv X pins σ H s):X.K.In s.heap:=I.ok.mod.kin.keeps I.bk
theorem Inv.lt (I:Inv X pins σ H s):X.env.locals<s.heap.objs.size:=by
 obtain ⟨_,hn,_⟩:=I.loc
 exact hn.lt
theorem Inv.sz (I:Inv X pins σ H s):X.s₀.heap.objs.size<=s.heap.objs.size:=ie I.ok.above (Nat.le_of_lt I.lt)
theorem Inv.nofs (I:Inv X pins σ H s) {a:Addr} (h:s.heap.objs.size<=a):a ∉ X.fs:=λ hb=>by
 obtain ⟨_,o,ho,_⟩:=I.ok.funs.mem hb
 exact absurd (iL (ik ho) (ie I.sz h)) (iP _)
theorem Inv.cne (I:Inv X pins σ H s):∀ x c,X.env.cells.lookup x=some c->c≠X.env.locals:=λ x c e z=>by
 obtain ⟨v,o,ho,hd⟩:=I.cell x c e
 obtain ⟨m,⟨o',es,ep,ho',hd',_⟩,_⟩:=I.loc
 rw [z,ho'] at ho;cases ho;rw [hd'] at hd;cases hd
theorem Inv.funs (I:Inv X pins σ H s):s.heap.FunFrames X.base X.outer:=by
 have all:∀ (l:List Env),(∀ b∈frs l,b∈X.fs)->X.s₀.heap.FunFrames X.base l->s.heap.FunFrames X.base l:=by
  intro l
  induction l with
  | nil=>intro _ _;trivial
  | cons env r ih=>
   intro hs hl
   obtain ⟨hk,⟨L,o,hf,hn,ho,hd⟩,hr⟩:=hl
   have hL:L∈X.fs:=hs L (by unfold frs;rw [List.filterMap_cons,hf];exact List.mem_cons_self)
   obtain ⟨sl,e⟩:=I.base.slot L o ho (I.ok.frf L hL) hL λ z=>I.ok.exfs L z hL
   exact ⟨hk,⟨L,_,hf,hn,e,hd⟩,ih (λ b hb=>hs b (by unfold frs;rw [List.filterMap_cons,hf];exact iZ _ hb)) hr⟩
 exact all X.outer (λ _ hb=>hb) I.ok.funs
theorem Inv.stack (I:Inv X pins σ H s):s.heap.FunFrames X.base X.stack:=by
 rcases I.ok.stk with e | ⟨e,hf⟩
 ·rw [e];exact I.funs
 ·rw [e]
  obtain ⟨m,hn,_⟩:=I.loc
  refine .cons (by rw [I.ok.kind];decide) hf hn ?_ I.funs
  exact Heap.get?_none_of_le (ie I.ok.bsz I.ok.above)
theorem Inv.stkSub (I:Inv X pins σ H s):∀ b∈frs X.stack,b∈X.env.locals::X.fs:=λ b hb=>by
 rcases I.ok.stk with e | ⟨e,hf⟩
 ·rw [e] at hb;exact iZ _ hb
 ·rw [e] at hb
  unfold frs at hb
  rw [List.filterMap_cons,hf] at hb
  exact hb
theorem Inv.stkFree (I:Inv X pins σ H s):∀ b∈frs X.stack,H b=none:=λ b hb=>by
 rcases iw.mp (I.stkSub b hb) with e | hb
 ·rw [e];exact I.free
 ·obtain ⟨_,o,ho,_⟩:=I.ok.funs.mem hb
  exact I.base.free b o ho (I.ok.frf b hb) λ z=>I.ok.exfs b z hb
theorem Inv.step {g':Array GenState} {t':Nat} {d':Drawn} {ch:List Addr} (I:Inv X pins σ H s)
  (hch:∀ b∈ch,(b∈X.ex∨X.s₀.heap.objs.size<=b)/\b≠X.env.locals/\(∀ x c,X.env.cells.lookup x=some c->c≠b)/\∀ p∈X.pn++pins,p.1≠b)
  (keep:∀ b o,b≠X.env.locals->b ∉ X.fs->b ∉ ch->s.heap.get? b=some o->H b=none->h'.get? b=some o)
  (slot:∀ b o,b≠X.env.locals->b∈X.fs->b ∉ ch->s.heap.get? b=some o->H b=none->∃ sl,h'.get? b=some { o with slots:=sl }) (free:∀ b o,b ∉ ch->s.heap.get? b=some o->H b=none->H' b=none)
  (there:∀ b o,b ∉ ch->s.heap.get? b=some o->∃ o',h'.get? b=some o')
  (tups:∀ b xs,H b=some (.tup xs)->H' b=some (.tup xs)) (frzs:∀ b o u,H b=some (.frz o u)->H' b=some (.frz o u)) (tbls:∀ b ps,H b=some (.tbl ps)->∃ more,H' b=some (.tbl (ps++more)))
  (ns:∀ m,s.heap.Ns X.env.locals m->h'.Ns X.env.locals m) (hok:HOk X.prog X.w H' h') (hg:AllBare g') :
  Inv X pins σ H' { s with heap:=h',gens:=g',drawn:=d',toks:=t' }:=by
 have neL:∀ b o,X.s₀.heap.get? b=some o->b≠X.env.locals:=λ b o e=>iI (iL (ik e) I.ok.above)
 have neC:∀ b o,X.s₀.heap.get? b=some o->b ∉ X.ex->b ∉ ch:=λ b o e hx hb=>by
  rcases (hch b hb).1 with z | z
  ·exact hx z
  ·exact absurd (iL (ik e) z) (iP _)
 have cellK:∀ x c,X.env.cells.lookup x=some c->∀ v,s.heap.IsCell c v->h'.IsCell c v:=λ x c e v ⟨o,ho,hd⟩=>by
  have nch:c ∉ ch:=λ z=>(hch c z).2.2.1 x c e rfl
  by_cases hc:c∈X.fs
  ·obtain ⟨sl,q⟩:=slot c o (I.cne x c e) hc nch ho (I.freeC x c e)
   exact ⟨_,q,hd⟩
  ·exact ⟨o,keep c o (I.cne x c e) hc nch ho (I.freeC x c e),hd⟩
 refine ⟨I.ok,I.os,hg,⟨λ b o e n hb hx=>?_,λ b o e n hb hx=>?_,λ b o e n hx=>?_,λ b o e hx=>?_,λ b xs e=>tups b xs (I.base.tups b xs e),λ b o xs e=>frzs b o xs (I.base.frzs b o xs e),λ b ps e=>?_⟩,?_,λ x c e=>?_,?_,λ x c e=>?_,λ p hp=>?_,hok,I.len⟩
 ·exact keep b o (neL b o e) hb (neC b o e hx) (I.base.keep b o e n hb hx) (I.base.free b o e n hx)
 ·obtain ⟨sl,e1⟩:=I.base.slot b o e n hb hx
  obtain ⟨sl',e2⟩:=slot b _ (neL b o e) hb (neC b o e hx) e1 (I.base.free b o e n hx)
  exact ⟨sl',e2⟩
 ·obtain ⟨o',e1⟩:=I.base.there b o e hx
  exact free b o' (neC b o e hx) e1 (I.base.free b o e n hx)
 ·obtain ⟨o',e1⟩:=I.base.there b o e hx
  exact there b o' (neC b o e hx) e1
 ·obtain ⟨m1,e1⟩:=I.base.tbls b ps e
  obtain ⟨m2,e2⟩:=tbls b _ e1
  exact ⟨m1++m2,by rw [e2,Array.append_assoc]⟩
 ·obtain ⟨m,hn,hl⟩:=I.loc
  refine ⟨m,ns m hn,λ i x v e1 e2 e3=>?_⟩
  obtain ⟨u,r,l⟩:=hl i x v e1 e2 e3
  refine ⟨u,r,?_⟩
  rcases l with l | ⟨k,c,e,z⟩
  ·exact .inl l
  ·exact .inr ⟨k,c,e,cellK x c e _ z⟩
 ·obtain ⟨v,z⟩:=I.cell x c e
  exact ⟨v,cellK x c e v z⟩
 ·obtain ⟨m,⟨o,_,_,ho,_⟩,_⟩:=I.loc
  exact free _ o (λ z=>(hch _ z).2.1 rfl) ho I.free
 ·obtain ⟨v,o,ho,hd⟩:=I.cell x c e
  exact free c o (λ z=>(hch c z).2.2.1 x c e rfl) ho (I.freeC x c e)
 ·obtain ⟨e,n,ne,nf,d⟩:=I.pin p hp
  have nch:p.1 ∉ ch:=λ z=>(hch p.1 z).2.2.2 p hp rfl
  exact ⟨keep p.1 p.2 ne nf nch e n,free p.1 p.2 nch e n,ne,nf,d⟩
theorem Inv.un {t':Nat} (I:Inv X pins σ H s) (u:Un X.fs [] H H' s.heap h') (hok:HOk X.prog X.w H' h'):Inv X pins σ H' { s with heap:=h',toks:=t' }:=by
 obtain ⟨m,⟨o,es,ep,ho,r⟩,_⟩:=id I.loc
 obtain ⟨sl,hL⟩:=u.any ho I.free (by simp)
 exact I.step (g':=s.gens) (d':=s.drawn) (ch:=[]) (λ _ z=>nomatch z) (λ b o _ hb _ e n=>u.keep b o e n hb (by simp)) (λ b o _ hb _ e n=>u.slot b o e n hb (by simp)) (λ b o _ e n=>u.free b o e n (by simp)) (λ b o _ e=>u.there b o e (by simp)) u.tups u.frzs u.tbls (λ m' hm=>by
  obtain ⟨o',es',ep',ho',r'⟩:=hm
  rw [ho] at ho';cases ho'
  exact ⟨_,es',ep',hL,r'⟩) hok I.bare
theorem Inv.call {g':Array GenState} {t':Nat} {d':Drawn} {ch:List Addr} (I:Inv X pins σ H s) (u:Un (frs X.stack) ch H H' s.heap h') (hok:HOk X.prog X.w H' h') (hg:AllBare g')
  (hch:∀ b∈ch,(b∈X.ex∨X.s₀.heap.objs.size<=b)/\b≠X.env.locals/\(∀ x c,X.env.cells.lookup x=some c->c≠b)/\∀ p∈X.pn++pins,p.1≠b) :
  Inv X pins σ H' { s with heap:=h',gens:=g',drawn:=d',toks:=t' }:=by
 obtain ⟨m,⟨o,es,ep,ho,r⟩,_⟩:=id I.loc
 obtain ⟨sl,hL⟩:=u.any ho I.free λ z=>(hch _ z).2.1 rfl
 exact I.step (ch:=ch) hch (λ b o hL hb hc e n=>u.keep b o e n (λ z=>(iw.mp (I.stkSub b z)).elim hL hb) hc) (λ b o _ _ hc e n=>u.any e n hc) (λ b o hc e n=>u.free b o e n hc) (λ b o hc e=>u.there b o e hc) u.tups u.frzs u.tbls (λ m' hm=>by
  obtain ⟨o',es',ep',ho',r'⟩:=hm
  rw [ho] at ho';cases ho'
  exact ⟨_,es',ep',hL,r'⟩) hok hg
theorem Inv.turned {t':Nat} {it:Addr} (I:Inv X pins σ H s) (k:∀ b o,b≠it->s.heap.get? b=some o->h'.get? b=some o) (hn:H it=none) (hL:it≠X.env.locals)
  (h1:it∈X.ex∨X.s₀.heap.objs.size<=it) (h2:∀ x c,X.env.cells.lookup x=some c->c≠it) (h3:∀ p∈X.pn++pins,p.1≠it):Inv X pins σ H { s with heap:=h',toks:=t' }:=by
 have nit:∀ b u,H b=some u->b≠it:=λ b u e z=>by rw [z,hn] at e;cases e
 refine I.step (g':=s.gens) (d':=s.drawn) (ch:=[it]) (λ b hb=>?_) (λ b o _ _ hc e _=>k b o (λ z=>hc (by simp [z])) e) (λ b o _ _ hc e _=>⟨o.slots,k b o (λ z=>hc (by simp [z])) e⟩) (λ _ _ _ _ n=>n)
  (λ b o hc e=>⟨o,k b o (λ z=>hc (by simp [z])) e⟩) (λ _ _ e=>e) (λ _ _ _ e=>e) (λ b ps e=>⟨#[],by rw [e];simp⟩) (λ m hm=>?_) (λ b u e=>?_) I.bare
 ·have e:b=it:=by simpa using hb
  subst e
  exact ⟨h1,hL,h2,h3⟩
 ·obtain ⟨o,es,ep,ho,r⟩:=hm
  exact ⟨o,es,ep,k _ o (Ne.symm hL) ho,r⟩
 ·refine (I.hok b u e).stay (λ c v hc q=>k c v ?_ q) (λ _ q=>q) λ _ _ q=>q
  rcases hc with z | z
  ·rw [z];exact nit b u e
  ·exact nit c _ z
theorem Inv.tok (I:Inv X pins σ H s) (t:Nat):Inv X pins σ H { s with toks:=t }:=I.un (h':=s.heap) (t':=t) Un.refl I.hok
theorem Inv.kept {t':Nat} (I:Inv X pins σ H s) (k:∀ b u,s.heap.get? b=some u->h'.get? b=some u):Inv X pins σ H { s with heap:=h',toks:=t' }:=I.un (Un.kept k) (I.hok.kept k)
theorem Inv.laid {a:Addr} {o:HO} {t':Nat} (I:Inv X pins σ H s) (k:∀ b u,s.heap.get? b=some u->h'.get? b=some u) (hp:s.heap.objs.size<=a) (new:ObjOk X.prog X.w (upd H a o) h' a o) :
  Inv X pins σ (upd H a o) { s with heap:=h',toks:=t' }:=I.un (Un.laid k hp (I.hok.fresh hp)) (I.hok.laid k hp new)
theorem Inv.write {x e:Addr} {o:HO} {t':Nat} (I:Inv X pins σ H s) (mu:Mut (H x)) (he:e=x∨H e=some (.own x)) (k:∀ b u,b≠e->s.heap.get? b=some u->h'.get? b=some u) (heo:∃ u,h'.get? e=some u)
  (new:ObjOk X.prog X.w (upd H x o) h' x o):Inv X pins σ (upd H x o) { s with heap:=h',toks:=t' }:=I.un (Un.write mu he k heo) (I.hok.write mu he k heo new)
theorem Inv.pins_of {pins':List (Addr × Obj)} (I:Inv X pins σ H s) (h:∀ p∈pins',s.heap.get? p.1=some p.2/\H p.1=none/\p.1≠X.env.locals/\p.1 ∉ X.fs/\∀ v,p.2.data≠.cell v):Inv X pins' σ H s:=
 ⟨I.ok,I.os,I.bare,I.base,I.loc,I.cell,I.free,I.freeC,λ p hp=>(iS.mp hp).elim (λ z=>I.pin p (iV _ z)) (h p),I.hok,I.len⟩
theorem nodup_ix {N:List Str} (hN:N.Nodup) {i j:Nat} {x:Str} (a:N[i]?=some x) (b:N[j]?=some x):i=j:=by
 obtain ⟨h1,e1⟩:=hV.mp a
 obtain ⟨h2,e2⟩:=hV.mp b
 exact (List.getElem_inj hN).mp (e1.trans e2.symm)
theorem store_ok2 {M:Model} {A:Around} {E:Value->Shared->Prop} {i:Nat} {x:Str} {v:V} {u:Value} {Q:Unit->Shared->Prop} (I:Inv X pins σ H s) (hN:X.N.Nodup) (hi:X.N[i]?=some x) (hx:Loc X.env.scope x) (r:RelV v u)
  (h:∀ s',Inv X pins (σ.set i (some v)) H s'->(∃ a,Heap.SameBut a s.heap s'.heap/\(a=X.env.locals∨X.env.cells.lookup x=some a))->Q () s') (hf:X.fn x=true∨X.env.scope.names.lookup x=some .local:=by first | exact .inl rfl | exact .inr rfl | assumption):wpAny M A (storeName X.env x u) Q E s:=by
 obtain ⟨m,hn,hl⟩:=id I.loc
 have hcls:(X.env.scope.kind == .class || (X.env.scope.kind == .module && X.env.locals != X.env.globals))=false:=by rw [I.ok.kind];rfl
 have hiσ:i < σ.length:=by rw [I.len];exact (hV.mp hi).1
 have cne:=I.cne
 have tracked:∀ {a:Addr} {h':Heap},(∃ o,s.heap.get? a=some o/\H a=none)->Heap.SameBut a s.heap h'->HOk X.prog X.w H h':=λ {a h'} ha hs b ob e=>by
  obtain ⟨_,_,hfree⟩:=ha
  refine (I.hok b ob e).stay (λ c w' hc q=>(hs.2 c ?_).trans q) (λ _ q=>q) λ _ _ q=>q
  rintro rfl
  rcases hc with rfl | hc
  ·rw [hfree] at e;cases e
  ·rw [hfree] at hc;cases hc
 rcases hx with hk | hk
 ·refine wpAny_storeName_local hk hn (λ h' hn' hs=>?_) hcls
  obtain ⟨oL,_,_,hoL,_⟩:=id hn
  refine h _ ⟨I.ok,I.os,I.bare,⟨λ b o e n hb hx=>?_,λ b o e n hb hx=>?_,I.base.free,λ b o e hx=>?_,I.base.tups,I.base.frzs,I.base.tbls⟩,⟨_,hn',λ j y v' e1 e2 e3=>?_⟩,λ y c e=>?_,I.free,I.freeC,λ p hp=>?_,tracked ⟨oL,hoL,I.free⟩ hs,by simpa using I.len⟩ ⟨_,hs,.inl rfl⟩
  ·exact (hs.2 b (iI (iL (ik e) I.ok.above))).trans (I.base.keep b o e n hb hx)
  ·obtain ⟨sl,e1⟩:=I.base.slot b o e n hb hx
   exact ⟨sl,(hs.2 b (iI (iL (ik e) I.ok.above))).trans e1⟩
  ·obtain ⟨o',e1⟩:=I.base.there b o e hx
   exact ⟨o',(hs.2 b (iI (iL (ik e) I.ok.above))).trans e1⟩
  ·by_cases hj:j=i
   ·subst hj
    rw [hi] at e1;cases e1
    rw [List.getElem?_set_self hiσ] at e2
    cases e2
    exact ⟨u,r,.inl ⟨hk,by simp⟩⟩
   ·rw [List.getElem?_set_ne (Ne.symm hj)] at e2
    obtain ⟨u',r',q⟩:=hl j y v' e1 e2 e3
    refine ⟨u',r',?_⟩
    rcases q with ⟨k,e⟩ | ⟨k,c,e,z⟩
    ·refine .inl ⟨k,?_⟩
     have:y≠x:=λ e=>hj (nodup_ix hN e1 (e ▸ hi))
     simp [this,e]
    ·exact .inr ⟨k,c,e,z.sameBut hs (cne y c e)⟩
  ·obtain ⟨w',z⟩:=I.cell y c e
   exact ⟨w',z.sameBut hs (cne y c e)⟩
  ·obtain ⟨e,n,ne,nf,d⟩:=I.pin p hp
   exact ⟨(hs.2 p.1 ne).trans e,n,ne,nf,d⟩
 ·have hfn:X.fn x=true:=by
   rcases hf with z | z
   ·exact z
   ·rw [z] at hk;cases hk
  obtain ⟨c,hc⟩:=I.ok.has x (.inl hk)
  obtain ⟨w',z⟩:=I.cell x c hc
  refine wpAny_storeName_cell I.ok.kind hk hc z (λ h' hc' hs=>?_)
  obtain ⟨oc,hoc,hocd⟩:=id z
  refine h { s with heap:=h' } ⟨I.ok,I.os,I.bare,⟨λ b o e n hb hx=>?_,λ b o e n hb hx=>?_,I.base.free,λ b o e hx=>?_,I.base.tups,I.base.frzs,I.base.tbls⟩,⟨m,hn.sameBut hs (Ne.symm (cne x c hc)),λ j y v' e1 e2 e3=>?_⟩,λ y c' e=>?_,I.free,I.freeC,λ p hp=>?_,tracked ⟨oc,hoc,I.freeC x c hc⟩ hs,by simpa using I.len⟩ ⟨c,hs,.inr hc⟩
  ·exact (hs.2 b (iI (iL (ik e) (I.ok.cab x c hfn hc)))).trans (I.base.keep b o e n hb hx)
  ·obtain ⟨sl,e1⟩:=I.base.slot b o e n hb hx
   exact ⟨sl,(hs.2 b (iI (iL (ik e) (I.ok.cab x c hfn hc)))).trans e1⟩
  ·obtain ⟨o',e1⟩:=I.base.there b o e hx
   exact ⟨o',(hs.2 b (iI (iL (ik e) (I.ok.cab x c hfn hc)))).trans e1⟩
  ·by_cases hj:j=i
   ·subst hj
    rw [hi] at e1;cases e1
    rw [List.getElem?_set_self hiσ] at e2
    cases e2
    exact ⟨u,r,.inr ⟨.inl hk,c,hc,hc'⟩⟩
   ·rw [List.getElem?_set_ne (Ne.symm hj)] at e2
    obtain ⟨u',r',q⟩:=hl j y v' e1 e2 e3
    refine ⟨u',r',?_⟩
    rcases q with q | ⟨k,c',e,z'⟩
    ·exact .inl q
    ·refine .inr ⟨k,c',e,z'.sameBut hs ?_⟩
     rintro rfl
     exact hj (nodup_ix hN e1 (I.ok.inj _ _ _ e hc ▸ hi))
  ·by_cases hcc:c'=c
   ·subst hcc;exact ⟨_,hc'⟩
   ·obtain ⟨w2,z2⟩:=I.cell y c' e
    exact ⟨w2,z2.sameBut hs hcc⟩
  ·obtain ⟨e,n,ne,nf,d⟩:=I.pin p hp
   refine ⟨(hs.2 p.1 ?_).trans e,n,ne,nf,d⟩
   intro q
   rw [q,hoc] at e
   have q':oc=p.2:=iG e
   exact d w' (by rw [<- q'];exact hocd)
theorem store_ok {M:Model} {A:Around} {E:Value->Shared->Prop} {i:Nat} {x:Str} {v:V} {u:Value} {Q:Unit->Shared->Prop} (I:Inv X pins σ H s) (hN:X.N.Nodup) (hi:X.N[i]?=some x) (hx:Loc X.env.scope x) (r:RelV v u)
  (h:∀ s',Inv X pins (σ.set i (some v)) H s'->Q () s') (hf:X.fn x=true∨X.env.scope.names.lookup x=some .local:=by first | exact .inl rfl | exact .inr rfl | assumption):wpAny M A (storeName X.env x u) Q E s:=
 store_ok2 I hN hi hx r (λ s' I' _=>h s' I') hf
theorem Inv.call' {s':Shared} {ch:List Addr} (I:Inv X pins σ H s) (ho:s'.os=s.os) (u:Un (frs X.stack) ch H H' s.heap s'.heap) (hok:HOk X.prog X.w H' s'.heap) (hg:AllBare s'.gens)
  (hch:∀ b∈ch,(b∈X.ex∨X.s₀.heap.objs.size<=b)/\b≠X.env.locals/\(∀ x c,X.env.cells.lookup x=some c->c≠b)/\∀ p∈X.pn++pins,p.1≠b):Inv X pins σ H' s':=by
 obtain ⟨h',g',d',t',o'⟩:=s'
 have e:o'=s.os:=ho
 subst e
 exact I.call (g':=g') (t':=t') (d':=d') u hok hg hch
end
noncomputable abbrev XK:=Value->Option Addr->Hp->Prop
noncomputable abbrev St:=List (Option V)
noncomputable abbrev VK:=V->Hp->Prop
noncomputable abbrev TE:=St->Hp->VK->Prop
noncomputable abbrev TT:=St->Hp->(Bool->Hp->Prop)->Prop
noncomputable abbrev TA:=St->Hp->(List V->Hp->Prop)->Prop
structure Ends where
 nx:St->Hp->Prop
 rt:VK
 bk:St->Hp->Prop:=λ _ _=>False
 ct:St->Hp->Prop:=λ _ _=>False
noncomputable abbrev TS:=Ends->St->Hp->Prop
noncomputable def EP (X:Cx) (pins:List (Addr × Obj)) (σ:St) (Q:VK) (u:Value) (s':Shared):Prop:=∃ v H',Inv X pins σ H' s'/\RelV v u/\Q v H'
noncomputable def TP (X:Cx) (pins:List (Addr × Obj)) (σ:St) (Q:Bool->Hp->Prop) (b:Bool) (s':Shared):Prop:=∃ H',Inv X pins σ H' s'/\Q b H'
noncomputable def AP (X:Cx) (pins:List (Addr × Obj)) (σ:St) (Q:List V->Hp->Prop) (us:List Value) (s':Shared):Prop:=∃ vs H',Inv X pins σ H' s'/\Vals vs us/\Q vs H'
noncomputable def SP (X:Cx) (pins:List (Addr × Obj)) (D:Ends) (f:Flow) (s':Shared):Prop:=
 match f with
 | .next=>∃ σ' H',Inv X pins σ' H' s'/\D.nx σ' H'
 | .brk=>∃ σ' H',Inv X pins σ' H' s'/\D.bk σ' H'
 | .cont=>∃ σ' H',Inv X pins σ' H' s'/\D.ct σ' H'
 | .ret u=>∃ v σ' H',Inv X pins σ' H' s'/\RelV v u/\D.rt v H'
noncomputable def PE (X:Cx) (e:Expr) (t:TE):Prop:=
 ∀ (pins:List (Addr × Obj)) (s:Shared) (σ:St) (H:Hp) (Q:VK),Inv X pins σ H s->t σ H Q->wpAny (model X.prog X.w) X.A (eval e X.env) (EP X pins σ Q) X.xe s
noncomputable def PT (X:Cx) (e:Expr) (t:TT):Prop:=
 ∀ (pins:List (Addr × Obj)) (s:Shared) (σ:St) (H:Hp) (Q:Bool->Hp->Prop),Inv X pins σ H s->t σ H Q->wpAny (model X.prog X.w) X.A (isTrue e X.env (eval e X.env)) (TP X pins σ Q) X.xe s
noncomputable def PW (X:Cx) (e:Expr) (t:TT):Prop:=
 ∀ (whole:Sem Value) (pins:List (Addr × Obj)) (s:Shared) (σ:St) (H:Hp) (Q:Bool->Hp->Prop),Inv X pins σ H s->t σ H Q->wpAny (model X.prog X.w) X.A (isTrue e X.env whole) (TP X pins σ Q) X.xe s
theorem PW.pt {X:Cx} {e:Expr} {t:TT} (h:PW X e t):PT X e t:=h _
noncomputable def PA (X:Cx) (es:List Expr) (t:TA):Prop:=
 ∀ (pos:Pos) (pins:List (Addr × Obj)) (s:Shared) (σ:St) (H:Hp) (Q:List V->Hp->Prop),Inv X pins σ H s->t σ H Q->wpAny (model X.prog X.w) X.A (spliced (backTo pos (starEach es X.env))) (AP X pins σ Q) X.xe s
noncomputable def PS (X:Cx) (st:Stmt) (t:TS):Prop:=
 ∀ (pins:List (Addr × Obj)) (s:Shared) (σ:St) (H:Hp) (D:Ends),Inv X pins σ H s->t D σ H->wpAny (model X.prog X.w) X.A (exec st X.env) (SP X pins D) X.xe s
noncomputable def PSs (X:Cx) (st:List Stmt) (t:TS):Prop:=
 ∀ (pins:List (Addr × Obj)) (s:Shared) (σ:St) (H:Hp) (D:Ends),Inv X pins σ H s->t D σ H->wpAny (model X.prog X.w) X.A (execs st X.env) (SP X pins D) X.xe s
theorem thn {α:Type} {t:Sem α} {Q Q':α->Shared->Prop} {M:Model} {A:Around} {E:Value->Shared->Prop} {s:Shared} (h:wpAny M A t Q E s) (hQ:∀ a s,Q a s->Q' a s):wpAny M A t Q' E s:=iX h hQ λ _ _ x=>x
end L2
namespace L2
open PySem PySem.Spec PyProof.Rows
section
variable {X:Cx}
inductive ItVar (i:Nat) (σ:St) (H:Hp) (Q:VK):Prop
 | mk (v:_) (h1:σ[i]?=some (some v)) (h2:Q v H):ItVar i σ H Q
noncomputable def tVar (i:Nat):TE:=λ σ H Q=>ItVar i σ H Q
noncomputable def tC (v:V):TE:=λ _ H Q=>Q v H
theorem pe_var {i:Nat} {x:Str} {pos:Pos} (hN:X.N[i]?=some x) (hv:Vis X.env.scope x) (hd:(x == ("__debug__":Str))=false:=by decide) (hcd:(x == ("__classdict__":Str))=false:=by decide):PE X (.Name x pos) (tVar i):=by
 intro pins s σ H Q I h
 obtain ⟨v,e,h⟩:=h
 obtain ⟨m,hn,hl⟩:=I.loc
 obtain ⟨u,r,l⟩:=hl i x v hN e hv
 have fin:EP X pins σ Q u s:=⟨v,H,I,r,h⟩
 rcases l with ⟨hk,hm⟩ | ⟨hk,c,hc,hcell⟩
 ·exact wpAny_Name (wpAny_loadName_local I.ok.kind hk hn hm fin) hd
 ·rcases hk with hk | hk
  ·exact wpAny_Name (wpAny_loadName_cell I.ok.kind hk hc hcell fin) hd
  ·exact wpAny_Name (wpAny_loadName_free I.ok.kind hk hc hcell fin hcd) hd
theorem ae {i j pos}:PE X (.Constant (.int i) j pos) (tC (.int i)):=λ _ _ _ H _ I h=>wpAny_Constant_int ⟨.int i,H,I.tok _,⟨_,rfl⟩,h⟩
theorem f9 {b j pos}:PE X (.Constant (.bool b) j pos) (tC (.bl b)):=λ _ _ _ H _ I h=>Constant_bool ⟨.bl b,H,I,rfl,h⟩
theorem dr {j pos}:PE X (.Constant .none j pos) (tC .non):=λ _ _ _ H _ I h=>Constant_none ⟨.non,H,I,rfl,h⟩
theorem dQ {x j pos}:PE X (.Constant (.str x) j pos) (tC (.str x)):=λ _ _ _ H _ I h=>Calls.Constant_str ⟨.str x,H,I.tok _,⟨_,rfl⟩,h⟩
noncomputable def Gl (X:Cx) (x:Str):Prop:=X.env.kindOf x=some .globalImplicit
theorem eo {E:Value->Shared->Prop} {pins:List (Addr × Obj)} {s:Shared} {σ:St} {H:Hp} {x:Str} {u:Value} {pos:Pos} {Q:Value->Shared->Prop} (I:Inv X pins σ H s) (hg:Gl X x) (hm:X.mg x=some u) (h:Q u s)
  (hd:(x == ("__debug__":Str))=false:=by decide):wpAny (model X.prog X.w) X.A (eval (.Name x pos) X.env) Q E s:=
 Calls.Name_function_global I.ok.kind hg (Calls.loadGlobal_global (by rw [I.ok.glob];exact I.mod.glob.keeps I.bk) hm h) hd
theorem fe {E:Value->Shared->Prop} {pins:List (Addr × Obj)} {s:Shared} {σ:St} {H:Hp} {x:Str} {u:Value} {pos:Pos} {Q:Value->Shared->Prop} (I:Inv X pins σ H s) (hg:Gl X x) (hm:X.mg x=none) (hv:bootBuiltins x=some u) (h:Q u s)
  (hn:x≠"__name__":=by decide) (hd:(x == ("__debug__":Str))=false:=by decide):wpAny (model X.prog X.w) X.A (eval (.Name x pos) X.env) Q E s:=by
 obtain ⟨mb,h1,h2⟩:=I.mod.blt
 exact Calls.Name_function_global I.ok.kind hg (Calls.loadGlobal_builtin (by rw [I.ok.glob];exact I.mod.glob.keeps I.bk) hm (by rw [I.ok.blt];exact h1.keeps I.bk) ((h2 x hn).trans hv) h) hd
theorem pe_glob {x:Str} {v:V} {u:Value} {pos:Pos} (hg:Gl X x) (hm:X.mg x=some u) (r:RelV v u) (hd:(x == ("__debug__":Str))=false:=by decide):PE X (.Name x pos) (tC v):=
 λ _ _ _ H _ I h=>eo I hg hm ⟨v,H,I,r,h⟩ hd
theorem gu {x:Str} {v:V} {u:Value} {pos:Pos} (hg:Gl X x) (hm:X.mg x=none) (hv:bootBuiltins x=some u) (r:RelV v u) (hn:x≠"__name__":=by decide) (hd:(x == ("__debug__":Str))=false:=by decide):PE X (.Name x pos) (tC v):=
 λ _ _ _ H _ I h=>fe I hg hm hv ⟨v,H,I,r,h⟩ hn hd
variable {a b:Expr} {ta tb:TE} {pos:Pos}
noncomputable def PC (X:Cx) (op:CmpOp) (a b:Expr) (t:TE):Prop:=
 ∀ (pins:List (Addr × Obj)) (s:Shared) (σ:St) (H:Hp) (Q:VK),Inv X pins σ H s->t σ H Q->
  wpAny (model X.prog X.w) X.A (eval a X.env) (λ v s₁=>wpAny (model X.prog X.w) X.A (eval b X.env) (λ u s₂=>wpAny (model X.prog X.w) X.A (compareOp op v u) (EP X pins σ Q) X.xe s₂) X.xe s₁) X.xe s
inductive ItB (Q:Bool->Hp->Prop) (x:V) (H1:Hp):Prop
 | mk (c:_) (h1:x=.bl c) (h2:Q c H1):ItB Q x H1
noncomputable def tB (t:TE):TT:=λ σ H Q=>t σ H λ x H1=>ItB Q x H1
theorem gH {op:CmpOp} {t:TE} (h:PC X op a b t) (h1:behindInMarks op b=false:=by first | exact nobehind _ (by decide) (by decide) | rfl):PT X (.Compare a [op] [b] pos) (tB t):=by
 intro pins s σ H Q I hw
 refine wpAny_isTrue_Compare1 (thn (h pins s σ H _ I hw) λ v s1 h1=>thn h1 λ u s2 h2=>thn h2 λ c s3 ⟨x,H1,I1,r1,q1⟩=>?_) h1
 obtain ⟨d,rfl,q⟩:=q1
 cases r1
 exact wpAny_truthy_bool ⟨H1,I1,q⟩
theorem d7 {e:Expr} {t:TE} (h:PE X e t) (he:∀ whole,isTrue e X.env whole=(do let v <- whole;standAt e.pos;holding [v] (truthy v)):=by intro _;rfl):PT X e (tB t):=by
 intro pins s σ H Q I hw
 refine isTrue_plain (thn (h pins s σ H _ I hw) λ v s1 ⟨x,H1,I1,r1,q1⟩=>?_) (he _)
 obtain ⟨d,rfl,q⟩:=q1
 cases r1
 exact wpAny_truthy_bool ⟨H1,I1,q⟩
variable {tA tB':TT} {rest:List Expr}
noncomputable def tAnd (t u:TT):TT:=λ σ H Q=>t σ H λ c H1=>if c=true then u σ H1 Q else Q false H1
noncomputable def tOr (t u:TT):TT:=λ σ H Q=>t σ H λ c H1=>if c=true then Q true H1 else u σ H1 Q
noncomputable def tNot (t:TT):TT:=λ σ H Q=>t σ H λ c H1=>Q (!c) H1
theorem pw_and1 (ha:PT X a tA):PW X (.BoolOp .And [a] pos) tA:=by
 intro wh pins s σ H Q I h
 refine isTrue_and (thn (ha pins s σ H Q I h) λ c s1 e=>?_)
 cases c with
 | true=>exact isTrue_and_nil e
 | false=>exact e
theorem gG (ha:PT X a tA):PW X (.BoolOp .Or [a] pos) tA:=by
 intro wh pins s σ H Q I h
 refine isTrue_or (thn (ha pins s σ H Q I h) λ c s1 e=>?_)
 cases c with
 | false=>exact isTrue_or_nil e
 | true=>exact e
theorem pw_and (ha:PT X a tA) (hb:PW X (.BoolOp .And (b::rest) pos) tB'):PW X (.BoolOp .And (a::b::rest) pos) (tAnd tA tB'):=by
 intro wh pins s σ H Q I h
 refine isTrue_and (thn (ha pins s σ H _ I h) λ c s1 ⟨H1,I1,q1⟩=>?_)
 cases c with
 | true=>exact hb wh pins s1 σ H1 Q I1 q1
 | false=>exact ⟨H1,I1,q1⟩
theorem pw_or (ha:PT X a tA) (hb:PW X (.BoolOp .Or (b::rest) pos) tB'):PW X (.BoolOp .Or (a::b::rest) pos) (tOr tA tB'):=by
 intro wh pins s σ H Q I h
 refine isTrue_or (thn (ha pins s σ H _ I h) λ c s1 ⟨H1,I1,q1⟩=>?_)
 cases c with
 | true=>exact ⟨H1,I1,q1⟩
 | false=>exact hb wh pins s1 σ H1 Q I1 q1
theorem e9 (ha:PT X a tA):PT X (.UnaryOp .Not a pos) (tNot tA):=by
 intro pins s σ H Q I h
 exact isTrue_not (ha pins s σ H (λ c H1=>Q (!c) H1) I h)
noncomputable def tAndV (ta tb:TE):TE:=λ σ H Q=>ta σ H λ x H1=>∃ c,x=.bl c/\if c=true then tb σ H1 Q else Q (.bl false) H1
theorem pe_one {op} {t:TE} (h:PE X a t):PE X (.BoolOp op [a] pos) t:=λ pins s σ H Q I hw=>BoolOp_one (h pins s σ H Q I hw)
theorem pe_and (ha:PE X a ta) (hb:PE X (.BoolOp .And (b::rest) pos) tb):PE X (.BoolOp .And (a::b::rest) pos) (tAndV ta tb):=by
 intro pins s σ H Q I h
 refine BoolOp_and (thn (ha pins s σ H _ I h) λ v s1 ⟨x,H1,I1,r1,q1⟩=>?_)
 obtain ⟨c,rfl,q1⟩:=q1
 cases r1
 refine wpAny_truthy_bool ?_
 cases c with
 | true=>exact hb pins s1 σ H1 Q I1 q1
 | false=>exact ⟨.bl false,H1,I1,rfl,q1⟩
noncomputable def tIf (t:TT) (ta tb:TE):TE:=λ σ H Q=>t σ H λ c H1=>if c=true then ta σ H1 Q else tb σ H1 Q
theorem pe_ifExp {c:Expr} (hc:PT X c tA) (ha:PE X a ta) (hb:PE X b tb):PE X (.IfExp c a b pos) (tIf tA ta tb):=by
 intro pins s σ H Q I h
 refine wpAny_IfExp (thn (hc pins s σ H _ I h) λ d s1 ⟨H1,I1,q1⟩=>?_)
 cases d with
 | true=>exact ha pins s1 σ H1 Q I1 q1
 | false=>exact hb pins s1 σ H1 Q I1 q1
end
end L2
namespace L2
open PySem PySem.Spec PyProof.Rows
noncomputable def SqL (K:W.Frag) (H:Hp) (a:Addr) (xs:List V):Prop:=
 Rd H a (.lst xs)∨
  ∃ (o:Obj) (its:Array Value) (n:Nat),K.lookup a=some o/\o.cls=.type "list"/\o.dict=none/\o.data=.seq its n/\its.size<=sizeLine/\Vals xs its.toList
noncomputable def SqT (K:W.Frag) (H:Hp) (a:Addr) (xs:List V):Prop:=
 Rd H a (.tup xs)∨
  ∃ (o:Obj) (its:Array Value) (n:Nat),K.lookup a=some o/\o.cls=.type "tuple"/\o.data=.seq its n/\its.size<=sizeLine/\Vals xs its.toList
noncomputable def absV:Value->Option V
 | .none=>some .non
 | .bool b=>some (.bl b)
 | .int i _=>some (.int i)
 | .str x _=>some (.str x)
 | .bytes b _=>some (.byt b)
 | .float b _=>some (.flt b)
 | .ref a=>some (.ref a)
 | .type n=>some (.ty n)
 | _=>none
theorem RelV.abs {x:V} {u:Value} (r:RelV x u):absV u=some x:=by
 cases x with
 | non=>cases r;rfl
 | bl _=>cases r;rfl
 | int _=>obtain ⟨t,rfl⟩:=r;rfl
 | str _=>obtain ⟨t,rfl⟩:=r;rfl
 | byt _=>obtain ⟨t,rfl⟩:=r;rfl
 | flt _=>obtain ⟨t,rfl⟩:=r;rfl
 | ref _=>cases r;rfl
 | ty _=>cases r;rfl
theorem RelV.inj {x y:V} {u:Value} (r:RelV x u) (q:RelV y u):x=y:=iG (r.abs.symm.trans q.abs)
theorem Vals.inj:∀ {xs ys:List V} {us:List Value},Vals xs us->Vals ys us->xs=ys
 | _,_,_,.nil,.nil=>rfl
 | _,_,_,.cons r t,.cons r' t'=>by rw [r.inj r',Vals.inj t t']
section
variable {X:Cx} {pins:List (Addr × Obj)} {σ:St} {H:Hp} {s:Shared} {a:Addr} {xs ys:List V}
theorem SqL.of {K:W.Frag} (h:H a=some (.lst xs)):SqL K H a xs:=.inl (.inl h)
theorem SqT.of {K:W.Frag} (h:H a=some (.tup xs)):SqT K H a xs:=.inl (.inl h)
theorem Inv.list (I:Inv X pins σ H s) (h:SqL X.K H a xs):∃ its:List Value,Vals xs its/\PlainL s.heap a its.toArray/\xs.length<=sizeLine:=by
 rcases h with h | ⟨o,its,n,hk,hc,hd,hs,hz,r⟩
 ·obtain ⟨z,its,n,r,e⟩:=h.ok I.hok
  exact ⟨its,r,⟨_,n,e,rfl,rfl,rfl⟩,z⟩
 ·refine ⟨its.toList,r,⟨o,n,I.kIn a o hk,hc,hd,by simpa using hs⟩,?_⟩
  have e:=r.length
  simp only [Array.length_toList] at e
  omega
theorem Inv.tuple (I:Inv X pins σ H s) (h:SqT X.K H a xs):∃ its:List Value,Vals xs its/\IsTup s.heap a its.toArray/\xs.length<=sizeLine:=by
 rcases h with h | ⟨o,its,n,hk,hc,hs,hz,r⟩
 ·obtain ⟨z,its,r,p⟩:=h.ok I.hok
  exact ⟨its,r,p,z⟩
 ·refine ⟨its.toList,r,⟨o,I.kIn a o hk,hc,n,by simpa using hs⟩,?_⟩
  have e:=r.length
  simp only [Array.length_toList] at e
  omega
theorem Inv.list_inj (I:Inv X pins σ H s) (h:SqL X.K H a xs) (h':SqL X.K H a ys):xs=ys:=by
 obtain ⟨its,r,⟨o,n,e,_,_,d⟩,_⟩:=I.list h
 obtain ⟨its',r',⟨o',n',e',_,_,d'⟩,_⟩:=I.list h'
 rw [e] at e';cases e'
 rw [d] at d'
 injection d' with d1 _
 have:its=its':=by simpa using i7 Array.toList d1
 subst this
 exact r.inj r'
theorem Inv.tuple_inj (I:Inv X pins σ H s) (h:SqT X.K H a xs) (h':SqT X.K H a ys):xs=ys:=by
 obtain ⟨its,r,⟨o,e,_,n,d⟩,_⟩:=I.tuple h
 obtain ⟨its',r',⟨o',e',_,n',d'⟩,_⟩:=I.tuple h'
 rw [e] at e';cases e'
 rw [d] at d'
 injection d' with d1 _
 have:its=its':=by simpa using i7 Array.toList d1
 subst this
 exact r.inj r'
end
noncomputable abbrev Cx.wish (X:Cx) (E:Value->Shared->Prop):Cx:={ X with xe:=E }
noncomputable abbrev Cx.nox (X:Cx):Cx:=X.wish λ _ _=>False
theorem Cx.Ok.wish {X:Cx} (ok:X.Ok) (E:Value->Shared->Prop):(X.wish E).Ok:=
 ⟨ok.mod,ok.kind,ok.glob,ok.blt,ok.above,ok.inj,ok.has,ok.cab,ok.hd,ok.frames,ok.stk,ok.exf,ok.bs,ok.bsz,ok.noex,ok.exfs,ok.funs,ok.frf⟩
theorem Cx.Ok.unwish {X:Cx} {E:Value->Shared->Prop} (ok:(X.wish E).Ok):X.Ok:=
 ⟨ok.mod,ok.kind,ok.glob,ok.blt,ok.above,ok.inj,ok.has,ok.cab,ok.hd,ok.frames,ok.stk,ok.exf,ok.bs,ok.bsz,ok.noex,ok.exfs,ok.funs,ok.frf⟩
section
variable {X:Cx} {pins:List (Addr × Obj)} {σ:St} {H:Hp} {s:Shared} {E:Value->Shared->Prop}
theorem Inv.wish (I:Inv X pins σ H s) (E:Value->Shared->Prop):Inv (X.wish E) pins σ H s:=⟨I.ok.wish E,I.os,I.bare,I.base,I.loc,I.cell,I.free,I.freeC,I.pin,I.hok,I.len⟩
theorem Inv.unwish (I:Inv (X.wish E) pins σ H s):Inv X pins σ H s:=⟨I.ok.unwish,I.os,I.bare,I.base,I.loc,I.cell,I.free,I.freeC,I.pin,I.hok,I.len⟩
theorem SP.unwish {D:Ends} {f:Flow} {s':Shared} (h:SP (X.wish E) pins D f s'):SP X pins D f s':=by
 cases f with
 | next=>obtain ⟨σ',H',I,q⟩:=h;exact ⟨σ',H',I.unwish,q⟩
 | brk=>obtain ⟨σ',H',I,q⟩:=h;exact ⟨σ',H',I.unwish,q⟩
 | cont=>obtain ⟨σ',H',I,q⟩:=h;exact ⟨σ',H',I.unwish,q⟩
 | ret u=>obtain ⟨v,σ',H',I,r,q⟩:=h;exact ⟨v,σ',H',I.unwish,r,q⟩
theorem PSs.nox {st:List Stmt} {t:TS} (h:PSs X.nox st t):PSs X st t:=λ pins s σ H D I hw=>
 iX (h pins s σ H D (I.wish _) hw) (λ _ _ q=>q.unwish) λ _ _ z=>False.elim z
end
section
variable {X:Cx} {st:Stmt} {rest:List Stmt} {t u:TS} {e:Expr} {te:TE} {pos:Pos}
noncomputable def tNext:TS:=λ D σ H=>D.nx σ H
noncomputable def tSeq (t u:TS):TS:=λ D σ H=>t { D with nx:=u D } σ H
theorem aE:PSs X [] tNext:=λ _ _ σ H _ I h=>wpAny_execs_nil ⟨σ,H,I,h⟩
theorem ag (h1:PS X st t) (h2:PSs X rest u):PSs X (st::rest) (tSeq t u):=by
 intro pins s σ H D I h
 refine wpAny_execs_cons (thn (h1 pins s σ H { D with nx:=u D } I h) λ f s1 q=>?_)
 cases f with
 | next=>
  obtain ⟨σ',H',I',q⟩:=q
  exact h2 pins s1 σ' H' D I' q
 | ret v=>exact q
 | brk=>exact q
 | cont=>exact q
theorem ah (h1:PS X st t):PSs X [st] t:=by
 intro pins s σ H D I h
 refine wpAny_execs_cons (thn (h1 pins s σ H D I h) λ f s1 q=>?_)
 cases f with
 | next=>exact wpAny_execs_nil q
 | ret v=>exact q
 | brk=>exact q
 | cont=>exact q
theorem Inv.quiet {pins:List (Addr × Obj)} {σ:St} {H:Hp} {s:Shared} (I:Inv X pins σ H s):interactive X.env=false:=by simp [interactive,I.ok.kind]
noncomputable def tDrop (te:TE):TS:=λ D σ H=>te σ H λ _ H1=>D.nx σ H1
theorem aT (he:PE X e te) (hs:swapsWith e none pos.line X.env=pure false:=by rfl):PS X (.Expr e pos) (tDrop te):=by
 intro pins s σ H D I h
 exact wpAny_Expr_any (thn (he pins s σ H _ I h) λ v s1 ⟨x,H1,I1,r1,q1⟩=>⟨σ,H1,I1,q1⟩) I.quiet hs
noncomputable def tRet (te:TE):TS:=λ D σ H=>te σ H D.rt
theorem aw (he:PE X e te):PS X (.Return (some e) pos) (tRet te):=by
 intro pins s σ H D I h
 exact wpAny_Return_some (thn (he pins s σ H _ I h) λ v s1 ⟨x,H1,I1,r1,q1⟩=>⟨x,σ,H1,I1,r1,q1⟩)
noncomputable def tIfS (c:TT) (t u:TS):TS:=λ D σ H=>c σ H λ b H1=>if b=true then t D σ H1 else u D σ H1
theorem aS {c:Expr} {a b:List Stmt} {tc:TT} (hc:PT X c tc) (ha:PSs X a t) (hb:PSs X b u):PS X (.If c a b pos) (tIfS tc t u):=by
 intro pins s σ H D I h
 refine wpAny_If (thn (hc pins s σ H _ I h) λ d s1 ⟨H1,I1,q1⟩=>?_)
 cases d with
 | true=>exact ha pins s1 σ H1 D I1 q1
 | false=>exact hb pins s1 σ H1 D I1 q1
noncomputable def tNever:TS:=λ _ _ _=>False
theorem cj:PS X st tNever:=λ _ _ _ _ _ _ h=>h.elim
end
noncomputable abbrev TG:=V->St->Hp->(St->Hp->Prop)->Prop
noncomputable abbrev TGs:=List V->St->Hp->(St->Hp->Prop)->Prop
noncomputable def PG (X:Cx) (target:Expr) (t:TG):Prop:=
 ∀ (pins:List (Addr × Obj)) (s:Shared) (σ:St) (H:Hp) (v:V) (u:Value) (Q:St->Hp->Prop),Inv X pins σ H s->RelV v u->t v σ H Q->
  wpAny (model X.prog X.w) X.A (assign target X.env u) (λ _ s'=>∃ σ' H',Inv X pins σ' H' s'/\Q σ' H') X.xe s
noncomputable def PGs (X:Cx) (ts:List Expr) (t:TGs):Prop:=
 ∀ (pins:List (Addr × Obj)) (s:Shared) (σ:St) (H:Hp) (vs:List V) (us:List Value) (Q:St->Hp->Prop),Inv X pins σ H s->Vals vs us->t vs σ H Q->
  wpAny (model X.prog X.w) X.A (assignInOrder ((assignEach ts X.env).map (·.2)) us) (λ _ s'=>∃ σ' H',Inv X pins σ' H' s'/\Q σ' H') X.xe s
section
variable {X:Cx} {pos:Pos}
noncomputable def gName (i:Nat):TG:=λ v σ H Q=>Q (σ.set i (some v)) H
theorem aq {i:Nat} {x:Str} (hN:X.N.Nodup) (hi:X.N[i]?=some x) (hx:Loc X.env.scope x) (hf:X.fn x=true∨X.env.scope.names.lookup x=some .local:=by first | exact .inl rfl | exact .inr rfl | assumption):PG X (.Name x pos) (gName i):=by
 intro pins s σ H v u Q I r h
 exact wpAny_assign_Name (store_ok I hN hi hx r (λ s' I'=>⟨_,H,I',h⟩) hf)
noncomputable def gNil:TGs:=λ vs σ H Q=>vs=[]/\Q σ H
inductive IgCons (t:TG) (u:TGs) (vs:List V) (σ:St) (H:Hp) (Q:St->Hp->Prop):Prop
 | mk (v:_) (r:_) (h1:vs=v::r) (h2:t v σ H λ σ' H'=>u r σ' H' Q):IgCons t u vs σ H Q
noncomputable def gCons (t:TG) (u:TGs):TGs:=λ vs σ H Q=>IgCons t u vs σ H Q
theorem cG:PGs X [] gNil:=by
 intro pins s σ H vs us Q I r h
 obtain ⟨e,h⟩:=h
 subst e
 cases r
 exact assignInOrder_nil ⟨σ,H,I,h⟩
theorem aF {e:Expr} {es:List Expr} {t:TG} {u:TGs} (h1:PG X e t) (h2:PGs X es u)
  (hs:(assignEach (e::es) X.env).map (·.2)=assign e X.env::(assignEach es X.env).map (·.2):=by rfl):PGs X (e::es) (gCons t u):=by
 intro pins s σ H vs us Q I r h
 obtain ⟨v,vr,e1,h⟩:=h
 subst e1
 cases r with
 | cons r rr=>
  rw [hs]
  refine assignInOrder_cons (thn (h1 pins s σ H _ _ _ I r h) λ _ s1 ⟨σ1,H1,I1,q1⟩=>?_)
  exact h2 pins s1 σ1 H1 _ _ Q I1 rr q1
inductive IgTup (K:W.Frag) (n:Nat) (t:TGs) (v:V) (σ:St) (H:Hp) (Q:St->Hp->Prop):Prop
 | mk (a:_) (xs:_) (h1:v=.ref a) (h2:SqT K H a xs) (h3:xs.length=n) (h4:t xs σ H Q):IgTup K n t v σ H Q
noncomputable def gTup (K:W.Frag) (n:Nat) (t:TGs):TG:=λ v σ H Q=>IgTup K n t v σ H Q
theorem dm {es:List Expr} {k:Nat} {t:TGs} {n:Nat} (hc:X.calm=true) (h:PGs X es t)
  (hn:(assignEach es X.env).length=n:=by rfl) (hst:(assignEach es X.env).findIdx? (·.1)=none:=by rfl):PG X (.Tuple es k pos) (gTup X.K n t):=by
 intro pins s σ H v u Q I r hw
 obtain ⟨a,xs,e1,hq,hl,hw⟩:=hw
 subst e1
 cases r
 obtain ⟨its,rv,ht,hz⟩:=I.tuple hq
 refine assign_Tuple_tuple (I.ok.hd hc) ht (by simp [hn,<- hl,rv.length]) hst λ h' hx=>?_
 have I1:Inv X pins σ H { s with heap:=h' }:=I.kept (t':=s.toks) λ b o e=>hx b o (iI (ik e)) e
 exact h pins _ σ H xs _ Q I1 (by simpa using rv) hw
noncomputable def tAsg (te:TE) (g:TG):TS:=λ D σ H=>te σ H λ x H1=>g x σ H1 D.nx
theorem ps_asg {tg e:Expr} {te:TE} {g:TG} (he:PE X e te) (hg:PG X tg g) (hs:swapsWithSole [tg] e pos.line X.env=pure false:=by rfl) (hw:swappedStores [tg] e X.env=pure none:=by rfl)
  (h1:(assignEach [tg] X.env).map (·.2)=[assign tg X.env]:=by rfl):PS X (.Assign [tg] e pos) (tAsg te g):=by
 intro pins s σ H D I h
 refine wpAny_Assign_stores (thn (he pins s σ H _ I h) λ v s1 ⟨x,H1,I1,r1,q1⟩=>?_) hs hw
 rw [h1]
 exact thn (hg pins s1 σ H1 x v _ I1 r1 q1) λ _ s2 q=>q
theorem au {i:Nat} {x:Str} {e:Expr} {te:TE} {pos':Pos} (hN:X.N.Nodup) (hi:X.N[i]?=some x) (hx:Loc X.env.scope x) (he:PE X e te) (hs:swapsWith e (some (.Name x pos')) pos.line X.env=pure false:=by rfl) (hf:X.fn x=true∨X.env.scope.names.lookup x=some .local:=by first | exact .inl rfl | exact .inr rfl | assumption) :
  PS X (.Assign [.Name x pos'] e pos) (tAsg te (gName i)):=by
 intro pins s σ H D I h
 refine wpAny_Assign_Name (thn (he pins s σ H _ I h) λ v s1 ⟨y,H1,I1,r1,q1⟩=>?_) hs
 exact store_ok I1 hN hi hx r1 (λ s2 I2=>⟨_,H1,I2,q1⟩) hf
end
section
variable {X:Cx} {pos:Pos}
noncomputable def tWhile (c:TT) (tb:TS):TS:=λ D σ H=>∃ W:Nat->St->Hp->Prop,(∃ m,W m σ H)/\∀ m σ H,W m σ H->
 c σ H λ b H1=>if b=true then ∃ N:St->Hp->Prop,(∀ σ' H',N σ' H'->∃ m',m'<m/\W m' σ' H')/\tb { D with nx:=N,ct:=N,bk:=D.nx } σ H1 else D.nx σ H1
theorem ps_while {c:Expr} {body:List Stmt} {tc:TT} {tb:TS} (hp:PassesOwn (model X.prog X.w) X.A X.env X.xe) (hc:PT X c tc) (hb:PSs X body tb):PS X (.While c body [] pos) (tWhile tc tb):=by
 intro pins s σ H D I h
 obtain ⟨W,⟨m0,w0⟩,turn⟩:=h
 refine wpAny_While (codeAny_whileLoop (λ n s'=>∃ σ' H',Inv X pins σ' H' s'/\W n σ' H') ?_ m0 ⟨σ,H,I,w0⟩)
 rintro n s1 ⟨σ1,H1,I1,w1⟩
 refine wpAny_passesOwn hp (thn (hc pins s1 σ1 H1 _ I1 (turn n σ1 H1 w1)) λ b s2 ⟨H2,I2,q2⟩=>?_)
 cases b with
 | true=>
  obtain ⟨N,hN,q2⟩:=q2
  rw [if_pos rfl]
  refine wpAny_passesOwn hp (thn (hb pins s2 σ1 H2 _ I2 q2) λ f s3 q3=>?_)
  cases f with
  | next=>
   obtain ⟨σ3,H3,I3,n3⟩:=q3
   obtain ⟨m',hm,w3⟩:=hN σ3 H3 n3
   exact ⟨m',hm,σ3,H3,I3,w3⟩
  | cont=>
   obtain ⟨σ3,H3,I3,n3⟩:=q3
   obtain ⟨m',hm,w3⟩:=hN σ3 H3 n3
   exact ⟨m',hm,σ3,H3,I3,w3⟩
  | brk=>exact q3
  | ret v=>exact q3
 | false=>
  rw [if_neg iC]
  exact wpAny_execs_nil ⟨σ1,H2,I2,q2⟩
end
structure It where
 go:Nat->Hp->Prop
 yld:Nat->Hp->V->Hp->Prop
 stop:Nat->Hp->Prop
noncomputable def FpOk (X:Cx) (pins:List (Addr × Obj)) (H:Hp) (b:Addr):Prop:=
 H b=none/\b≠X.env.locals/\b ∉ X.fs/\(b∈X.ex∨X.s₀.heap.objs.size<=b)/\(∀ x c,X.env.cells.lookup x=some c->c≠b)/\∀ p∈X.pn++pins,p.1≠b
theorem Inv.fpOk {X:Cx} {pins:List (Addr × Obj)} {σ:St} {H H':Hp} {s:Shared} {b:Addr} (I:Inv X pins σ H s) (hb:s.heap.objs.size<=b) (hn:H' b=none):FpOk X pins H' b:=by
 refine ⟨hn,jg (iL I.lt hb),I.nofs hb,.inr (ie I.sz hb),λ x c e z=>?_,λ p hp z=>?_⟩
 ·obtain ⟨v,q⟩:=I.cell x c e
  exact absurd (iL q.lt (by rw [z];exact hb)) (iP _)
 ·exact absurd (iL (ik (I.pin p hp).1) (by rw [z];exact hb)) (iP _)
structure Turn (P:Program) (w:World) (K:W.Frag) (tg:Expr) (J:It) (fp:List Addr) (it:Addr) (tn:Nat->Heap->Prop):Prop where
 mem:it∈fp
 obj:∀ i h,tn i h->∀ b∈fp,∃ o,h.get? b=some o/\∀ v,o.data≠.cell v
 keep:∀ i h h',tn i h->(∀ b∈fp,∀ o,h.get? b=some o->h'.get? b=some o)->tn i h'
 item:∀ (X:Cx),X.prog=P->X.w=w->X.K=K->X.calm=true->∀ (i:Nat) (pins:List (Addr × Obj)) (s:Shared) (σ:St) (H:Hp) (E:Value->Shared->Prop),Inv X pins σ H s->(∀ b∈fp,FpOk X pins H b)->tn i s.heap->J.go i H->
  wpAny (model P w) X.A (pyNext (.ref it)) (λ r s1=>∃ u,r=some u/\
   wpAny (model P w) X.A (letOwnedTupleGo tg (.ref it) u) (λ _ s2=>∃ x H',Inv X pins σ H' s2/\RelV x u/\J.yld i H x H'/\tn (i+1) s2.heap/\∀ b∈fp,H' b=none) E s1) E s
 done:∀ (X:Cx),X.prog=P->X.w=w->X.K=K->X.calm=true->∀ (i:Nat) (pins:List (Addr × Obj)) (s:Shared) (σ:St) (H:Hp) (E:Value->Shared->Prop),Inv X pins σ H s->(∀ b∈fp,FpOk X pins H b)->tn i s.heap->J.stop i H->
  wpAny (model P w) X.A (pyNext (.ref it)) (λ r s1=>r=none/\Inv X pins σ H s1) E s
 self:∀ (A:Around) (i:Nat) (s:Shared) (Q:Value->Shared->Prop) (E:Value->Shared->Prop),tn i s.heap->Q (.ref it) s->wpAny (model P w) A (pyIter (.ref it)) Q E s
noncomputable abbrev TI:=St->Hp->(It->Hp->Prop)->Prop
noncomputable def PIE (X:Cx) (pins:List (Addr × Obj)) (σ:St) (tg:Expr) (R:It->Hp->Prop) (itv:Value) (s2:Shared):Prop:=
 ∃ (it:Addr) (fp:List Addr) (tn:Nat->Heap->Prop) (J:It) (H':Hp),itv=.ref it/\Inv X pins σ H' s2/\Turn X.prog X.w X.K tg J fp it tn/\tn 0 s2.heap/\(∀ b∈fp,FpOk X pins H' b)/\R J H'
noncomputable def PI (X:Cx) (tg iter:Expr) (wi:TI):Prop:=
 ∀ (pins:List (Addr × Obj)) (s:Shared) (σ:St) (H:Hp) (R:It->Hp->Prop),Inv X pins σ H s->wi σ H R->
  wpAny (model X.prog X.w) X.A (eval iter X.env) (λ v s1=>wpAny (model X.prog X.w) X.A (pyIter v) (PIE X pins σ tg R) X.xe s1) X.xe s
theorem go_of {M:Model} {A:Around} {E:Value->Shared->Prop} {s:Shared} {tg:Expr} {it:Addr} {u:Value} {o:Obj} {n:String} {vs:Array Value} {Q:Unit->Shared->Prop} (ho:s.heap.get? it=some o) (hc:o.cls=.type n) (hd:o.data=.fields vs)
    (hn:["enumerate","zip","dict_itemiterator","dict_reverseitemiterator","odict_iterator","itertools.zip_longest","itertools.pairwise"].contains n=false) (hQ:Q () s):wpAny M A (letOwnedTupleGo tg (.ref it) u) Q E s:=by
  unfold letOwnedTupleGo
  cases tg <;> first
    | exact ip hQ
    | (cases u <;> first
        | exact ip hQ
        | (refine hU (wpAny_load ho ?_)
           rw [hc,hd]
           show wpAny M A (if (["enumerate","zip","dict_itemiterator","dict_reverseitemiterator","odict_iterator","itertools.zip_longest","itertools.pairwise"].contains n && vs[0]? == some (rawInt _))=true then _ else _) Q E s
           rw [if_neg (by intro h;rw [hn,Bool.false_and] at h;cases h)]
           exact ip hQ))
noncomputable def Itl (K:W.Frag) (a:Addr):It:=
 ⟨λ i H=>∃ xs x,SqL K H a xs/\xs[i]?=some x,λ i H x H'=>H'=H/\∀ xs,SqL K H a xs->xs[i]?=some x,λ i H=>∃ xs,SqL K H a xs/\xs.length<=i⟩
noncomputable def Itt (K:W.Frag) (a:Addr):It:=
 ⟨λ i H=>∃ xs x,SqT K H a xs/\xs[i]?=some x,λ i H x H'=>H'=H/\∀ xs,SqT K H a xs->xs[i]?=some x,λ i H=>∃ xs,SqT K H a xs/\xs.length<=i⟩
noncomputable def Itr (lo:Int) (n:Nat):It:=⟨λ i _=>i<n,λ i H x H'=>H'=H/\x=.int (lo+i),λ i _=>n<=i⟩
theorem turn_list {P:Program} {w:World} {K:W.Frag} {tg:Expr} (a it:Addr):Turn P w K tg (Itl K a) [it] it (λ i h=>h.IsListIter it a i) where
 mem:=by simp
 obj:=λ i h st b hb=>by
  have e:b=it:=by simpa using hb
  subst e
  obtain ⟨o,e,c,d⟩:=st
  exact ⟨o,e,λ v z=>by rw [d] at z;cases z⟩
 keep:=λ i h h' st k=>st.at λ o e=>k it (by simp) o e
 item:=by
  intro X hP hw hK hc i pins s σ H E I hf st hg
  subst hP hw hK
  obtain ⟨xs,x,hq,hx⟩:=hg
  obtain ⟨its,rv,p,hz⟩:=I.list hq
  obtain ⟨u,hu,ru⟩:=rv.get hx
  obtain ⟨f0,f1,f2,f3,f4,f5⟩:=hf it (by simp)
  refine wpAny_pyNext_list_item st p.isList (x:=u) (by simpa using hu) λ h' st' sb=>?_
  have I1:Inv X pins σ H { s with heap:=h' }:=I.turned (t':=s.toks) (λ b o hb e=>(sb.2 b hb).trans e) f0 f1 f3 f4 f5
  obtain ⟨o,e,c,d⟩:=id st'
  exact ⟨u,rfl,go_of (s:={ s with heap:=h' }) e c d (by decide) ⟨x,H,I1,ru,⟨rfl,λ ys hy=>by rw [I.list_inj hy hq];exact hx⟩,st',λ b hb=>(hf b hb).1⟩⟩
 done:=by
  intro X hP hw hK hc i pins s σ H E I hf st hg
  subst hP hw hK
  obtain ⟨xs,hq,hx⟩:=hg
  obtain ⟨its,rv,p,hz⟩:=I.list hq
  obtain ⟨f0,f1,f2,f3,f4,f5⟩:=hf it (by simp)
  have hl:=rv.length
  exact wpAny_pyNext_list_end (I.ok.hd hc) st p.isList (by simp;omega) λ h' eb=>⟨rfl,I.turned (t':=s.toks) (λ b o hb e=>eb b o hb e) f0 f1 f3 f4 f5⟩
 self:=λ _ _ _ _ _ st h=>wpAny_pyIter_listiter st h
theorem turn_tuple {P:Program} {w:World} {K:W.Frag} {tg:Expr} (a it:Addr):Turn P w K tg (Itt K a) [it] it (λ i h=>h.IsTupleIter it a i) where
 mem:=by simp
 obj:=λ i h st b hb=>by
  have e:b=it:=by simpa using hb
  subst e
  obtain ⟨o,e,c,d⟩:=st
  exact ⟨o,e,λ v z=>by rw [d] at z;cases z⟩
 keep:=λ i h h' st k=>st.at λ o e=>k it (by simp) o e
 item:=by
  intro X hP hw hK hc i pins s σ H E I hf st hg
  subst hP hw hK
  obtain ⟨xs,x,hq,hx⟩:=hg
  obtain ⟨its,rv,p,hz⟩:=I.tuple hq
  obtain ⟨u,hu,ru⟩:=rv.get hx
  obtain ⟨f0,f1,f2,f3,f4,f5⟩:=hf it (by simp)
  refine wpAny_pyNext_tuple_item st (show s.heap.IsTuple a its.toArray from p) (x:=u) (by simpa using hu) λ h' st' sb=>?_
  have I1:Inv X pins σ H { s with heap:=h' }:=I.turned (t':=s.toks) (λ b o hb e=>(sb.2 b hb).trans e) f0 f1 f3 f4 f5
  obtain ⟨o,e,c,d⟩:=id st'
  exact ⟨u,rfl,go_of (s:={ s with heap:=h' }) e c d (by decide) ⟨x,H,I1,ru,⟨rfl,λ ys hy=>by rw [I.tuple_inj hy hq];exact hx⟩,st',λ b hb=>(hf b hb).1⟩⟩
 done:=by
  intro X hP hw hK hc i pins s σ H E I hf st hg
  subst hP hw hK
  obtain ⟨xs,hq,hx⟩:=hg
  obtain ⟨its,rv,p,hz⟩:=I.tuple hq
  obtain ⟨f0,f1,f2,f3,f4,f5⟩:=hf it (by simp)
  have hl:=rv.length
  exact wpAny_pyNext_tuple_end (I.ok.hd hc) st (show s.heap.IsTuple a its.toArray from p) (by simp;omega) λ h' eb=>⟨rfl,I.turned (t':=s.toks) (λ b o hb e=>eb b o hb e) f0 f1 f3 f4 f5⟩
 self:=λ _ _ _ _ _ st h=>wpAny_pyIter_tupleiter st h
theorem turn_range {P:Program} {w:World} {K:W.Frag} {tg:Expr} (it:Addr) (lo:Int) (n:Nat):Turn P w K tg (Itr lo n) [it] it (λ i h=>IsRangeIter h it (lo+(i:Nat)*1) ((n:Int)-(i:Nat)) 1) where
 mem:=by simp
 obj:=λ i h st b hb=>by
  have e:b=it:=by simpa using hb
  subst e
  exact ⟨_,st,λ v z=>by
   have z':Data.fields _=Data.cell v:=z
   cases z'⟩
 keep:=λ i h h' st k=>k it (by simp) _ st
 item:=by
  intro X hP hw hK hc i pins s σ H E I hf st hg
  subst hP hw hK
  obtain ⟨f0,f1,f2,f3,f4,f5⟩:=hf it (by simp)
  have W:=Walks.range (prog:=X.prog) (w:=X.w) (I.ok.hd hc) it lo 1 n
  refine W.item i s _ _ hg st λ v h' tk hv st' kk=>?_
  obtain ⟨t,rfl⟩:=hv
  have I1:Inv X pins σ H { s with heap:=h',toks:=tk }:=I.turned (λ b o hb e=>kk b o (by simpa using hb) e) f0 f1 f3 f4 f5
  refine ⟨_,rfl,go_of (s:={ s with heap:=h',toks:=tk }) (n:="range_iterator") st' rfl rfl (by decide) ⟨.int (lo+i),H,I1,⟨t,?_⟩,⟨rfl,rfl⟩,st',λ b hb=>(hf b hb).1⟩⟩
  rw [Int.mul_one]
 done:=by
  intro X hP hw hK hc i pins s σ H E I hf st hg
  subst hP hw hK
  obtain ⟨f0,f1,f2,f3,f4,f5⟩:=hf it (by simp)
  exact wpAny_pyNext_range_end (I.ok.hd hc) st (by have:n<=i:=hg;omega) λ h' eb=>⟨rfl,I.turned (t':=s.toks) (λ b o hb e=>eb b o hb e) f0 f1 f3 f4 f5⟩
 self:=λ _ _ _ _ _ st h=>wpAny_pyIter_rangeiter st h
end L2
namespace L2
open PySem PySem.Spec PyProof.Rows
section
variable {X:Cx} {tg:Expr}
inductive IiList (K:W.Frag) (R:It->Hp->Prop) (x:V) (H1:Hp):Prop
 | mk (a:_) (h1:x=.ref a) (h2:(∃ xs,SqL K H1 a xs)) (h3:R (Itl K a) H1):IiList K R x H1
noncomputable def iList (K:W.Frag) (tl:TE):TI:=λ σ H R=>tl σ H λ x H1=>IiList K R x H1
inductive IiTup (K:W.Frag) (R:It->Hp->Prop) (x:V) (H1:Hp):Prop
 | mk (a:_) (h1:x=.ref a) (h2:(∃ xs,SqT K H1 a xs)) (h3:R (Itt K a) H1):IiTup K R x H1
noncomputable def iTup (K:W.Frag) (tl:TE):TI:=λ σ H R=>tl σ H λ x H1=>IiTup K R x H1
theorem aU {l:Expr} {tl:TE} (hl:PE X l tl):PI X tg l (iList X.K tl):=by
 intro pins s σ H R I h
 refine thn (hl pins s σ H _ I h) λ v s1 ⟨x,H1,I1,r1,q1⟩=>?_
 obtain ⟨a,e,⟨xs,hq⟩,q⟩:=q1
 subst e
 cases r1
 obtain ⟨its,rv,p,hz⟩:=I1.list hq
 refine wpAny_pyIter_list p.isList ?_
 refine ⟨s1.heap.objs.size,[s1.heap.objs.size],_,_,H1,rfl,I1.kept (t':=s1.toks) λ b o e=>ia _ e,turn_list a _,⟨_,iA _ rfl,rfl,rfl⟩,λ b hb=>?_,q⟩
 have e:b=s1.heap.objs.size:=by simpa using hb
 subst e
 exact I1.fpOk (ic _) (I1.hok.fresh (ic _))
theorem pi_tup {l:Expr} {tl:TE} (hl:PE X l tl):PI X tg l (iTup X.K tl):=by
 intro pins s σ H R I h
 refine thn (hl pins s σ H _ I h) λ v s1 ⟨x,H1,I1,r1,q1⟩=>?_
 obtain ⟨a,e,⟨xs,hq⟩,q⟩:=q1
 subst e
 cases r1
 obtain ⟨its,rv,p,hz⟩:=I1.tuple hq
 refine wpAny_pyIter_tuple (show s1.heap.IsTuple a its.toArray from p) ?_
 refine ⟨s1.heap.objs.size,[s1.heap.objs.size],_,_,H1,rfl,I1.kept (t':=s1.toks) λ b o e=>ia _ e,turn_tuple a _,⟨_,iA _ rfl,rfl,rfl⟩,λ b hb=>?_,q⟩
 have e:b=s1.heap.objs.size:=by simpa using hb
 subst e
 exact I1.fpOk (ic _) (I1.hok.fresh (ic _))
theorem range_it {pins:List (Addr × Obj)} {σ:St} {H:Hp} {s:Shared} {R:It->Hp->Prop} {E:Value->Shared->Prop} {lo hi:Int} {t u v:Tok} {tk:Nat} (I:Inv X pins σ H s) (h1:-(2 ^ 62)<=lo) (h2:lo<2 ^ 62) (h3:-(2 ^ 62)<=hi) (h4:hi<2 ^ 62)
  (q:R (Itr lo (hi-lo).toNat) H):wpAny (model X.prog X.w) X.A (pyIter (.ref s.heap.objs.size)) (PIE X pins σ tg R) E { s with heap:=s.heap.push { cls:=.type "range",data:=.fields #[.int lo t,.int hi u,.int 1 v] },toks:=tk }:=by
 refine wpAny_pyIter_range (IsRange.new ..) (small_one h1 h2 h3 h4) ?_
 have I1:Inv X pins σ H { s with heap:=s.heap.push { cls:=.type "range",data:=.fields #[.int lo t,.int hi u,.int 1 v] },toks:=tk }:=I.kept λ b o e=>ia _ e
 refine ⟨(s.heap.push { cls:=.type "range",data:=.fields #[.int lo t,.int hi u,.int 1 v] }).objs.size,[(s.heap.push { cls:=.type "range",data:=.fields #[.int lo t,.int hi u,.int 1 v] }).objs.size],_,_,H,rfl,
  I1.kept (t':=tk) λ b o e=>ia _ e,turn_range _ lo (hi-lo).toNat,?_,λ b hb=>?_,q⟩
 ·have e1:lo+((0:Nat):Int)*1=lo:=by simp
  have e2:(((hi-lo).toNat:Nat):Int)-((0:Nat):Int)=Builtin.Range.rangeSize lo hi 1:=by rw [rangeSize_one];split <;> omega
  show IsRangeIter _ _ (lo+((0:Nat):Int)*1) ((((hi-lo).toNat:Nat):Int)-((0:Nat):Int)) 1
  rw [e1,e2]
  exact iA _ rfl
 ·have e:b=(s.heap.push { cls:=.type "range",data:=.fields #[.int lo t,.int hi u,.int 1 v] }).objs.size:=by simpa using hb
  subst e
  exact I1.fpOk (ic _) (I1.hok.fresh (ic _))
noncomputable def iRng1 (ta:TA):TI:=λ σ H R=>ta σ H λ vs H1=>∃ j:Int,vs=[.int j]/\-(2 ^ 62)<=j/\j<2 ^ 62/\R (Itr 0 j.toNat) H1
noncomputable def iRng2 (ta:TA):TI:=λ σ H R=>ta σ H λ vs H1=>∃ i j:Int,vs=[.int i,.int j]/\(-(2 ^ 62)<=i/\i<2 ^ 62/\-(2 ^ 62)<=j/\j<2 ^ 62)/\R (Itr i (j-i).toNat) H1
theorem fu {a:Expr} {ta:TA} {p pos:Pos} (hg:Gl X "range") (hm:X.mg "range"=none) (ha:PA X [a] ta) (hs:starEach [a] X.env=[(false,eval a X.env)]:=by rfl):PI X tg (.Call (.Name "range" p) [a] [] pos) (iRng1 ta):=by
 intro pins s σ H R I h
 refine Call_ (fe I hg hm boot_range (jh (thn (ha pos pins s σ H _ I h) λ us s1 ⟨vs,H1,I1,r1,q1⟩=>?_) hs rfl))
 obtain ⟨j,e,q1,q2,q⟩:=q1
 subst e
 cases r1 with
 | cons r rr=>
  cases rr
  obtain ⟨t,rfl⟩:=r
  exact call_range_1 (range_it I1 (by omega) (by omega) q1 q2 (by simpa using q))
theorem pi_range2 {a b:Expr} {ta:TA} {p pos:Pos} (hg:Gl X "range") (hm:X.mg "range"=none) (ha:PA X [a,b] ta) (hs:starEach [a,b] X.env=[(false,eval a X.env),(false,eval b X.env)]:=by rfl) (hs2:starEach [b] X.env=[(false,eval b X.env)]:=by rfl) :
  PI X tg (.Call (.Name "range" p) [a,b] [] pos) (iRng2 ta):=by
 intro pins s σ H R I h
 refine Call_ (fe I hg hm boot_range (jh (thn (ha pos pins s σ H _ I h) λ us s1 ⟨vs,H1,I1,r1,q1⟩=>?_) (by rw [hs,hs2]) (by rw [hs2];rfl)))
 obtain ⟨i,j,e,⟨q1,q2,q3,q4⟩,q⟩:=q1
 subst e
 cases r1 with
 | cons r rr=>
  cases rr with
  | cons r' rr=>
   cases rr
   obtain ⟨t,rfl⟩:=r
   obtain ⟨t',rfl⟩:=r'
   exact call_range_2 (range_it I1 q1 q2 q3 q4 q)
noncomputable def tFor (wi:TI) (g:TG) (tb:TS):TS:=λ D σ H=>wi σ H λ J H1=>∃ W:Nat->Nat->St->Hp->Prop,(∃ m,W 0 m σ H1)/\∀ i m σ H,W i m σ H->
 (J.stop i H/\D.nx σ H)∨(J.go i H/\∃ N:St->Hp->Prop,(∀ σ' H',N σ' H'->∃ m',m'<m/\W (i+1) m' σ' H')/\∀ x H',J.yld i H x H'->g x σ H' λ σ2 H2=>tb { D with nx:=N,ct:=N,bk:=D.nx } σ2 H2)
noncomputable def pinsAt (fp:List Addr) (h:Heap):List (Addr × Obj):=fp.filterMap λ b=>(h.get? b).map λ o=>(b,o)
theorem dU {fp:List Addr} {h:Heap} {b:Addr} {o:Obj} (hb:b∈fp) (e:h.get? b=some o):(b,o)∈pinsAt fp h:=List.mem_filterMap.mpr ⟨b,hb,by rw [e];rfl⟩
theorem of_pinsAt {fp:List Addr} {h:Heap} {p:Addr × Obj} (hp:p∈pinsAt fp h):p.1∈fp/\h.get? p.1=some p.2:=by
 obtain ⟨b,hb,e⟩:=List.mem_filterMap.mp hp
 cases q:h.get? b with
 | none=>rw [q] at e;cases e
 | some o=>
  rw [q] at e
  have e':(b,o)=p:=iG e
  subst e'
  exact ⟨hb,q⟩
theorem Inv.pinned {pins:List (Addr × Obj)} {σ:St} {H:Hp} {s:Shared} {fp:List Addr} (I:Inv X pins σ H s) (hf:∀ b∈fp,FpOk X pins H b) (ho:∀ b∈fp,∃ o,s.heap.get? b=some o/\∀ v,o.data≠.cell v):Inv X (pins++pinsAt fp s.heap) σ H s:=
 I.pins_of λ p hp=>(iS.mp hp).elim (λ z=>I.pin p (iD _ z)) λ z=>by
  obtain ⟨hb,e⟩:=of_pinsAt z
  obtain ⟨f0,f1,f2,_⟩:=hf p.1 hb
  obtain ⟨o,e',d⟩:=ho p.1 hb
  rw [e] at e';cases e'
  exact ⟨e,f0,f1,f2,d⟩
theorem Inv.unpinned {pins pl:List (Addr × Obj)} {σ:St} {H:Hp} {s:Shared} (I:Inv X (pins++pl) σ H s):Inv X pins σ H s:=I.pins_of λ p hp=>I.pin p (iD _ (iV _ hp))
theorem aR {iter:Expr} {body:List Stmt} {wi:TI} {g:TG} {tb:TS} {pos:Pos} (hp:PassesOwn (model X.prog X.w) X.A X.env X.xe) (hc:X.calm=true) (hi:PI X tg iter wi) (hg:PG X tg g) (hb:PSs X body tb)
  (hs:∀ x,foldedSetIterable iter X.env x=pure x:=by intro _;rfl):PS X (.For tg iter body [] pos) (tFor wi g tb):=by
 intro pins s σ H D I h
 refine wpAny_For (thn (hi pins s σ H _ I h) λ v s1 h1=>thn h1 λ itv s2 h2=>?_) hs
 obtain ⟨it,fp,tn,J,H2,e,I2,T,st2,f2,W,⟨m0,w0⟩,turn⟩:=h2
 subst e
 have stat:∀ {H':Hp},(∀ b∈fp,H' b=none)->∀ b∈fp,FpOk X pins H' b:=λ hn b hb=>⟨hn b hb,(f2 b hb).2⟩
 refine codeAny_forLoop_any (λ n s'=>∃ i σ' H',Inv X pins σ' H' s'/\tn i s'.heap/\(∀ b∈fp,H' b=none)/\W i n σ' H') ?_ m0 ⟨0,σ,H2,I2,st2,λ b hb=>(f2 b hb).1,w0⟩
 rintro n s3 ⟨i,σ3,H3,I3,st3,fr3,w3⟩
 rcases turn i n σ3 H3 w3 with ⟨stop,qn⟩ | ⟨go,N,hN,step⟩
 ·refine wpAny_passesOwn hp (thn (T.done X rfl rfl rfl hc i pins s3 σ3 H3 X.xe I3 (stat fr3) st3 stop) λ r s4 ⟨hr,I4⟩=>?_)
  subst hr
  exact wpAny_execs_nil ⟨σ3,H3,I4,qn⟩
 ·refine wpAny_passesOwn hp (thn (T.item X rfl rfl rfl hc i pins s3 σ3 H3 X.xe I3 (stat fr3) st3 go) λ r s4 ⟨u,hr,h4⟩=>?_)
  subst hr
  refine wpAny_passesOwn hp (thn h4 λ _ s5 ⟨x,H5,I5,r5,y5,st5,fr5⟩=>?_)
  have I5':=I5.pinned (stat fr5) (T.obj _ _ st5)
  refine wpAny_passesOwn hp (thn (hg _ s5 σ3 H5 x u _ I5' r5 (step x H5 y5)) λ _ s6 ⟨σ6,H6,I6,q6⟩=>?_)
  refine wpAny_passesOwn hp (thn (hb _ s6 σ6 H6 _ I6 q6) λ f s7 q7=>?_)
  have again:∀ {σ7:St} {H7:Hp},Inv X (pins++pinsAt fp s5.heap) σ7 H7 s7->N σ7 H7->∃ m,m<n/\∃ i σ' H',Inv X pins σ' H' s7/\tn i s7.heap/\(∀ b∈fp,H' b=none)/\W i m σ' H':=λ {σ7 H7} I7 n7=>by
   obtain ⟨m',hm,w7⟩:=hN σ7 H7 n7
   refine ⟨m',hm,i+1,σ7,H7,I7.unpinned,T.keep _ _ _ st5 λ b hb o e=>(I7.pin (b,o) (iD _ (iD _ (dU hb e)))).1,λ b hb=>?_,w7⟩
   obtain ⟨o,e,d⟩:=T.obj _ _ st5 b hb
   exact (I7.pin (b,o) (iD _ (iD _ (dU hb e)))).2.1
  cases f with
  | next=>obtain ⟨σ7,H7,I7,n7⟩:=q7;exact again I7 n7
  | cont=>obtain ⟨σ7,H7,I7,n7⟩:=q7;exact again I7 n7
  | brk=>obtain ⟨σ7,H7,I7,q7⟩:=q7;exact ⟨σ7,H7,I7.unpinned,q7⟩
  | ret v=>obtain ⟨x7,σ7,H7,I7,r7,q7⟩:=q7;exact ⟨x7,σ7,H7,I7.unpinned,r7,q7⟩
end
theorem bn {K:W.Frag} {a:Addr} {xs:List V} {g:TG} {tb:TS} {D:Ends} {σ:St} {H:Hp} (Pv:Nat->St->Hp->Prop) (h0:Pv 0 σ H) (hl:∀ i σ H,i<=xs.length->Pv i σ H->SqL K H a xs)
  (hs:∀ i x σ H,xs[i]?=some x->Pv i σ H->g x σ H λ σ2 H2=>tb { D with nx:=Pv (i+1),ct:=Pv (i+1),bk:=D.nx } σ2 H2) (hd:∀ σ H,Pv xs.length σ H->D.nx σ H) :
  ∃ W:Nat->Nat->St->Hp->Prop,(∃ m,W 0 m σ H)/\∀ i m σ H,W i m σ H->
   ((Itl K a).stop i H/\D.nx σ H)∨((Itl K a).go i H/\∃ N:St->Hp->Prop,(∀ σ' H',N σ' H'->∃ m',m'<m/\W (i+1) m' σ' H')/\∀ x H',(Itl K a).yld i H x H'->g x σ H' λ σ2 H2=>tb { D with nx:=N,ct:=N,bk:=D.nx } σ2 H2):=by
 refine ⟨λ i m σ H=>m=xs.length-i/\i<=xs.length/\Pv i σ H,⟨xs.length,by simp,im _,h0⟩,?_⟩
 rintro i m σ H ⟨rfl,hi,p⟩
 have q:=hl i σ H hi p
 by_cases hlt:i<xs.length
 ·refine .inr ⟨⟨xs,xs[i],q,by simp [hlt]⟩,Pv (i+1),λ σ' H' p'=>⟨xs.length-(i+1),by omega,rfl,hlt,p'⟩,λ x H' y=>?_⟩
  obtain ⟨e,y⟩:=y
  subst e
  exact hs i x σ _ (y xs q) p
 ·have e:i=xs.length:=by omega
  subst e
  exact .inl ⟨⟨xs,q,ic _⟩,hd σ H p⟩
theorem for_tup {K:W.Frag} {a:Addr} {xs:List V} {g:TG} {tb:TS} {D:Ends} {σ:St} {H:Hp} (Pv:Nat->St->Hp->Prop) (h0:Pv 0 σ H) (hl:∀ i σ H,i<=xs.length->Pv i σ H->SqT K H a xs)
  (hs:∀ i x σ H,xs[i]?=some x->Pv i σ H->g x σ H λ σ2 H2=>tb { D with nx:=Pv (i+1),ct:=Pv (i+1),bk:=D.nx } σ2 H2) (hd:∀ σ H,Pv xs.length σ H->D.nx σ H) :
  ∃ W:Nat->Nat->St->Hp->Prop,(∃ m,W 0 m σ H)/\∀ i m σ H,W i m σ H->
   ((Itt K a).stop i H/\D.nx σ H)∨((Itt K a).go i H/\∃ N:St->Hp->Prop,(∀ σ' H',N σ' H'->∃ m',m'<m/\W (i+1) m' σ' H')/\∀ x H',(Itt K a).yld i H x H'->g x σ H' λ σ2 H2=>tb { D with nx:=N,ct:=N,bk:=D.nx } σ2 H2):=by
 refine ⟨λ i m σ H=>m=xs.length-i/\i<=xs.length/\Pv i σ H,⟨xs.length,by simp,im _,h0⟩,?_⟩
 rintro i m σ H ⟨rfl,hi,p⟩
 have q:=hl i σ H hi p
 by_cases hlt:i<xs.length
 ·refine .inr ⟨⟨xs,xs[i],q,by simp [hlt]⟩,Pv (i+1),λ σ' H' p'=>⟨xs.length-(i+1),by omega,rfl,hlt,p'⟩,λ x H' y=>?_⟩
  obtain ⟨e,y⟩:=y
  subst e
  exact hs i x σ _ (y xs q) p
 ·have e:i=xs.length:=by omega
  subst e
  exact .inl ⟨⟨xs,q,ic _⟩,hd σ H p⟩
theorem eI {lo:Int} {n:Nat} {g:TG} {tb:TS} {D:Ends} {σ:St} {H:Hp} (Pv:Nat->St->Hp->Prop) (h0:Pv 0 σ H)
  (hs:∀ i σ H,i<n->Pv i σ H->g (.int (lo+i)) σ H λ σ2 H2=>tb { D with nx:=Pv (i+1),ct:=Pv (i+1),bk:=D.nx } σ2 H2) (hd:∀ σ H,Pv n σ H->D.nx σ H) :
  ∃ W:Nat->Nat->St->Hp->Prop,(∃ m,W 0 m σ H)/\∀ i m σ H,W i m σ H->
   ((Itr lo n).stop i H/\D.nx σ H)∨((Itr lo n).go i H/\∃ N:St->Hp->Prop,(∀ σ' H',N σ' H'->∃ m',m'<m/\W (i+1) m' σ' H')/\∀ x H',(Itr lo n).yld i H x H'->g x σ H' λ σ2 H2=>tb { D with nx:=N,ct:=N,bk:=D.nx } σ2 H2):=by
 refine ⟨λ i m σ H=>m=n-i/\i<=n/\Pv i σ H,⟨n,by simp,im _,h0⟩,?_⟩
 rintro i m σ H ⟨rfl,hi,p⟩
 by_cases hlt:i<n
 ·refine .inr ⟨hlt,Pv (i+1),λ σ' H' p'=>⟨n-(i+1),by omega,rfl,hlt,p'⟩,λ x H' y=>?_⟩
  obtain ⟨e,y⟩:=y
  subst e y
  exact hs i σ _ hlt p
 ·have e:i=n:=by omega
  subst e
  exact .inl ⟨ic _,hd σ H p⟩
theorem while_by {c:TT} {tb:TS} {D:Ends} {σ:St} {H:Hp} (Pv:St->Hp->Prop) (μ:St->Hp->Nat) (h0:Pv σ H)
  (hs:∀ σ H,Pv σ H->c σ H λ b H1=>if b=true then tb { D with nx:=λ σ' H'=>Pv σ' H'/\μ σ' H' < μ σ H,ct:=λ σ' H'=>Pv σ' H'/\μ σ' H' < μ σ H,bk:=D.nx } σ H1 else D.nx σ H1)
  (mono:∀ σ H Q Q',(∀ b H1,Q b H1->Q' b H1)->c σ H Q->c σ H Q'):tWhile c tb D σ H:=by
 refine ⟨λ m σ H=>m = μ σ H/\Pv σ H,⟨_,rfl,h0⟩,?_⟩
 rintro m σ H ⟨rfl,p⟩
 refine mono σ H _ _ (λ b H1 q=>?_) (hs σ H p)
 cases b with
 | true=>exact ⟨_,λ σ' H' ⟨p',l⟩=>⟨_,l,rfl,p'⟩,q⟩
 | false=>exact q
end L2
namespace L2
open PySem PySem.Spec PyProof.Rows
noncomputable abbrev R2:=V->V->Hp->VK->Prop
noncomputable def OpR (X:Cx) (f:Value->Value->Sem Value) (r:R2):Prop:=
 ∀ (pins:List (Addr × Obj)) (s:Shared) (σ:St) (H:Hp) (x y:V) (v u:Value) (Q:VK),Inv X pins σ H s->RelV x v->RelV y u->r x y H Q->
  wpAny (model X.prog X.w) X.A (f v u) (EP X pins σ Q) X.xe s
noncomputable def UnR (X:Cx) (f:Value->Sem Value) (r:V->Hp->VK->Prop):Prop:=
 ∀ (pins:List (Addr × Obj)) (s:Shared) (σ:St) (H:Hp) (x:V) (v:Value) (Q:VK),Inv X pins σ H s->RelV x v->r x H Q->
  wpAny (model X.prog X.w) X.A (f v) (EP X pins σ Q) X.xe s
noncomputable def fF (X:Cx) (f:Value) (r:List V->Hp->VK->Prop):Prop:=
 ∀ (pins:List (Addr × Obj)) (s:Shared) (σ:St) (H:Hp) (xs:List V) (us:List Value) (Q:VK),Inv X pins σ H s->Vals xs us->r xs H Q->
  wpAny (model X.prog X.w) X.A (call f us) (EP X pins σ Q) X.xe s
noncomputable def tOp (r:R2) (ta tb:TE):TE:=λ σ H Q=>ta σ H λ x H1=>tb σ H1 λ y H2=>r x y H2 Q
noncomputable def tUn (r:V->Hp->VK->Prop) (ta:TE):TE:=λ σ H Q=>ta σ H λ x H1=>r x H1 Q
noncomputable def rI (C:Int->Int->Prop) (g:Int->Int->V):R2:=λ x y H Q=>∃ i j,x=.int i/\y=.int j/\C i j/\Q (g i j) H
inductive IrI0 (g:Int->Int->V) (x:V) (y:V) (H:Hp) (Q:VK):Prop
 | mk (i:_) (j:_) (h1:x=.int i) (h2:y=.int j) (h3:Q (g i j) H):IrI0 g x y H Q
noncomputable def rI0 (g:Int->Int->V):R2:=λ x y H Q=>IrI0 g x y H Q
inductive IrU (g:Int->V) (x:V) (H:Hp) (Q:VK):Prop
 | mk (i:_) (h1:x=.int i) (h2:Q (g i) H):IrU g x H Q
noncomputable def rU (g:Int->V):V->Hp->VK->Prop:=λ x H Q=>IrU g x H Q
section
variable {X:Cx} {a b c:Expr} {ta tb tc:TE} {pos:Pos}
theorem binT (ha:PE X a ta) (hb:PE X b tb) {pins:List (Addr × Obj)} {s:Shared} {σ:St} {H:Hp} {R:V->V->Hp->Prop} (I:Inv X pins σ H s)
  (h:ta σ H λ x H1=>tb σ H1 λ y H2=>R x y H2) {Q:Value->Shared->Prop} {f:Value->Value->Sem Value}
  (hf:∀ v u s2 x y H2,Inv X pins σ H2 s2->RelV x v->RelV y u->R x y H2->wpAny (model X.prog X.w) X.A (f v u) Q X.xe s2) :
  wpAny (model X.prog X.w) X.A (eval a X.env) (λ v s₁=>wpAny (model X.prog X.w) X.A (eval b X.env) (λ u s₂=>wpAny (model X.prog X.w) X.A (f v u) Q X.xe s₂) X.xe s₁) X.xe s:=by
 refine thn (ha pins s σ H _ I h) λ v s1 ⟨x,H1,I1,r1,q1⟩=>?_
 refine thn (hb pins s1 σ H1 _ I1 q1) λ u s2 ⟨y,H2,I2,r2,q2⟩=>?_
 exact hf v u s2 x y H2 I2 r1 r2 q2
theorem ak {op:Operator} {r:R2} (ho:OpR X (binaryOp op) r) (ha:PE X a ta) (hb:PE X b tb):PE X (.BinOp a op b pos) (tOp r ta tb):=by
 intro pins s σ H Q I h
 exact wpAny_BinOp (binT ha hb I h λ v u s2 x y H2 I2 rx ry q=>ho pins s2 σ H2 x y v u Q I2 rx ry q)
theorem pe_un {op:UnaryOp} {r:V->Hp->VK->Prop} (ho:UnR X (unaryOp op) r) (ha:PE X a ta):PE X (.UnaryOp op a pos) (tUn r ta):=by
 intro pins s σ H Q I h
 exact UnaryOp_ (thn (ha pins s σ H _ I h) λ v s1 ⟨x,H1,I1,r1,q1⟩=>ho pins s1 σ H1 x v Q I1 r1 q1)
theorem opI {f:Value->Value->Sem Value} {C:Int->Int->Prop} {g:Int->Int->Int}
  (rule:∀ (i j:Int) (t u:Tok) (s:Shared) (Q:Value->Shared->Prop) (E:Value->Shared->Prop),C i j->Q (.int (g i j) s.toks) { s with toks:=s.toks+1 }->wpAny (model X.prog X.w) X.A (f (.int i t) (.int j u)) Q E s) :
  OpR X f (rI C λ i j=>.int (g i j)):=by
 intro pins s σ H x y v u Q I rx ry h
 obtain ⟨i,j,rfl,rfl,hc,q⟩:=h
 obtain ⟨t,rfl⟩:=rx
 obtain ⟨t',rfl⟩:=ry
 exact rule i j t t' s _ _ hc ⟨.int (g i j),H,I.tok _,⟨_,rfl⟩,q⟩
theorem opI0 {f:Value->Value->Sem Value} {g:Int->Int->Int}
  (rule:∀ (i j:Int) (t u:Tok) (s:Shared) (Q:Value->Shared->Prop) (E:Value->Shared->Prop),Q (.int (g i j) s.toks) { s with toks:=s.toks+1 }->wpAny (model X.prog X.w) X.A (f (.int i t) (.int j u)) Q E s) :
  OpR X f (rI0 λ i j=>.int (g i j)):=by
 intro pins s σ H x y v u Q I rx ry h
 obtain ⟨i,j,rfl,rfl,q⟩:=h
 obtain ⟨t,rfl⟩:=rx
 obtain ⟨t',rfl⟩:=ry
 exact rule i j t t' s _ _ ⟨.int (g i j),H,I.tok _,⟨_,rfl⟩,q⟩
theorem opB0 {f:Value->Value->Sem Value} {g:Int->Int->Bool}
  (rule:∀ (i j:Int) (t u:Tok) (s:Shared) (Q:Value->Shared->Prop) (E:Value->Shared->Prop),Q (.bool (g i j)) s->wpAny (model X.prog X.w) X.A (f (.int i t) (.int j u)) Q E s) :
  OpR X f (rI0 λ i j=>.bl (g i j)):=by
 intro pins s σ H x y v u Q I rx ry h
 obtain ⟨i,j,rfl,rfl,q⟩:=h
 obtain ⟨t,rfl⟩:=rx
 obtain ⟨t',rfl⟩:=ry
 exact rule i j t t' s _ _ ⟨.bl (g i j),H,I,rfl,q⟩
noncomputable def CDiv (i j:Int):Prop:=0<j/\j<1073741824
noncomputable def CPow (i j:Int):Prop:=0<=j/\j<=1000000/\i.natAbs<2 ^ 64
theorem aJ:OpR X (binaryOp .Add) (rI0 λ i j=>.int (i+j)):=opI0 λ _ _ _ _ _ _ _ q=>add_int q
theorem gc:OpR X (binaryOp .Sub) (rI0 λ i j=>.int (i-j)):=opI0 λ _ _ _ _ _ _ _ q=>sub_int q
theorem aY:OpR X (binaryOp .FloorDiv) (rI CDiv λ i j=>.int (i / j)):=opI λ i j _ _ _ _ _ hc q=>by
 have h1:(0:Int)<j:=hc.1
 have h2:j<1073741824:=hc.2
 exact floordiv_int (by omega) (by rw [Int.fdiv_eq_ediv_of_nonneg i (by omega)];exact q) (.inl (PyProof.noPylong_small (by omega)))
theorem aL:OpR X (binaryOp .Mod) (rI (λ _ j=>0<j) λ i j=>.int (i % j)):=opI λ i j _ _ _ _ _ hc q=>by
 have h1:(0:Int)<j:=hc
 exact mod_int' (by omega) (by rw [Int.fmod_eq_emod_of_nonneg i (by omega)];exact q)
theorem unI {f:Value->Sem Value} {g:Int->Int}
  (rule:∀ (i:Int) (t:Tok) (s:Shared) (Q:Value->Shared->Prop) (E:Value->Shared->Prop),Q (.int (g i) s.toks) { s with toks:=s.toks+1 }->wpAny (model X.prog X.w) X.A (f (.int i t)) Q E s) :
  UnR X f (rU λ i=>.int (g i)):=by
 intro pins s σ H x v Q I rx h
 obtain ⟨i,rfl,q⟩:=h
 obtain ⟨t,rfl⟩:=rx
 exact rule i t s _ _ ⟨.int (g i),H,I.tok _,⟨_,rfl⟩,q⟩
theorem un_neg:UnR X (unaryOp .USub) (rU λ i=>.int (-i)):=unI λ _ _ _ _ _ q=>neg_int q
end
noncomputable def scal:V->V->Bool
 | .non,.non=>true | .non,.int _=>true | .int _,.non=>true | .non,.bl _=>true | .bl _,.non=>true | .non,.str _=>true | .str _,.non=>true
 | .int _,.int _=>true | .bl _,.bl _=>true | .str _,.str _=>true | .byt _,.byt _=>true
 | .int _,.str _=>true | .str _,.int _=>true | .bl _,.str _=>true | .str _,.bl _=>true
 | _,_=>false
noncomputable def rEq:R2:=λ x y H Q=>scal x y=true/\Q (.bl (decide (x=y))) H
noncomputable def rNe:R2:=λ x y H Q=>scal x y=true/\Q (.bl (!decide (x=y))) H
theorem dec_int {i j:Int}:decide (V.int i=V.int j)=(i == j):=by
 rw [Bool.eq_iff_iff]
 simp
theorem dec_bl {i j:Bool}:decide (V.bl i=V.bl j)=(i == j):=by
 rw [Bool.eq_iff_iff]
 simp
theorem dec_str {i j:Str}:decide (V.str i=V.str j)=(i == j):=by
 rw [Bool.eq_iff_iff]
 simp
theorem dec_byt {i j:Array UInt8}:decide (V.byt i=V.byt j)=(i.toList == j.toList):=by
 rw [Bool.eq_iff_iff]
 cases i
 cases j
 simp
section
variable {X:Cx} {a b c:Expr} {ta tb tc:TE} {pos:Pos}
theorem bf {pins:List (Addr × Obj)} {σ:St} {H:Hp} {s:Shared} {Q:VK} {k k':Bool} (I:Inv X pins σ H s) (q:Q (.bl k) H) (e:k=k'):EP X pins σ Q (.bool k') s:=by
 subst e
 exact ⟨.bl k,H,I,rfl,q⟩
theorem dZ:OpR X (compareOp .Eq) rEq:=by
 intro pins s σ H x y v u Q I rx ry h
 obtain ⟨hs,q⟩:=h
 cases x with
 | non=>
  cases rx
  cases y with
  | non=>cases ry;exact PySem.EqNone.eq_none_none (bf I q (by simp))
  | bl j=>cases ry;exact PySem.EqNone.eq_none_bool (bf I q (by simp))
  | int j=>obtain ⟨t',rfl⟩:=ry;exact PySem.EqNone.eq_none_int (bf I q (by simp))
  | str j=>obtain ⟨t',rfl⟩:=ry;exact PySem.EqNone.eq_none_str (bf I q (by simp))
  | _=>exact absurd (show false=true from hs) iC
 | bl i=>
  cases rx
  cases y with
  | non=>cases ry;exact PySem.EqNone.eq_bool_none (bf I q (by simp))
  | bl j=>cases ry;exact eq_bool (bf I q dec_bl)
  | str j=>obtain ⟨t',rfl⟩:=ry;exact PySem.EqMixed.eq_bool_str (bf I q (by simp))
  | _=>exact absurd (show false=true from hs) iC
 | int i=>
  obtain ⟨t,rfl⟩:=rx
  cases y with
  | non=>cases ry;exact PySem.EqNone.eq_int_none (bf I q (by simp))
  | int j=>obtain ⟨t',rfl⟩:=ry;exact eq_int (bf I q dec_int)
  | str j=>obtain ⟨t',rfl⟩:=ry;exact PySem.EqMixed.eq_int_str (bf I q (by simp))
  | _=>exact absurd (show false=true from hs) iC
 | str i=>
  obtain ⟨t,rfl⟩:=rx
  cases y with
  | non=>cases ry;exact PySem.EqNone.eq_str_none (bf I q (by simp))
  | bl j=>cases ry;exact PySem.EqMixed.eq_str_bool (bf I q (by simp))
  | int j=>obtain ⟨t',rfl⟩:=ry;exact PySem.EqMixed.eq_str_int (bf I q (by simp))
  | str j=>obtain ⟨t',rfl⟩:=ry;exact eq_str (bf I q dec_str)
  | _=>exact absurd (show false=true from hs) iC
 | byt i=>
  obtain ⟨t,rfl⟩:=rx
  cases y with
  | byt j=>obtain ⟨t',rfl⟩:=ry;exact PySem.W.eq_bytes (bf I q dec_byt)
  | _=>exact absurd (show false=true from hs) iC
 | _=>cases y <;> exact absurd (show false=true from hs) iC
theorem op_ne:OpR X (compareOp .NotEq) rNe:=by
 intro pins s σ H x y v u Q I rx ry h
 obtain ⟨hs,q⟩:=h
 cases x with
 | non=>
  cases rx
  cases y with
  | non=>cases ry;exact PySem.EqNone.ne_none_none (bf I q (by simp))
  | bl j=>cases ry;exact PySem.EqNone.ne_none_bool (bf I q (by simp))
  | int j=>obtain ⟨t',rfl⟩:=ry;exact PySem.EqNone.ne_none_int (bf I q (by simp))
  | str j=>obtain ⟨t',rfl⟩:=ry;exact PySem.EqNone.ne_none_str (bf I q (by simp))
  | _=>exact absurd (show false=true from hs) iC
 | bl i=>
  cases rx
  cases y with
  | non=>cases ry;exact PySem.EqNone.ne_bool_none (bf I q (by simp))
  | bl j=>cases ry;exact ne_bool (bf I q (i7 not dec_bl))
  | str j=>obtain ⟨t',rfl⟩:=ry;exact PySem.EqMixed.ne_bool_str (bf I q (by simp))
  | _=>exact absurd (show false=true from hs) iC
 | int i=>
  obtain ⟨t,rfl⟩:=rx
  cases y with
  | non=>cases ry;exact PySem.EqNone.ne_int_none (bf I q (by simp))
  | int j=>obtain ⟨t',rfl⟩:=ry;exact ne_int (bf I q (i7 not dec_int))
  | str j=>obtain ⟨t',rfl⟩:=ry;exact PySem.EqMixed.ne_int_str (bf I q (by simp))
  | _=>exact absurd (show false=true from hs) iC
 | str i=>
  obtain ⟨t,rfl⟩:=rx
  cases y with
  | non=>cases ry;exact PySem.EqNone.ne_str_none (bf I q (by simp))
  | bl j=>cases ry;exact PySem.EqMixed.ne_str_bool (bf I q (by simp))
  | int j=>obtain ⟨t',rfl⟩:=ry;exact PySem.EqMixed.ne_str_int (bf I q (by simp))
  | str j=>obtain ⟨t',rfl⟩:=ry;exact ne_str (bf I q (i7 not dec_str))
  | _=>exact absurd (show false=true from hs) iC
 | byt i=>
  obtain ⟨t,rfl⟩:=rx
  cases y with
  | byt j=>obtain ⟨t',rfl⟩:=ry;exact PySem.W.ne_bytes (bf I q (i7 not dec_byt))
  | _=>exact absurd (show false=true from hs) iC
 | _=>cases y <;> exact absurd (show false=true from hs) iC
theorem gX:OpR X (compareOp .Lt) (rI0 λ i j=>.bl (decide (i<j))):=opB0 λ _ _ _ _ _ _ _ q=>lt_int q
theorem op_le:OpR X (compareOp .LtE) (rI0 λ i j=>.bl (decide (i<=j))):=opB0 λ _ _ _ _ _ _ _ q=>le_int q
theorem op_gt:OpR X (compareOp .Gt) (rI0 λ i j=>.bl (decide (j<i))):=opB0 λ _ _ _ _ _ _ _ q=>gt_int q
theorem op_isN:OpR X (compareOp .Is) (λ x y H Q=>y=.non/\Q (.bl (decide (x=.non))) H):=by
 intro pins s σ H x y v u Q I rx ry h
 obtain ⟨rfl,q⟩:=h
 cases ry
 refine is_none_gen (bf I q ?_)
 cases x <;> first
  | (cases rx;rfl)
  | (obtain ⟨t,rfl⟩:=rx;rfl)
theorem op_notN:OpR X (compareOp .IsNot) (λ x y H Q=>y=.non/\Q (.bl (!decide (x=.non))) H):=by
 intro pins s σ H x y v u Q I rx ry h
 obtain ⟨rfl,q⟩:=h
 cases ry
 refine isnot_none_gen (bf I q ?_)
 cases x <;> first
  | (cases rx;rfl)
  | (obtain ⟨t,rfl⟩:=rx;rfl)
theorem aM (b:Expr) {op:CmpOp} (h:op≠.In:=by decide) (h2:op≠.NotIn:=by decide):behindInMarks op b=false:=by
 have e1:(op == CmpOp.In)=false:=by cases op <;> first | rfl | exact absurd rfl h
 have e2:(op == CmpOp.NotIn)=false:=by cases op <;> first | rfl | exact absurd rfl h2
 cases b <;> simp [behindInMarks,e1,e2]
theorem pe_cmpR {op:CmpOp} {r:R2} (ho:OpR X (compareOp op) r) (ha:PE X a ta) (hb:PE X b tb) (hm:behindInMarks op b=false):PE X (.Compare a [op] [b] pos) (tOp r ta tb):=by
 intro pins s σ H Q I h
 exact wpAny_Compare1 (binT ha hb I h λ v u s2 x y H2 I2 rx ry q=>ho pins s2 σ H2 x y v u Q I2 rx ry q) hm
inductive ItTest (Q:Bool->Hp->Prop) (x:V) (H':Hp):Prop
 | mk (k:_) (h1:x=.bl k) (h2:Q k H'):ItTest Q x H'
noncomputable def tTest (t:TE):TT:=λ σ H Q=>t σ H λ x H'=>ItTest Q x H'
theorem aG {op:CmpOp} {r:R2} (ho:OpR X (compareOp op) r) (ha:PE X a ta) (hb:PE X b tb) (hm:behindInMarks op b=false):PT X (.Compare a [op] [b] pos) (tTest (tOp r ta tb)):=by
 intro pins s σ H Q I h
 refine wpAny_isTrue_Compare1 (thn (ha pins s σ H _ I h) λ v s1 ⟨x,H1,I1,r1,q1⟩=>thn (hb pins s1 σ H1 _ I1 q1) λ u s2 ⟨y,H2,I2,r2,q2⟩=>
  thn (ho pins s2 σ H2 x y v u _ I2 r1 r2 q2) λ c s3 ⟨z,H3,I3,r3,k,e,q3⟩=>?_) hm
 subst e
 cases r3
 exact wpAny_truthy_bool ⟨H3,I3,q3⟩
theorem line63:(sizeLine:Nat)<2 ^ 63:=by rw [sizeLine_eq];decide
theorem aI:OpR X (binaryOp .Add) (λ x y H Q=>∃ i j,x=.str i/\y=.str j/\i.length+j.length<=sizeLine/\Q (.str (i++j)) H):=by
 intro pins s σ H x y v u Q I rx ry h
 obtain ⟨i,j,rfl,rfl,hz,q⟩:=h
 obtain ⟨t,rfl⟩:=rx
 obtain ⟨t',rfl⟩:=ry
 exact add_str (λ t' tk=>⟨.str (i++j),H,I.tok _,⟨_,rfl⟩,q⟩) hz
theorem vals1 {x:V} {us:List Value} (r:Vals [x] us):∃ u,us=[u]/\RelV x u:=by
 cases r with
 | cons r1 r2=>cases r2;exact ⟨_,rfl,r1⟩
theorem vals2 {x y:V} {us:List Value} (r:Vals [x,y] us):∃ u w',us=[u,w']/\RelV x u/\RelV y w':=by
 cases r with
 | cons r1 r2=>
  cases r2 with
  | cons r3 r4=>cases r4;exact ⟨_,_,rfl,r1,r3⟩
theorem call_abs:fF X (.builtin "abs") (λ xs H Q=>∃ i,xs=[.int i]/\Q (.int (if i<0 then -i else i)) H):=by
 intro pins s σ H xs us Q I r h
 obtain ⟨i,rfl,q⟩:=h
 obtain ⟨u,rfl,t,rfl⟩:=vals1 r
 exact call_abs_int λ u tk=>⟨.int (if i<0 then -i else i),H,I.tok _,⟨_,rfl⟩,q⟩
theorem call_max2 (hc:X.calm=true):fF X (.builtin "max") (λ xs H Q=>∃ i j,xs=[.int i,.int j]/\Q (.int (if j > i then j else i)) H):=by
 intro pins s σ H xs us Q I r h
 obtain ⟨i,j,rfl,q⟩:=h
 obtain ⟨u,w',rfl,⟨t,rfl⟩,⟨t',rfl⟩⟩:=vals2 r
 refine max_two_ints (I.ok.hd hc) λ h' tk k=>⟨_,H,I.kept k,?_,q⟩
 by_cases hj:j > i
 ·rw [if_pos hj,if_pos hj];exact ⟨_,rfl⟩
 ·rw [if_neg hj,if_neg hj];exact ⟨_,rfl⟩
theorem b4:fF X (.type "str") (λ xs H Q=>∃ i,xs=[.int i]/\i.natAbs.log2<1920/\Q (.str (toString i)) H):=by
 intro pins s σ H xs us Q I r h
 obtain ⟨i,rfl,hz,q⟩:=h
 obtain ⟨u,rfl,t,rfl⟩:=vals1 r
 exact PySem.P.str_of_int hz ⟨.str _,H,I.tok _,⟨_,rfl⟩,q⟩
end
end L2
namespace L2
open PySem PySem.Spec PyProof.Rows
structure ObjM (h:Heap) (x dx C:Addr) (mA:Str->Option Value):Prop where
 obj:h.get? x=some (PySem.W.instObj C dx)
 ns:h.Ns1 dx mA
 ne:dx≠x
theorem lookIn_ns {h:Heap} {dx:Addr} {mA:Str->Option Value} (n:h.Ns1 dx mA):∃ od,h.get? dx=some od/\∀ name,PySem.W.lookIn name od=some (mA name):=by
 obtain ⟨o,es,ep,ho,hd,hk,_,hm⟩:=n
 refine ⟨o,ho,λ name=>?_⟩
 have e:=hm name
 unfold nsFind findBy at e
 rw [<- Array.find?_toList] at e
 unfold PySem.W.lookIn
 rw [hd]
 dsimp only
 split
 ·rename_i y q
  rw [q] at e
  exact i7 some e
 ·rename_i q
  rw [q] at e
  have a:es.toList.any (·.refKey)=false:=by
   rw [List.any_eq_false]
   intro y hy
   obtain ⟨z,t,hkey⟩:=hk y (Array.mem_toList_iff.mp hy)
   simp [DictEntry.refKey,hkey]
  have a':¬ es.toList.any (·.refKey)=true:=by rw [a];exact iC
  rw [if_neg a']
  exact i7 some e
theorem ObjM.look {h:Heap} {x dx C:Addr} {mA:Str->Option Value} (I:ObjM h x dx C mA):∃ od,PySem.W.InstAt h x (PySem.W.instObj C dx) C (some od)/\∀ name,PySem.W.lookIn name od=some (mA name):=
 let ⟨od,ho,hl⟩:=lookIn_ns I.ns
 ⟨od,⟨I.obj,rfl,rfl,ho⟩,hl⟩
section
variable {prog:Program} {w:World} {A:Around} {E:Value->Shared->Prop} {s:Shared} {K:W.Frag} {x dx C f:Addr} {mA:Str->Option Value} {name:Str} {v:Value}
theorem get_map {expr:Bool} {Q:Value->Shared->Prop} (X:K.In s.heap) (I:ObjM s.heap x dx C mA) (hg:PySem.W.plainGet K C name=true) (hh:PySem.W.hasDictIn K C=true)
  (ha:PySem.W.findIn K (.ref C) name=some none) (hv:mA name=some v) (hv':PySem.W.handedIn v=true) (h:Q v { s with toks:=s.toks+1 }) :
  wpAny (model prog w) A (getAttr (.ref x) name expr) Q E s:=by
 obtain ⟨od,J,hl⟩:=I.look
 exact PySem.W.get_value X J (PySem.W.plainGet_of hg).1 (PySem.W.findObj_own hh ha rfl (by rw [hl,hv])) hv' h
theorem get_meth {pl:Sem Bool} {Q:Value × List Value->Shared->Prop} (X:K.In s.heap) (I:ObjM s.heap x dx C mA) (hg:PySem.W.plainGet K C name=true)
  (hf:PySem.W.findIn K (.ref C) name=some (some (.ref f))) (ht:PySem.W.isFn K (.ref f)=true) (hv:mA name=none) (h:Q (.ref f,[.ref x]) s) :
  wpAny (model prog w) A (getMethod (.ref x) name pl) Q E s:=by
 obtain ⟨od,J,hl⟩:=I.look
 exact PySem.W.method_fn X J (PySem.W.plainGet_of hg).1 (PySem.W.plainGet_of hg).2 hf (beq_iff_eq.mp ht) (by show (PySem.W.lookIn name od).map (·.isSome)=some false;rw [hl,hv];rfl) h
theorem set_map {ns:List Str} {Q:Unit->Shared->Prop} (X:K.In s.heap) (I:ObjM s.heap x dx C mA)
  (hs:PySem.W.findIn K (.ref C) "__setattr__"=some (some (.builtin "object.__setattr__"))) (hp:PySem.W.plainOver K C=true) (ht:PySem.W.takerIn K C name=some none) (hh:PySem.W.hasDictIn K C=true)
  (hw:PySem.Within mA ns) (hsz:ns.length<=sizeLine)
  (h:∀ h',ObjM h' x dx C (λ y=>if y=name then some v else mA y)->Heap.SameBut dx s.heap h'->Q () { s with heap:=h',toks:=s.toks+2 }) :
  wpAny (model prog w) A (setAttr (.ref x) name v) Q E s:=by
 obtain ⟨od,J,hl⟩:=I.look
 refine PySem.W.set_plain X J hs (PySem.W.osa_open (s:={ s with toks:=s.toks+1 }) (r:=none) X J hp ht λ b=>?_)
 obtain ⟨cd,hc,hd'⟩:=PySem.W.any_some hh
 have hx:s.heap.get? x=some ⟨.ref C,some dx,.plain,#[]⟩:=I.obj
 refine hU (ip (hU (hU (wpAny_loadPart hx (hU (PySem.W.Looks.here (s:={ s with toks:=s.toks+1 }) (PySem.W.looks_clsIn X hc) ?_))))))
 rw [hd']
 refine ip (a:=some dx) (hU (ip (hU ?_)))
 refine wpAny_nsSet1 (s:={ s with toks:=s.toks+1 }) I.ns λ h' hn2 hs2=>?_
 obtain ⟨oD,esD,epD,hoD,hdD,hcD⟩:=hn2.count (PySem.Within.cons name v hw)
 refine hU (wpAny_lookBehind hoD (by rw [hdD];exact pastItsLine_dict (ie hcD (by rw [ja];omega))) ?_)
 exact ip (h _ ⟨(hs2.2 _ (Ne.symm I.ne)).trans I.obj,hn2,I.ne⟩ hs2)
theorem make_map {R:Result->Shared->Prop} {vs:List Value} {kw:List (Str × Value)} (X:K.In s.heap) (hm:PySem.W.makesIn K C=true)
  (hi:PySem.W.findIn K (.ref C) "__init__"=some (some (.ref f))) (hf:PySem.W.typeIn K (.ref f)=some (.type "function"))
  (h:codeAny (model prog w) (A.under (.builtin "type.__call__" ⟨.ref C::vs,kw⟩)) (.call (.ref f) ⟨.ref (s.heap.objs.size+1)::vs,kw⟩) (PySem.W.InitBack (s.heap.objs.size+1) R)
   { s with heap:=(s.heap.push PySem.W.emptyDict).push (PySem.W.instObj C s.heap.objs.size) }) :
  codeAny (model prog w) A (.call (.ref C) ⟨vs,kw⟩) R s:=by
 obtain ⟨hh,g,d,t,os⟩:=s
 exact PySem.W.make_core (PySem.W.makes_of X hm) (PySem.W.looks_findIn X hi) (λ self=>PySem.W.bind_fn X self hf) (.inl rfl) h
end
noncomputable def b5 (f:Str) (v:V):List (Str × V)->List (Str × V)
 | []=>[(f,v)]
 | (g,x)::r=>if g=f then (g,v)::r else (g,x)::b5 f v r
theorem dk (f g:Str) (v:V):∀ fs:List (Str × V),(b5 f v fs).lookup g=if g=f then some v else fs.lookup g
 | []=>by
  show List.lookup g [(f,v)]=_
  by_cases h:g=f
  ·have hb:(g == f)=true:=beq_iff_eq.mpr h
   simp only [List.lookup,hb,if_pos h]
  ·have hb:(g == f)=false:=jE.mpr h
   simp only [List.lookup,hb,if_neg h]
 | (k,x)::r=>by
  have ih:=dk f g v r
  rw [show b5 f v ((k,x)::r)=(if k=f then (k,v)::r else (k,x)::b5 f v r) from rfl]
  by_cases hk:k=f
  ·rw [if_pos hk]
   by_cases h:g=k
   ·have hb:(g == k)=true:=beq_iff_eq.mpr h
    simp only [List.lookup,hb,if_pos (h.trans hk)]
   ·have hb:(g == k)=false:=jE.mpr h
    simp only [List.lookup,hb,if_neg (λ e:g=f=>h (e.trans hk.symm))]
  ·rw [if_neg hk]
   by_cases h:g=k
   ·have hb:(g == k)=true:=beq_iff_eq.mpr h
    simp only [List.lookup,hb,if_neg (λ e:g=f=>hk (h.symm.trans e))]
   ·have hb:(g == k)=false:=jE.mpr h
    simp only [List.lookup,hb]
    exact ih
theorem keys_putF (f:Str) (v:V):∀ fs:List (Str × V),f∈(b5 f v fs).map (·.1)/\∀ g,g∈fs.map (·.1)->g∈(b5 f v fs).map (·.1)
 | []=>⟨by simp [b5],λ g h=>by simp at h⟩
 | (k,x)::r=>by
  obtain ⟨i1,i2⟩:=keys_putF f v r
  rw [show b5 f v ((k,x)::r)=(if k=f then (k,v)::r else (k,x)::b5 f v r) from rfl]
  by_cases hk:k=f
  ·rw [if_pos hk]
   subst hk
   exact ⟨by simp,λ g h=>by simpa using h⟩
  ·rw [if_neg hk]
   refine ⟨?_,λ g h=>?_⟩
   ·rw [jp]
    exact iZ _ i1
   ·rw [jp] at h ⊢
    rcases iw.mp h with e | e
    ·exact iw.mpr (.inl e)
    ·exact iZ _ (i2 g e)
theorem bZ (f:Str) (v:V):∀ fs:List (Str × V),(b5 f v fs).length<=fs.length+1
 | []=>by simp [b5]
 | (k,x)::r=>by
  have ih:=bZ f v r
  rw [show b5 f v ((k,x)::r)=(if k=f then (k,v)::r else (k,x)::b5 f v r) from rfl]
  by_cases hk:k=f
  ·rw [if_pos hk,ja,ja];omega
  ·rw [if_neg hk,ja,ja];omega
theorem RelO.some_of {v:V} {o:Option Value} (r:RelO (some v) o):∃ u,o=some u/\RelV v u:=by
 cases o with
 | none=>exact (show False from r).elim
 | some u=>exact ⟨u,rfl,r⟩
theorem RelO.none_of {o:Option Value} (r:RelO none o):o=none:=by
 cases o with
 | none=>rfl
 | some u=>exact (show False from r).elim
theorem handed_of {v:V} {u:Value} (r:RelV v u):PySem.W.handedIn u=true:=by
 cases v with
 | non=>cases (show u=Value.none from r);rfl
 | bl b=>cases (show u=Value.bool b from r);rfl
 | int i=>obtain ⟨t,e⟩:=(show ∃ t,u=Value.int i t from r);cases e;rfl
 | str x=>obtain ⟨t,e⟩:=(show ∃ t,u=Value.str x t from r);cases e;rfl
 | byt b=>obtain ⟨t,e⟩:=(show ∃ t,u=Value.bytes b t from r);cases e;rfl
 | flt b=>obtain ⟨t,e⟩:=(show ∃ t,u=Value.float b t from r);cases e;rfl
 | ref a=>cases (show u=Value.ref a from r);rfl
 | ty n=>cases (show u=Value.type n from r);rfl
section
variable {P:Program} {w:World} {H H':Hp} {h h':Heap} {a C dx:Addr} {fs fs':List (Str × V)}
theorem ins_get (hok:HOk P w H h) (e:H a=some (.ins C dx fs)):∃ mA,ObjM h a dx C mA/\(∀ f,RelO (fs.lookup f) (mA f))/\PySem.Within mA (fs.map (·.1))/\fs.length<=1000/\H dx=some (.own a):=by
 obtain ⟨d,z,ne,ob,mA,n,r,q⟩:=(show ObjOk P w H h a (.ins C dx fs) from hok a _ e)
 exact ⟨mA,⟨ob,n,ne⟩,r,q,z,d⟩
end
structure Cls (K:W.Frag) (C:Addr):Prop where
 pg:PySem.W.plainGet K C Str.empty=true
 hd:PySem.W.hasDictIn K C=true
 po:PySem.W.plainOver K C=true
 sa:PySem.W.findIn K (.ref C) "__setattr__"=some (some (.builtin "object.__setattr__"))
theorem Cls.get {K:W.Frag} {C:Addr} (c:Cls K C) (f:Str):PySem.W.plainGet K C f=true:=c.pg
noncomputable def NoAttr (K:W.Frag) (C:Addr) (f:Str):Prop:=PySem.W.findIn K (.ref C) f=some none
theorem NoAttr.taker {K:W.Frag} {C:Addr} {f:Str} (n:NoAttr K C f):PySem.W.takerIn K C f=some none:=by
 unfold PySem.W.takerIn
 rw [show PySem.W.findIn K (.ref C) f=some none from n]
 rfl
structure Meth (K:W.Frag) (C:Addr) (m:Str) (f:Addr):Prop where
 at_:PySem.W.findIn K (.ref C) m=some (some (.ref f))
 fn:PySem.W.isFn K (.ref f)=true
 kp:PySem.W.keepIn K (.ref f)=true
section
variable {X:Cx} {pins:List (Addr × Obj)} {σ:St} {H:Hp} {s:Shared} {a C dx:Addr} {fs:List (Str × V)} {f:Str} {v:V} {A:Around} {E:Value->Shared->Prop}
theorem gL {b:Bool} {Q:Value->Shared->Prop} (I:Inv X pins σ H s) (e:H a=some (.ins C dx fs)) (c:Cls X.K C) (n:NoAttr X.K C f) (l:fs.lookup f=some v)
  (h:∀ u s',Inv X pins σ H s'->RelV v u->Q u s'):wpAny (model X.prog X.w) A (getAttr (.ref a) f b) Q E s:=by
 obtain ⟨mA,O,r,_,_,_⟩:=ins_get I.hok e
 obtain ⟨u,hu,ru⟩:=RelO.some_of (v:=v) (o:=mA f) (by rw [<- l];exact r f)
 exact get_map I.kIn O (c.get f) c.hd n hu (handed_of ru) (h u _ (I.tok _) ru)
theorem fN {m:Str} {g:Addr} {pl:Sem Bool} {Q:Value × List Value->Shared->Prop} (I:Inv X pins σ H s) (e:H a=some (.ins C dx fs)) (c:Cls X.K C) (k:Meth X.K C m g) (l:fs.lookup m=none)
  (h:Q (.ref g,[.ref a]) s):wpAny (model X.prog X.w) A (getMethod (.ref a) m pl) Q E s:=by
 obtain ⟨mA,O,r,_,_,_⟩:=ins_get I.hok e
 have hn:mA m=none:=RelO.none_of (by rw [<- l];exact r m)
 exact get_meth I.kIn O (c.get m) k.at_ k.fn hn h
theorem setattr_ok {y:V} {u:Value} {Q:Unit->Shared->Prop} (I:Inv X pins σ H s) (e:H a=some (.ins C dx fs)) (c:Cls X.K C) (n:NoAttr X.K C f) (hl:fs.length<1000) (ry:RelV y u)
  (h:∀ s',Inv X pins σ (upd H a (.ins C dx (b5 f y fs))) s'->Q () s'):wpAny (model X.prog X.w) A (setAttr (.ref a) f u) Q E s:=by
 obtain ⟨mA,O,r,wi,_,ho⟩:=ins_get I.hok e
 have hz:(fs.map (·.1)).length<=sizeLine:=by rw [hZ,sizeLine_eq];omega
 refine set_map I.kIn O c.sa c.po n.taker c.hd wi hz λ h' O' sb=>h _ ?_
 have hd:∃ o,h'.get? dx=some o:=let ⟨o,_,_,e',_⟩:=O'.ns;⟨o,e'⟩
 refine I.write (x:=a) (e:=dx) (by rw [e];exact True.intro) (.inr ho) (λ b q hb z=>(sb.2 b hb).trans z) hd ?_
 refine ⟨by rw [ai O.ne];exact ho,?_,O.ne,O'.obj,_,O'.ns,λ g=>?_,λ g hg=>?_⟩
 ·have:=bZ f y fs;omega
 ·show RelO ((b5 f y fs).lookup g) (if g=f then some u else mA g)
  rw [dk]
  by_cases q:g=f
  ·rw [if_pos q,if_pos q];exact ry
  ·rw [if_neg q,if_neg q];exact r g
 ·by_cases q:g=f
  ·rw [q];exact (keys_putF f y fs).1
  ·refine (keys_putF f y fs).2 g (wi g λ z=>hg ?_)
   show (if g=f then some u else mA g)=none
   rw [if_neg q];exact z
theorem Inv.made (I:Inv X pins σ H s):Inv X pins σ (upd (upd H s.heap.objs.size (.own (s.heap.objs.size+1))) (s.heap.objs.size+1) (.ins C s.heap.objs.size []))
  { s with heap:=(s.heap.push PySem.W.emptyDict).push (PySem.W.instObj C s.heap.objs.size) }:=by
 have e1:(s.heap.push PySem.W.emptyDict).get? s.heap.objs.size=some PySem.W.emptyDict:=iA s.heap rfl
 have e2:((s.heap.push PySem.W.emptyDict).push (PySem.W.instObj C s.heap.objs.size)).get? (s.heap.objs.size+1)=some (PySem.W.instObj C s.heap.objs.size):=by
  have:=iA (s.heap.push PySem.W.emptyDict) (o:=PySem.W.instObj C s.heap.objs.size) rfl
  rwa [Heap.size_push] at this
 have e3:(s.heap.push PySem.W.emptyDict).Ns s.heap.objs.size (λ _=>none):=⟨PySem.W.emptyDict,#[],_,e1,rfl,(λ e he=>absurd he (by simp)),λ _=>rfl⟩
 have I1:=I.laid (a:=s.heap.objs.size) (o:=.own (s.heap.objs.size+1)) (h':=s.heap.push PySem.W.emptyDict) (t':=s.toks) (λ b u q=>ia _ q) (ic _) ⟨_,e1⟩
 refine I1.laid (a:=s.heap.objs.size+1) (o:=.ins C s.heap.objs.size []) (t':=s.toks) (λ b u q=>ia _ q) (Nat.le_of_eq (Heap.size_push _ _)) ?_
 have ne:s.heap.objs.size≠s.heap.objs.size+1:=iI (Nat.lt_succ_self _)
 refine ⟨by rw [ai ne,ac],im _,ne,e2,λ _=>none,(Heap.Ns1.of_empty e3).at λ o q=>ia _ q,λ _=>True.intro,λ y hy=>absurd rfl hy⟩
theorem attr_of {prog:Program} {w:World} {env:Env} {e:Expr} {f:Str} {pos:Pos} {s:Shared} {Q:Value->Shared->Prop} (hb:attributeBase e f env (eval e env)=eval e env)
  (h:wpAny (model prog w) A (eval e env) (λ o s₁=>wpAny (model prog w) A (getAttr o f true) Q E s₁) E s):wpAny (model prog w) A (eval (.Attribute e f pos) env) Q E s:=
 Attribute_any_ h (by rw [arm_eval_Attribute,hb])
end
inductive ItFld (K:W.Frag) (f:Str) (Q:VK) (x:V) (H1:Hp):Prop
 | mk (a:_) (C:_) (dx:_) (fs:_) (v:_) (h1:x=.ref a) (h2:H1 a=some (.ins C dx fs)) (h3:Cls K C) (h4:NoAttr K C f) (h5:fs.lookup f=some v) (h6:Q v H1):ItFld K f Q x H1
noncomputable def tFld (K:W.Frag) (ta:TE) (f:Str):TE:=λ σ H Q=>ta σ H λ x H1=>ItFld K f Q x H1
noncomputable def sFld (K:W.Frag) (ta tv:TE) (f:Str):TS:=λ D σ H=>tv σ H λ y H1=>ta σ H1 λ x H2=>∃ a C dx fs,x=.ref a/\H2 a=some (.ins C dx fs)/\Cls K C/\NoAttr K C f/\fs.length<1000/\
 D.nx σ (upd H2 a (.ins C dx (b5 f y fs)))
section
variable {X:Cx} {o e value:Expr} {f:Str} {pos pos' tpos:Pos} {ta tv:TE}
theorem aO (he:PE X e ta) (hb:attributeBase e f X.env (eval e X.env)=eval e X.env):PE X (.Attribute e f pos) (tFld X.K ta f):=by
 intro pins s σ H Q I h
 refine attr_of hb (thn (he pins s σ H _ I h) λ u s1 ⟨x,H1,I1,rx,a,C,dx,fs,v,ex,ea,c,n,l,q⟩=>?_)
 subst ex
 obtain rfl:u=Value.ref a:=rx
 exact gL I1 ea c n l λ u' s2 I2 ru=>⟨v,H1,I2,ru,q⟩
theorem dO (ha:PE X o ta) (hv:PE X value tv) (hs:swapsWith value (some (.Attribute o f pos')) pos.line X.env=pure false):PS X (.Assign [.Attribute o f pos'] value pos) (sFld X.K ta tv f):=by
 intro pins s σ H D I h
 refine plainObj_wpAny_Assign_Attribute (thn (hv pins s σ H _ I h) λ u s1 ⟨y,H1,I1,ry,q⟩=>thn (ha pins s1 σ H1 _ I1 q) λ ov s2 ⟨x,H2,I2,rx,a,C,dx,fs,ex,ea,c,n,l,q2⟩=>?_) hs
 subst ex
 obtain rfl:ov=Value.ref a:=rx
 exact setattr_ok I2 ea c n l ry λ s3 I3=>⟨σ,_,I3,q2⟩
end
section
variable {X:Cx} {pins:List (Addr × Obj)} {σ:St} {H:Hp} {s:Shared} {A:Around} {E:Value->Shared->Prop} {Q:Value->Shared->Prop} {c:Value} {b:Bool}
inductive TyOf (K:W.Frag) (H:Hp):V->Value->Prop where
 | non:TyOf K H .non (.type "NoneType")
 | bl (x:Bool):TyOf K H (.bl x) (.type "bool")
 | int (i:Int):TyOf K H (.int i) (.type "int")
 | str (x:Str):TyOf K H (.str x) (.type "str")
 | flt (x:UInt64):TyOf K H (.flt x) (.type "float")
 | lst {a:Addr} {xs:List V} (e:H a=some (.lst xs)):TyOf K H (.ref a) (.type "list")
 | frz {a:Addr} {o:Obj} {xs:List V} (e:H a=some (.frz o (.lst xs))):TyOf K H (.ref a) (.type "list")
 | tup {a:Addr} {xs:List V} (e:H a=some (.tup xs)):TyOf K H (.ref a) (.type "tuple")
 | dK {a:Addr} {kvs:List (Key × V)} (e:H a=some (.dK kvs)):TyOf K H (.ref a) (.type "dict")
 | dT {a:Addr} {kvs:List (List Key × V)} (e:H a=some (.dT kvs)):TyOf K H (.ref a) (.type "dict")
 | ins {a C dx:Addr} {fs:List (Str × V)} (e:H a=some (.ins C dx fs)) (cl:Cls K C) (ha:PySem.W.findIn K (.ref C) "__class__"=some (some (.builtin "object.__class__")))
   (hn:PySem.W.specialIn K (.builtin "object.__class__") "__get__"=some (some (.builtin "getset_descriptor.__get__"))) (htk:PySem.W.takesIn K (.builtin "object.__class__")=some true)
   (hm:PySem.W.mroIn K C (.type "object")=some true):TyOf K H (.ref a) (.ref C)
theorem isinst_ok {x:V} {u t:Value} (I:Inv X pins σ H s) (rx:RelV x u) (ty:TyOf X.K H x t) (e:PySem.W.kitOne X.K t c=some b) (h:∀ tk,Q (.bool b) { s with toks:=tk }) :
  wpAny (model X.prog X.w) A (call (.builtin "isinstance") [u,c]) Q E s:=by
 cases ty with
 | non=>cases (show u=Value.none from rx);exact jC PySem.W.kitx_none I.kIn True.intro e (λ z=>nomatch z) h
 | bl y=>cases (show u=Value.bool y from rx);exact jC PySem.W.kitx_bool I.kIn True.intro e (λ z=>nomatch z) h
 | int i=>obtain ⟨t,q⟩:=(show ∃ t,u=Value.int i t from rx);cases q;exact jC PySem.W.kitx_int I.kIn True.intro e (λ z=>nomatch z) h
 | str y=>obtain ⟨t,q⟩:=(show ∃ t,u=Value.str y t from rx);cases q;exact jC PySem.W.kitx_str I.kIn True.intro e (λ z=>nomatch z) h
 | flt y=>obtain ⟨t,q⟩:=(show ∃ t,u=Value.float y t from rx);cases q;exact jC PySem.W.kitx_float I.kIn True.intro e (λ z=>nomatch z) h
 | @lst a xs ea=>
  cases (show u=Value.ref a from rx)
  obtain ⟨_,_,n,_,h1⟩:=(show ObjOk X.prog X.w H s.heap a (.lst xs) from I.hok a _ ea)
  exact jC PySem.W.kitx_list I.kIn ⟨_,h1,rfl⟩ e (λ z=>nomatch z) h
 | @frz a ob xs ea=>
  cases (show u=Value.ref a from rx)
  obtain ⟨_,_,_,n,_,h1⟩:=(show ObjOk X.prog X.w H s.heap a (.frz ob (.lst xs)) from I.hok a _ ea)
  exact jC PySem.W.kitx_list I.kIn ⟨_,h1,rfl⟩ e (λ z=>nomatch z) h
 | @tup a xs ea=>
  cases (show u=Value.ref a from rx)
  obtain ⟨_,_,_,p⟩:=(show ObjOk X.prog X.w H s.heap a (.tup xs) from I.hok a _ ea)
  obtain ⟨o,h1,h2,_⟩:=p
  exact jC PySem.W.kitx_tuple I.kIn ⟨o,h1,h2⟩ e (λ z=>nomatch z) h
 | @dK a kvs ea=>
  cases (show u=Value.ref a from rx)
  obtain ⟨_,_,vs,_,p⟩:=(show ObjOk X.prog X.w H s.heap a (.dK kvs) from I.hok a _ ea)
  obtain ⟨o,es,ep,h1,h2,_⟩:=p
  exact jC PySem.W.kitx_dict I.kIn ⟨o,h1,h2.1⟩ e (λ z=>nomatch z) h
 | @dT a kvs ea=>
  cases (show u=Value.ref a from rx)
  obtain ⟨_,_,xs,_,o,es,ep,h1,h2,_⟩:=(show ObjOk X.prog X.w H s.heap a (.dT kvs) from I.hok a _ ea)
  exact jC PySem.W.kitx_dict I.kIn ⟨o,h1,h2.1⟩ e (λ z=>nomatch z) h
 | @ins a C dx fs ea cl ha hn htk hm=>
  cases (show u=Value.ref a from rx)
  obtain ⟨mA,O,_⟩:=ins_get I.hok ea
  obtain ⟨od,J,_⟩:=O.look
  exact jC (PySem.W.kitx_own (cl.get _) cl.hd ha hn htk hm) I.kIn J e (λ z=>nomatch z) h
end
end L2
namespace L2
open PySem PySem.Spec PyProof.Rows
structure Room (k:Nat) (A:Around):Prop where
 hd:A.handled=none
 dp:A.depth+3*k+5<recursionLimit
 un:A.units+16*k+200<cLine
theorem Room.mono {j k:Nat} {A:Around} (r:Room k A) (h:j<=k):Room j A:=⟨r.hd,by have:=r.dp;omega,by have:=r.un;omega⟩
theorem Room.deeper {k:Nat} {A:Around} (r:Room (k+1) A) (env:Env):Room k (A.deeper env):=
 ⟨r.hd,by have:=r.dp;show A.depth+1+3*k+5<_;omega,by have:=r.un;show A.units+3+16*k+200<_;omega⟩
theorem make_depth {A:Around} {C:Addr} {us:List Value} {kw:List (Str × Value)}:(A.under (.builtin "type.__call__" ⟨.ref C::us,kw⟩)).depth=A.depth+1:=by
 first | rfl | simp [Around.under,Code.weight,Code.isCreation,Code.isGuard,Code.isCaller,Code.frames,Code.isFrame,guardIds]
theorem make_units {A:Around} {C:Addr} {us:List Value} {kw:List (Str × Value)}:(A.under (.builtin "type.__call__" ⟨.ref C::us,kw⟩)).units=A.units+1:=by
 first | rfl | simp [Around.under,Code.cUnits,Code.frames,Code.isFrame]
theorem Room.make {k:Nat} {A:Around} (r:Room (k+1) A) (C:Addr) (us:List Value) (kw:List (Str × Value)):Room k (A.under (.builtin "type.__call__" ⟨.ref C::us,kw⟩)):=
 ⟨r.hd,by have:=r.dp;rw [make_depth];omega,by have:=r.un;rw [make_units];omega⟩
theorem Room.depth {k:Nat} {A:Around} (r:Room k A):A.depth<recursionLimit:=by have:=r.dp;omega
theorem Room.units {k:Nat} {A:Around} (r:Room k A):A.units+64<cLine:=by have:=r.un;omega
theorem Room.units0 {k:Nat} {A:Around} (r:Room k A):A.units<cLine:=by have:=r.un;omega
noncomputable def tNil:TA:=λ _ H Q=>Q [] H
noncomputable def tCons (ta:TE) (tr:TA):TA:=λ σ H Q=>ta σ H λ x H1=>tr σ H1 λ xs H2=>Q (x::xs) H2
section
variable {X:Cx} {e:Expr} {es:List Expr} {te:TE} {t:TA} {pos:Pos}
theorem ad:PA X [] tNil:=λ _ _ _ _ H Q I h=>Calls.spliced_nil ⟨[],H,I,.nil,h⟩
theorem aa (ha:PE X e te) (hr:PA X es t) (hs:starEach (e::es) X.env=(false,eval e X.env)::starEach es X.env:=by rfl):PA X (e::es) (tCons te t):=by
 intro pos pins s σ H Q I h
 rw [hs]
 show wpAny _ _ (spliced ((false,eval e X.env)::backTo pos (starEach es X.env))) _ _ s
 refine Calls.spliced_cons (thn (ha pins s σ H _ I h) λ u s1 ⟨x,H1,I1,r1,q1⟩=>?_)
 exact thn (hr pos pins s1 σ H1 _ I1 q1) λ us s2 ⟨xs,H2,I2,r2,q2⟩=>⟨x::xs,H2,I2,.cons r1 r2,q2⟩
noncomputable def tTup (t:TA):TE:=λ σ H Q=>t σ H λ xs H1=>xs.length<=sizeLine/\∀ p,H1 p=none->Q (.ref p) (upd H1 p (.tup xs))
noncomputable def tLst (t:TA):TE:=λ σ H Q=>t σ H λ xs H1=>xs.length<=sizeLine/\∀ p,H1 p=none->Q (.ref p) (upd H1 p (.lst xs))
theorem aV {x1} (h:PA X es t):PE X (.Tuple es x1 pos) (tTup t):=by
 intro pins s σ H Q I hq
 refine wpAny_Tuple_spliced (thn (h pos pins s σ H _ I hq) λ us s1 ⟨xs,H1,I1,r,z,q⟩=>⟨by rw [<- r.length];exact z,?_⟩)
 have hf:H1 s1.heap.objs.size=none:=I1.hok.fresh (ic _)
 refine ⟨.ref s1.heap.objs.size,upd H1 s1.heap.objs.size (.tup xs),I1.laid (t':=s1.toks) (λ b u e=>ia _ e) (ic _) ?_,rfl,q _ hf⟩
 exact ⟨z,us,r,⟨_,iA _ rfl,rfl,_,rfl⟩⟩
theorem dR (h:PA X es t):PE X (.List es pos) (tLst t):=by
 intro pins s σ H Q I hq
 refine wpAny_List_spliced (thn (h pos pins s σ H _ I hq) λ us s1 ⟨xs,H1,I1,r,z,q⟩=>⟨by rw [<- r.length];exact z,?_⟩)
 have hf:H1 s1.heap.objs.size=none:=I1.hok.fresh (ic _)
 refine ⟨.ref s1.heap.objs.size,upd H1 s1.heap.objs.size (.lst xs),I1.laid (t':=s1.toks) (λ b u e=>ia _ e) (ic _) ?_,rfl,q _ hf⟩
 exact ⟨z,us,0,r,iA _ rfl⟩
end
noncomputable abbrev Sp:=List V->Hp->VK->XK->Prop
noncomputable abbrev CXT:=List Env->Hp->Shared->XK->Value->Shared->Prop
structure Env0 (P:Program) (w:World) (K:W.Frag) (mg:Str->Option Value) (base:Heap) (A:Around) (outer:List Env) (s:Shared) (H:Hp):Prop where
 frames:A.frames=some outer
 mod:Mod K mg base
 bs:∀ b o,base.get? b=some o->s.heap.get? b=some o/\H b=none
 bsz:base.objs.size<=s.heap.objs.size
 funs:s.heap.FunFrames base outer
 frf:∀ b∈frs outer,H b=none
 hok:HOk P w H s.heap
 bare:AllBare s.gens
noncomputable def CE (outer:List Env) (P:Program) (w:World) (H:Hp) (s:Shared) (Q:VK) (u:Value) (s':Shared):Prop:=
 ∃ v H',s'.os=s.os/\AllBare s'.gens/\Un (frs outer) [] H H' s.heap s'.heap/\HOk P w H' s'.heap/\RelV v u/\Q v H'
noncomputable def CR (CX:CXT) (outer:List Env) (P:Program) (w:World) (H:Hp) (s:Shared) (Q:VK) (E:XK) (r:Result) (s':Shared):Prop:=
 match r with
 | .ok (.ret u)=>CE outer P w H s Q u s'
 | .ok _=>False
 | .error e=>CX outer H s E e s'
structure FnOk (P:Program) (w:World) (K:W.Frag) (mg:Str->Option Value) (base:Heap) (CX:CXT) (k:Nat) (f:Addr) (fd:FuncData) (ps:List Str) (sp:Sp):Prop where
 len:∀ vs H Q E,sp vs H Q E->vs.length=ps.length
 run:∀ (A:Around) (outer:List Env) (s:Shared) (H:Hp) (args:Args) (us:List Value) (vs:List V) (Q:VK) (E:XK),Room k A->Env0 P w K mg base A outer s H->BindsTo s fd args (ps.zip us)->Vals vs us->sp vs H Q E->
  codeAny (model P w) A (.call (.ref f) args) (CR CX outer P w H s Q E) s
theorem Env0.make {P:Program} {w:World} {K:W.Frag} {mg:Str->Option Value} {base:Heap} {A:Around} {outer:List Env} {s:Shared} {H:Hp} (e:Env0 P w K mg base A outer s H) (C:Addr) (us:List Value) (kw:List (Str × Value)) :
  Env0 P w K mg base (A.under (.builtin "type.__call__" ⟨.ref C::us,kw⟩)) outer s H:=⟨by first | exact e.frames | (simpa [Around.under,Code.envs,Code.isFrame,pushEnvs] using e.frames),e.mod,e.bs,e.bsz,e.funs,e.frf,e.hok,e.bare⟩
section
variable {X:Cx} {pins:List (Addr × Obj)} {σ:St} {H:Hp} {s s':Shared}
theorem Inv.env0 (I:Inv X pins σ H s):Env0 X.prog X.w X.K X.mg X.base X.A X.stack s H:=
 ⟨I.ok.frames,I.ok.mod,I.bs,ie I.ok.bsz I.sz,I.stack,I.stkFree,I.hok,I.bare⟩
theorem Inv.after {Q:VK} {u:Value} (I:Inv X pins σ H s) (h:CE X.stack X.prog X.w H s Q u s'):EP X pins σ Q u s':=by
 obtain ⟨v,H',os,bare,un,hok,r,q⟩:=h
 obtain ⟨hh,g,d,t,os'⟩:=s'
 obtain rfl:os'=s.os:=os
 exact ⟨v,H',I.call (h':=hh) (g':=g) (d':=d) (t':=t) (ch:=[]) un hok bare (λ b z=>absurd z (by simp)),r,q⟩
end
noncomputable def tCall (sp:Sp) (dvs:List V) (E:XK) (t:TA):TE:=λ σ H Q=>t σ H λ vs H1=>sp (vs++dvs) H1 Q E
noncomputable def tMake (C:Addr) (sp:Sp) (dvs:List V) (E:XK) (t:TA):TE:=λ σ H Q=>t σ H λ vs H1=>∀ x dx,H1 x=none->H1 dx=none->dx≠x->
 sp (.ref x::(vs++dvs)) (upd (upd H1 dx (.own x)) x (.ins C dx [])) (λ v H2=>v=.non/\Q (.ref x) H2) E
noncomputable def Binds (K:W.Frag) (fd:FuncData) (ps:List Str) (ds:List Value):Prop:=
 ∀ (s:Shared) (us:List Value),K.In s.heap->(us++ds).length=ps.length->BindsTo s fd ⟨us,[]⟩ (ps.zip (us++ds))
theorem Binds.all {K:W.Frag} {fd:FuncData} {ps:List Str} (h:∀ us:List Value,us.length=ps.length->bindArgs fd ⟨us,[]⟩=pure (ps.zip us)):Binds K fd ps []:=λ s us _ hl=>by
 rw [jf] at hl ⊢
 exact .of_eq (h us hl)
noncomputable def cX (CX:CXT) (X:Cx) (E:XK):Prop:=∀ (pins:List (Addr × Obj)) (σ:St) (H:Hp) (s:Shared) (e:Value) (s':Shared),Inv X pins σ H s->CX X.stack H s E e s'->X.xe e s'
section
variable {X:Cx} {CX:CXT} {k:Nat} {f C:Addr} {fd:FuncData} {ps:List Str} {sp:Sp} {dvs:List V} {ds:List Value} {E:XK} {x m:Str} {p pos apos:Pos} {e o:Expr} {es:List Expr} {ta:TE} {t:TA}
theorem run_fn {pins:List (Addr × Obj)} {σ:St} {H:Hp} {s:Shared} {Q:VK} {us:List Value} {vs:List V} (F:FnOk X.prog X.w X.K X.mg X.base CX k f fd ps sp) (hr:Room k X.A) (hb:Binds X.K fd ps ds) (hd:Vals dvs ds) (hx:cX CX X E)
  (I:Inv X pins σ H s) (r:Vals vs us) (h:sp (vs++dvs) H Q E):wpAny (model X.prog X.w) X.A (call (.ref f) us) (EP X pins σ Q) X.xe s:=by
 have r2:Vals (vs++dvs) (us++ds):=r.append hd
 have hl:(us++ds).length=ps.length:=by rw [<- r2.length];exact F.len _ _ _ _ h
 refine wpAny_call (codeAny_mono (F.run X.A X.stack s H ⟨us,[]⟩ (us++ds) (vs++dvs) Q E hr I.env0 (hb s us I.kIn hl) r2 h) λ r s' hq=>?_)
 cases r with
 | error e=>exact hx pins σ H s e s' I hq
 | ok fl=>
  cases fl with
  | ret u=>exact I.after hq
  | next=>exact False.elim hq
  | brk=>exact False.elim hq
  | cont=>exact False.elim hq
theorem pe_call (F:FnOk X.prog X.w X.K X.mg X.base CX k f fd ps sp) (hr:Room k X.A) (hg:Gl X x) (hm:X.mg x=some (.ref f)) (hk:PySem.W.keepIn X.K (.ref f)=true) (hb:Binds X.K fd ps ds) (hd:Vals dvs ds) (hx:cX CX X E)
  (ha:PA X (e::es) t) (hdb:(x == ("__debug__":Str))=false:=by decide) (he:starEach (e::es) X.env=(false,eval e X.env)::starEach es X.env:=by rfl) (hpl:(backTo pos (starEach es X.env)).any (·.1)=false:=by rfl) :
  PE X (.Call (.Name x p) (e::es) [] pos) (tCall sp dvs E t):=by
 intro pins s σ H Q I h
 refine wpAny_Call_Name_kw (eo I hg hm ?_ hdb)
 refine jO (h₀:=X.base) I.ok.mod.kin hk (thn (ha pos pins s σ H _ I h) λ us s1 ⟨vs,H1,I1,r,q⟩=>⟨I1.kIn,?_⟩) he hpl
 exact run_fn F hr hb hd hx I1 r q
structure Mk (K:W.Frag) (C f:Addr):Prop where
 makes:PySem.W.makesIn K C=true
 init:PySem.W.findIn K (.ref C) "__init__"=some (some (.ref f))
 fn:PySem.W.isFn K (.ref f)=true
 kp:PySem.W.keepIn K (.ref C)=true
theorem run_make {pins:List (Addr × Obj)} {σ:St} {H:Hp} {s:Shared} {Q:VK} {us:List Value} {vs:List V} (M:Mk X.K C f) (F:FnOk X.prog X.w X.K X.mg X.base CX k f fd ps sp) (hr:Room (k+1) X.A) (hb:Binds X.K fd ps ds) (hd:Vals dvs ds)
  (hx:cX CX X E) (I:Inv X pins σ H s) (r:Vals vs us)
  (h:∀ x dx,H x=none->H dx=none->dx≠x->sp (.ref x::(vs++dvs)) (upd (upd H dx (.own x)) x (.ins C dx [])) (λ v H2=>v=.non/\Q (.ref x) H2) E) :
  wpAny (model X.prog X.w) X.A (call (.ref C) us) (EP X pins σ Q) X.xe s:=by
 have hq:=h (s.heap.objs.size+1) s.heap.objs.size (I.hok.fresh (Nat.le_succ _)) (I.hok.fresh (ic _)) (iI (Nat.lt_succ_self _))
 have I2:=Inv.made (C:=C) I
 have r2:Vals (V.ref (s.heap.objs.size+1)::(vs++dvs)) (Value.ref (s.heap.objs.size+1)::(us++ds)):=.cons rfl (r.append hd)
 have hl:(Value.ref (s.heap.objs.size+1)::us++ds).length=ps.length:=by
  have e:=r2.length
  rw [F.len _ _ _ _ hq] at e
  exact e.symm
 refine wpAny_call (make_map (f:=f) I.kIn M.makes M.init (beq_iff_eq.mp M.fn) (codeAny_mono (F.run _ X.stack _ _ ⟨Value.ref (s.heap.objs.size+1)::us,[]⟩ (Value.ref (s.heap.objs.size+1)::(us++ds)) _ _ E (hr.make C us [])
  (I2.env0.make C us []) (hb _ (Value.ref (s.heap.objs.size+1)::us) I2.kIn hl) r2 hq) λ r s' hq'=>?_))
 cases r with
 | error e=>exact hx pins σ _ _ e s' I2 hq'
 | ok fl=>
  cases fl with
  | ret u=>
   obtain ⟨v,H',I3,rv,ev,q3⟩:=I2.after hq'
   subst ev
   exact ⟨rv,⟨V.ref (s.heap.objs.size+1),H',I3,rfl,q3⟩⟩
  | next=>exact False.elim hq'
  | brk=>exact False.elim hq'
  | cont=>exact False.elim hq'
theorem pe_make (M:Mk X.K C f) (F:FnOk X.prog X.w X.K X.mg X.base CX k f fd ps sp) (hr:Room (k+1) X.A) (hg:Gl X x) (hm:X.mg x=some (.ref C)) (hb:Binds X.K fd ps ds) (hd:Vals dvs ds) (hx:cX CX X E)
  (ha:PA X (e::es) t) (hdb:(x == ("__debug__":Str))=false:=by decide) (he:starEach (e::es) X.env=(false,eval e X.env)::starEach es X.env:=by rfl) (hpl:(backTo pos (starEach es X.env)).any (·.1)=false:=by rfl) :
  PE X (.Call (.Name x p) (e::es) [] pos) (tMake C sp dvs E t):=by
 intro pins s σ H Q I h
 refine wpAny_Call_Name_kw (eo I hg hm ?_ hdb)
 refine jO (h₀:=X.base) I.ok.mod.kin M.kp (thn (ha pos pins s σ H _ I h) λ us s1 ⟨vs,H1,I1,r,q⟩=>⟨I1.kIn,?_⟩) he hpl
 exact run_make M F hr hb hd hx I1 r q
end
section
variable {X:Cx} {CX:CXT} {k:Nat} {f C:Addr} {fd:FuncData} {ps ks:List Str} {sp:Sp} {E:XK} {x m:Str} {p pos apos kpos:Pos} {e o:Expr} {es:List Expr} {kws:List Keyword} {te ta:TE} {t tk:TA} {nm:Option Str}
variable {g:List Value->List Value->List Value} {gV:List V->List V->List V}
end
structure FnScope (N P:List Str) (sc:Scope):Prop where
 kind:sc.kind=.function
 co:sc.isCoroutine=false
 gen:sc.isGenerator=false
 nd:N.Nodup
 pre:N.take P.length=P
 par:∀ x∈P,sc.names.lookup x=some .local∨sc.names.lookup x=some .cell
 nofree:∀ y∈sc.names,y.2≠.free
theorem bindL_out {kindOf:Str->Option NameKind} {x:Str}:∀ {binds:List (Str × Value)} {m:Str->Option Value},(∀ v,(x,v) ∉ binds)->bindL kindOf binds m x=m x
 | [],_,_=>rfl
 | (n,v)::r,m,h=>by
  unfold bindL
  rw [bindL_out λ w hw=>h w (iZ _ hw)]
  split
  ·have:x≠n:=by rintro rfl;exact h v List.mem_cons_self
   simp [this]
  ·rfl
theorem bindC_out {kindOf:Str->Option NameKind} {x:Str}:∀ {binds:List (Str × Value)} {m:Str->Option Value},(∀ v,(x,v) ∉ binds)->bindC kindOf binds m x=m x
 | [],_,_=>rfl
 | (n,v)::r,m,h=>by
  unfold bindC
  rw [bindC_out λ w hw=>h w (iZ _ hw)]
  split
  ·rfl
  ·have:x≠n:=by rintro rfl;exact h v List.mem_cons_self
   simp [this]
theorem bindL_get {kindOf:Str->Option NameKind} {x:Str} {v:Value}:∀ {P:List Str} {vs:List Value} {i:Nat} {m:Str->Option Value},P.Nodup->P[i]?=some x->vs[i]?=some v->kindOf x=some .local->
  bindL kindOf (P.zip vs) m x=some v
 | [],_,_,_,_,h,_,_=>by simp at h
 | _::_,[],_,_,_,_,h,_=>by simp at h
 | p::P,w::vs,0,m,nd,h1,h2,hk=>by
  simp at h1 h2;subst h1;subst h2
  show bindL kindOf ((p,w)::P.zip vs) m p=_
  unfold bindL
  rw [bindL_out λ v hv=>(List.nodup_cons.mp nd).1 (List.of_mem_zip hv).1,if_pos hk]
  simp
 | p::P,w::vs,i+1,m,nd,h1,h2,hk=>by
  show bindL kindOf ((p,w)::P.zip vs) m x=_
  unfold bindL
  exact bindL_get (i:=i) (List.nodup_cons.mp nd).2 (by simpa using h1) (by simpa using h2) hk
theorem bindC_get {kindOf:Str->Option NameKind} {x:Str} {v:Value}:∀ {P:List Str} {vs:List Value} {i:Nat} {m:Str->Option Value},P.Nodup->P[i]?=some x->vs[i]?=some v->kindOf x≠some .local->
  bindC kindOf (P.zip vs) m x=some v
 | [],_,_,_,_,h,_,_=>by simp at h
 | _::_,[],_,_,_,_,h,_=>by simp at h
 | p::P,w::vs,0,m,nd,h1,h2,hk=>by
  simp at h1 h2;subst h1;subst h2
  show bindC kindOf ((p,w)::P.zip vs) m p=_
  unfold bindC
  rw [bindC_out λ v hv=>(List.nodup_cons.mp nd).1 (List.of_mem_zip hv).1,if_neg hk]
  simp
 | p::P,w::vs,i+1,m,nd,h1,h2,hk=>by
  show bindC kindOf ((p,w)::P.zip vs) m x=_
  unfold bindC
  exact bindC_get (i:=i) (List.nodup_cons.mp nd).2 (by simpa using h1) (by simpa using h2) hk
noncomputable def dY (N:List Str) (vs:List V):St:=vs.map some++List.replicate (N.length-vs.length) none
noncomputable def aK (CX:CXT) (P:Program) (w:World) (K:W.Frag) (mg:Str->Option Value) (base:Heap) (N:List Str) (qual:Str) (scope:Scope) (f:Addr) (cd:Value) (A:Around) (outer:List Env) (s:Shared) (H:Hp) (E:XK):Cx where
 prog:=P
 w:=w
 K:=K
 mg:=mg
 base:=base
 A:=A.deeper (envOfC qual scope s.heap.objs.size f cd)
 N:=N
 s₀:=s
 H₀:=H
 env:=envOfC qual scope s.heap.objs.size f cd
 outer:=outer
 stack:=envOfC qual scope s.heap.objs.size f cd::outer
 ex:=[]
 calm:=true
 fn:=λ _=>true
 pn:=[]
 xe:=λ e s'=>wpAny (model P w) (A.deeper (envOfC qual scope s.heap.objs.size f cd)) (leaving (envOfC qual scope s.heap.objs.size f cd) e) (λ _ s''=>CX outer H s E e s'') (λ e' s''=>CX outer H s E e' s'') s'
theorem cell_has {sc:Scope} {n:Nat} {x:Str} (h:sc.names.lookup x=some .cell):∃ c,(cellsFrom n sc.names []).lookup x=some c:=by
 have q:=PySem.W.cellsFrom_some sc.names n [] (.inl h)
 exact Option.isSome_iff_exists.mp q
theorem inv_start {CX:CXT} {P:Program} {w:World} {K:W.Frag} {mg:Str->Option Value} {base:Heap} {N ps:List Str} {qual:Str} {scope:Scope} {f:Addr} {cd:Value} {A:Around} {outer:List Env} {s s1:Shared} {H:Hp} {E:XK} {us:List Value} {vs:List V}
  (S:FnScope N ps scope) (hd:A.handled=none) (e0:Env0 P w K mg base A outer s H) (hl:vs.length=ps.length) (r:Vals vs us)
  (x:InCallC s s.heap.objs.size (bindL (envOfC qual scope s.heap.objs.size f cd).kindOf (ps.zip us) λ _=>none) (cellsFrom (s.heap.objs.size+1) scope.names []) (bindC (envOfC qual scope s.heap.objs.size f cd).kindOf (ps.zip us) λ _=>none) s1) :
  Inv (aK CX P w K mg base N qual scope f cd A outer s H E) [] (dY N vs) H s1:=by
 have hpl:ps.length<=N.length:=by have:=i7 List.length S.pre;rw [iz] at this;omega
 obtain ⟨h1,tk,rfl,hk⟩:=x.done
 have noA:∀ b:Addr,b ∉ (aK CX P w K mg base N qual scope f cd A outer s H E).ex:=λ b z=>absurd (show b∈([]:List Addr) from z) (by simp)
 refine ⟨⟨e0.mod,S.kind,rfl,rfl,ic _,λ y z c h1 h2=>?_,λ y hy=>?_,λ y c _ h=>?_,λ _=>hd,Around.frames_deeper e0.frames,.inr ⟨rfl,rfl⟩,λ b z=>absurd z (noA b),e0.bs,e0.bsz,λ b _ _=>noA b,λ b z=>absurd z (noA b),e0.funs,e0.frf⟩,
  rfl,e0.bare,Un.kept hk,⟨_,x.toInCall.ns,λ i y v h1 h2 h3=>?_⟩,λ y c h=>⟨_,x.cell y c h⟩,e0.hok.fresh (ic _),λ y c h=>?_,λ p hp=>absurd (show p∈([]:List (Addr × Obj)) from hp) (by simp),e0.hok.kept hk,?_⟩
 ·exact name_of_addr x.apart (jv h1) (jv h2)
 ·have hy:scope.names.lookup y=some .cell∨scope.names.lookup y=some .free:=hy
  rcases hy with hy | hy
  ·exact cell_has hy
  ·exact absurd rfl (S.nofree _ (jv hy))
 ·exact Nat.le_of_lt (x.above y c (jv h))
 ·have hi:i<vs.length:=by
   unfold dY at h2
   by_cases hi:i<vs.length
   ·exact hi
   ·rw [jc (by simpa using hi)] at h2
    rw [List.getElem?_replicate] at h2
    split at h2 <;> cases h2
  have ha:vs[i]?=some v:=by
   unfold dY at h2
   rw [jr (by simpa using hi),iq] at h2
   cases e:vs[i]? with
   | none=>rw [e] at h2;cases h2
   | some a=>rw [e] at h2;cases h2;rfl
  obtain ⟨u,hu,rv⟩:=r.get ha
  have hp:ps[i]?=some y:=by
   rw [<- S.pre,List.getElem?_take_of_lt (by omega)];exact h1
  have ndP:ps.Nodup:=by rw [<- S.pre];exact S.nd.sublist (List.take_sublist _ _)
  refine ⟨u,rv,?_⟩
  rcases S.par y (ig hp) with k | k
  ·exact .inl ⟨k,bindL_get ndP hp hu k⟩
  ·obtain ⟨c,e⟩:=cell_has (n:=s.heap.objs.size+1) k
   refine .inr ⟨.inl k,c,e,?_⟩
   have q:=x.cell y c e
   rw [bindC_get ndP hp hu (by show scope.names.lookup y≠_;rw [k];decide)] at q
   exact q
 ·exact e0.hok.fresh (Nat.le_of_lt (x.above y c (jv h)))
 ·unfold dY
  show _=N.length
  rw [ir,hZ,jw]
  omega
theorem fn_of {CX:CXT} {P:Program} {w:World} {K:W.Frag} {mg:Str->Option Value} {base:Heap} {k:Nat} {f:Addr} {name qual:Str} {params:Arguments} {body:List Stmt} {scope:Scope} {dV kV doc pm cdv ct oc:Value} {an od:Option Addr}
  {osl:Array (Option Value)} {N ps:List Str} {sp:Sp} (lk:K.lookup f=some ⟨oc,od,.func (PySem.W.fnOf name qual params body scope dV kV doc pm an cdv ct),osl⟩) (hcd:PySem.W.codeIn K cdv qual=true) (S:FnScope N ps scope)
  (len:∀ vs H Q E,sp vs H Q E->vs.length=ps.length)
  (hbody:∀ (A:Around) (outer:List Env) (s:Shared) (H:Hp) (vs:List V) (Q:VK) (E:XK),Room k (A.deeper (envOfC qual scope s.heap.objs.size f cdv))->sp vs H Q E->
   ∃ t,PSs (aK CX P w K mg base N qual scope f cdv A outer s H E) body t/\t { nx:=λ _ H'=>Q .non H',rt:=Q } (dY N vs) H) :
  FnOk P w K mg base CX (k+1) f (PySem.W.fnOf name qual params body scope dV kV doc pm an cdv ct) ps sp:=by
 refine ⟨len,λ A outer s H args us vs Q E hr e0 hb r hsp=>?_⟩
 have hl:=len _ _ _ _ hsp
 have KX:K.In s.heap:=e0.mod.kin.keeps λ b o e=>(e0.bs b o e).1
 have lim:s.heap.NoLimit:=e0.mod.nolimit.keeps λ b o e=>(e0.bs b o e).1
 have hkind:∀ y∈ps.zip us,scope.names.lookup y.1=some .local∨(scope.names.lookup y.1=some .cell/\((cellsFrom (s.heap.objs.size+1) scope.names []).lookup y.1).isSome=true):=λ⟨n,v⟩ hy=>by
  rcases S.par n (List.of_mem_zip hy).1 with q | q
  ·exact .inl q
  ·exact .inr ⟨q,PySem.W.cellsFrom_some _ _ _ (.inl q)⟩
 refine codeAny_call_function hr.depth (KX _ _ lk) rfl S.co S.gen rfl (PySem.W.codeRec_of KX hcd) (hb _ _ _ _ ?_)
 refine wpAny_newFunctionEnv_cells S.kind hkind λ env he s1 x=>?_
 subst he
 refine ⟨lim.keeps x.toInCall.keep,codeAny_func ?_⟩
 obtain ⟨t,ht,hq⟩:=hbody A outer s H vs Q E (hr.deeper _) hsp
 have I:Inv (aK CX P w K mg base N qual scope f cdv A outer s H E) [] (dY N vs) H s1:=inv_start S hr.hd e0 hl r x
 refine iX (ht [] s1 (dY N vs) H _ I hq) (λ fl s' hs=>?_) λ e s' hs=>hs
 have fin:∀ {σ':St} {H':Hp} {v:V} {u:Value},Inv (aK CX P w K mg base N qual scope f cdv A outer s H E) [] σ' H' s'->RelV v u->Q v H'->CE outer P w H s Q u s':=
  λ {σ' H' v u} J rv q=>⟨v,H',J.os,J.bare,J.base,J.hok,rv,q⟩
 cases fl with
 | ret u=>
  obtain ⟨v,σ',H',J,rv,q⟩:=hs
  exact fin J rv q
 | next=>
  obtain ⟨σ',H',J,q⟩:=hs
  exact fin (v:=V.non) (u:=Value.none) J rfl q
 | brk=>
  obtain ⟨_,_,_,q⟩:=hs
  exact False.elim q
 | cont=>
  obtain ⟨_,_,_,q⟩:=hs
  exact False.elim q
end L2
namespace L2
open PySem PySem.Spec PyProof.Rows
section
variable {X:Cx} {x:Str} {p pos:Pos} {e:Expr} {es:List Expr} {t:TA} {id T:String} {r:List V->Hp->VK->Prop}
noncomputable def tCB (r:List V->Hp->VK->Prop) (t:TA):TE:=λ σ H Q=>t σ H λ vs H1=>r vs H1 Q
theorem aH (hc:fF X (.builtin id) r) (hg:Gl X x) (hm:X.mg x=none) (hv:bootBuiltins x=some (.builtin id)) (ha:PA X (e::es) t) (hn:x≠"__name__":=by decide) (hdb:(x == ("__debug__":Str))=false:=by decide)
  (he:starEach (e::es) X.env=(false,eval e X.env)::starEach es X.env:=by rfl) (hpl:(backTo pos (starEach es X.env)).any (·.1)=false:=by rfl):PE X (.Call (.Name x p) (e::es) [] pos) (tCB r t):=by
 intro pins s σ H Q I h
 refine wpAny_Call_Name_kw (fe I hg hm hv ?_ hn hdb)
 exact PyProof.Rows.callWith_builtin1 (thn (ha pos pins s σ H _ I h) λ us s1 ⟨vs,H1,I1,r1,q1⟩=>hc pins s1 σ H1 vs us Q I1 r1 q1) he hpl
theorem bX (hc:fF X (.type T) r) (hg:Gl X x) (hm:X.mg x=none) (hv:bootBuiltins x=some (.type T)) (ha:PA X (e::es) t) (hn:x≠"__name__":=by decide) (hdb:(x == ("__debug__":Str))=false:=by decide)
  (he:starEach (e::es) X.env=(false,eval e X.env)::starEach es X.env:=by rfl) (hpl:(backTo pos (starEach es X.env)).any (·.1)=false:=by rfl):PE X (.Call (.Name x p) (e::es) [] pos) (tCB r t):=by
 intro pins s σ H Q I h
 refine wpAny_Call_Name_kw (fe I hg hm hv ?_ hn hdb)
 exact jh (thn (ha pos pins s σ H _ I h) λ us s1 ⟨vs,H1,I1,r1,q1⟩=>hc pins s1 σ H1 vs us Q I1 r1 q1) he hpl
end
end L2
namespace HT
open PySem PyProof.Rows
section
open PySem.SeqAt
open PySem.AutoSeq1 (wpAny_loadPart')
open PySem.MeetsSeq PySem.MeetsSeq2 PySem.MeetsSeq3
end
section
variable {prog:Program} {w:World} {A:Around} {E:Value->Shared->Prop} {s:Shared}
end
end HT
namespace L2
open PySem PySem.Spec PyProof.Rows
noncomputable abbrev TO:=St->Hp->(Option Int->Hp->Prop)->Prop
section
variable {X:Cx} {e:Expr} {te:TE} {lo hi:Option Expr} {tl th:TO} {pos p2:Pos}
end
end L2
namespace L2
open PySem PySem.Spec PyProof.Rows
noncomputable def ixN (n:Nat) (i:Int):Option Nat:=if 0<=i then (if i<n then some i.toNat else none) else if -(n:Int)<=i then some (i+n).toNat else none
noncomputable def atI {α:Type} (xs:List α) (i:Int):Option α:=(ixN xs.length i).bind λ j=>xs[j]?
theorem ixN_seq {n:Nat} {i:Int} {j:Nat} (h:ixN n i=some j):seqIndex? i n=some j/\j<n/\-(n:Int)<=i/\i<n:=by
 unfold ixN at h
 by_cases h0:0<=i
 ·rw [if_pos h0] at h
  by_cases h1:i<n
  ·rw [if_pos h1] at h
   have e:i.toNat=j:=iG h
   exact ⟨by rw [seqIndex_of h0 h1,e],by omega,by omega,h1⟩
  ·rw [if_neg h1] at h;cases h
 ·rw [if_neg h0] at h
  by_cases h1:-(n:Int)<=i
  ·rw [if_pos h1] at h
   have e:(i+n).toNat=j:=iG h
   exact ⟨by rw [seqIndex_neg (by omega) h1,e],by omega,h1,by omega⟩
  ·rw [if_neg h1] at h;cases h
theorem atI_get {α:Type} {xs:List α} {i:Int} {v:α} (h:atI xs i=some v):∃ j,seqIndex? i xs.length=some j/\xs[j]?=some v/\j<xs.length/\-(xs.length:Int)<=i/\i<xs.length:=by
 unfold atI at h
 cases e:ixN xs.length i with
 | none=>rw [e] at h;cases h
 | some j=>
  rw [e] at h
  obtain ⟨h1,h2,h3,h4⟩:=ixN_seq e
  exact ⟨j,h1,h,h2,h3,h4⟩
theorem atI_nat {α:Type} {xs:List α} {j:Nat} {v:α} (h:xs[j]?=some v):atI xs (j:Int)=some v:=by
 have hj:j<xs.length:=(hV.mp h).1
 have e:ixN xs.length (j:Int)=some j:=by
  unfold ixN
  rw [if_pos (by omega),if_pos (by omega)];simp
 unfold atI;rw [e];exact h
noncomputable def PlainIx (b:Expr):Prop:=∀ o i,subscripted b false o i=operate [o,i] (getItem o i)
noncomputable def IxR (X:Cx) (r:R2):Prop:=
 ∀ (value slice:Expr) (pins:List (Addr × Obj)) (s:Shared) (σ:St) (H:Hp) (x y:V) (v u:Value) (Q:VK),Inv X pins σ H s->RelV x v->RelV y u->r x y H Q->
  subscripted slice false v u=operate [v,u] (getItem v u)->wpAny (model X.prog X.w) X.A (subscriptTail value slice v u) (EP X pins σ Q) X.xe s
noncomputable def MtR (X:Cx) (id:String) (r:V->List V->Hp->VK->Prop):Prop:=
 ∀ (pins:List (Addr × Obj)) (s:Shared) (σ:St) (H:Hp) (x:V) (xs:List V) (v:Value) (us:List Value) (Q:VK),Inv X pins σ H s->RelV x v->Vals xs us->r x xs H Q->
  wpAny (model X.prog X.w) X.A (call (.builtin id) (v::us)) (EP X pins σ Q) X.xe s
section
variable {X:Cx} {a b:Expr} {ta tb:TE} {pos:Pos}
theorem aD {r:R2} (hr:IxR X r) (ha:PE X a ta) (hb:PE X b tb) (hs:PlainIx b):PE X (.Subscript a b pos) (tOp r ta tb):=by
 intro pins s σ H Q I h
 exact Subscript_ (binT ha hb I h λ v u s2 x y H2 I2 rx ry q=>hr a b pins s2 σ H2 x y v u Q I2 rx ry q (hs _ _))
noncomputable def rIxL (K:W.Frag):R2:=λ x y H Q=>∃ p xs i v,x=.ref p/\y=.int i/\SqL K H p xs/\atI xs i=some v/\Q v H
noncomputable def rIxT (K:W.Frag):R2:=λ x y H Q=>∃ p xs i v,x=.ref p/\y=.int i/\SqT K H p xs/\atI xs i=some v/\Q v H
noncomputable def rIxS:R2:=λ x y H Q=>∃ z i c,x=.str z/\y=.int i/\z.length<=sizeLine/\atI z.cps.toList i=some c/\Q (.str ⟨#[c]⟩) H
theorem fL:IxR X (rIxL X.K):=by
 intro value slice pins s σ H x y v u Q I rx ry h hs
 obtain ⟨p,xs,i,z,rfl,rfl,hq,he,q⟩:=h
 cases rx
 obtain ⟨t,rfl⟩:=ry
 obtain ⟨its,r,pl,hz⟩:=I.list hq
 obtain ⟨j,h1,h2,h3,h4,h5⟩:=atI_get he
 obtain ⟨w,ew,rw'⟩:=r.get h2
 have hl:=r.length
 have hn:=line63
 have fin:EP X pins σ Q w s:=⟨z,H,I,rw',q⟩
 by_cases h0:0<=i
 ·have hj:i.toNat=j:=by
   rw [seqIndex_of h0 h5] at h1
   exact iG h1
  exact item_listR pl.isList h0 (by omega) (by rw [hj];simpa using ew) fin hs
 ·have hj:(i+(its.toArray.size:Int)).toNat=j:=by
   rw [seqIndex_neg (by omega) h4] at h1
   rw [iW,<- hl]
   exact iG h1
  exact subscriptTail_builtinR (x:=w) pl.isList.typeIs slot_list_getitem.lookup
   (wpAny_getItem_list_neg (Q:=λ r s'=>r=w/\EP X pins σ Q r s') pl.isList (by omega) (by rw [iW] <;> omega) (by omega) (by rw [hj];simpa using ew) ⟨rfl,fin⟩) hs
theorem az:IxR X (rIxT X.K):=by
 intro value slice pins s σ H x y v u Q I rx ry h hs
 obtain ⟨p,xs,i,z,rfl,rfl,hq,he,q⟩:=h
 cases rx
 obtain ⟨t,rfl⟩:=ry
 obtain ⟨its,r,pl,hz⟩:=I.tuple hq
 obtain ⟨j,h1,h2,h3,h4,h5⟩:=atI_get he
 obtain ⟨w,ew,rw'⟩:=r.get h2
 have hl:=r.length
 have hn:=line63
 have fin:EP X pins σ Q w s:=⟨z,H,I,rw',q⟩
 exact subscriptTail_builtinR (x:=w) pl.typeIs slot_tuple_getitem.lookup
  (getItem_tuple (j:=j) (Q:=λ r s'=>r=w/\EP X pins σ Q r s') pl (by omega) (by omega) (by rw [iW,<- hl];exact h1) (by simpa using ew) ⟨rfl,fin⟩) hs
theorem ix_str:IxR X rIxS:=by
 intro value slice pins s σ H x y v u Q I rx ry h hs
 obtain ⟨z,i,c,rfl,rfl,hz,he,q⟩:=h
 obtain ⟨t,rfl⟩:=rx
 obtain ⟨t',rfl⟩:=ry
 obtain ⟨j,h1,h2,h3,h4,h5⟩:=atI_get he
 have hl:z.cps.toList.length=z.length:=by simp [Str.length]
 rw [hl] at h1 h4 h5
 have hn:=line63
 exact tail_any (typeIs_str s z t) slot_str_getitem.lookup (getItem_str (c:=c) (by
  have e1:decide (i < -(2 ^ 63:Int))=false:=iF (by omega)
  have e2:decide (i ≥ 2 ^ 63)=false:=iF (by omega)
  rw [e1,e2,Bool.or_false]) (by rw [h1];simpa using h2) ⟨.str ⟨#[c]⟩,H,I.tok _,⟨_,rfl⟩,q⟩) hs
noncomputable def gk:V->Bool
 | .non=>true
 | .bl _=>true
 | .int _=>true
 | .str _=>true
 | _=>false
noncomputable def eqV:V->V->Bool
 | .non,.non=>true
 | .bl a,.bl b=>a == b
 | .bl a,.int b=>(if a then 1 else 0) == b
 | .int a,.bl b=>a == (if b then 1 else 0)
 | .int a,.int b=>a == b
 | .str a,.str b=>a == b
 | _,_=>false
theorem eqAt_V {A:Around} {s:Shared} {y x:V} {u v:Value} (ry:RelV y u) (rx:RelV x v) (fy:gk y=true) (fx:gk x=true):SeqAt.EqAt A s u v (eqV y x):=by
 cases y with
 | non=>
  cases ry
  cases x with
  | non=>cases rx;exact SeqAt.EqAt.same _
  | bl b=>cases rx;exact SeqAt.EqAt.none_bool b
  | int b=>obtain ⟨t,rfl⟩:=rx;exact SeqAt.EqAt.none_int b t
  | str b=>obtain ⟨t,rfl⟩:=rx;exact SeqAt.EqAt.none_str b t
  | _=>exact absurd (show false=true from fx) iC
 | bl a=>
  cases ry
  cases x with
  | non=>cases rx;exact SeqAt.EqAt.bool_none a
  | bl b=>cases rx;exact SeqAt.EqAt.bool_bool a b
  | int b=>obtain ⟨t,rfl⟩:=rx;exact SeqAt.EqAt.bool_int a b t
  | str b=>obtain ⟨t,rfl⟩:=rx;exact SeqAt.EqAt.bool_str a b t
  | _=>exact absurd (show false=true from fx) iC
 | int a=>
  obtain ⟨t',rfl⟩:=ry
  cases x with
  | non=>cases rx;exact SeqAt.EqAt.int_none a t'
  | bl b=>cases rx;exact SeqAt.EqAt.int_bool a t' b
  | int b=>obtain ⟨t,rfl⟩:=rx;exact SeqAt.EqAt.int_int a t' b t
  | str b=>obtain ⟨t,rfl⟩:=rx;exact SeqAt.EqAt.int_str a t' b t
  | _=>exact absurd (show false=true from fx) iC
 | str a=>
  obtain ⟨t',rfl⟩:=ry
  cases x with
  | non=>cases rx;exact SeqAt.EqAt.str_none a t'
  | bl b=>cases rx;exact SeqAt.EqAt.str_bool a t' b
  | int b=>obtain ⟨t,rfl⟩:=rx;exact SeqAt.EqAt.str_int a t' b t
  | str b=>obtain ⟨t,rfl⟩:=rx;exact SeqAt.EqAt.str_str a t' b t
  | _=>exact absurd (show false=true from fx) iC
 | _=>exact absurd (show false=true from fy) iC
noncomputable def eqU (x:V) (u:Value):Bool:=match u with
 | .none=>eqV .non x
 | .bool b=>eqV (.bl b) x
 | .int i _=>eqV (.int i) x
 | .str z _=>eqV (.str z) x
 | _=>false
theorem eqU_of {x y:V} {u:Value} (r:RelV y u) (f:gk y=true):eqU x u=eqV y x:=by
 cases y with
 | non=>cases r;rfl
 | bl b=>cases r;rfl
 | int i=>obtain ⟨t,rfl⟩:=r;rfl
 | str z=>obtain ⟨t,rfl⟩:=r;rfl
 | _=>exact absurd (show false=true from f) iC
theorem any_eqU {x:V}:∀ {xs:List V} {us:List Value},Vals xs us->xs.all gk=true->us.any (eqU x)=xs.any λ y=>eqV y x
 | _,_,.nil,_=>rfl
 | y::xs,u::us,.cons r t,f=>by
  rw [List.all_cons,Bool.and_eq_true] at f
  rw [List.any_cons,List.any_cons,eqU_of r f.1,any_eqU t f.2]
theorem mem_eqAt {A:Around} {s:Shared} {x:V} {v:Value} (rx:RelV x v) (fx:gk x=true):∀ {xs:List V} {us:List Value},Vals xs us->xs.all gk=true->∀ u∈us,SeqAt.EqAt A s u v (eqU x u)
 | _,_,.nil,_=>λ u hu=>by cases hu
 | y::xs,u::us,.cons r t,f=>λ u' hu=>by
  rw [List.all_cons,Bool.and_eq_true] at f
  rcases iw.mp hu with rfl | hu
  ·rw [eqU_of r f.1];exact eqAt_V r rx f.1 fx
  ·exact mem_eqAt rx fx t f.2 u' hu
noncomputable def inV (x:V) (xs:List V):Bool:=xs.any λ y=>eqV y x
noncomputable def rIn (K:W.Frag) (neg:Bool):R2:=λ x y H Q=>∃ p xs,y=.ref p/\(SqL K H p xs∨SqT K H p xs)/\gk x=true/\xs.all gk=true/\Q (.bl (if neg then !inV x xs else inV x xs)) H
theorem op_notIn_seq:OpR X (compareOp .NotIn) (rIn X.K true):=by
 intro pins s σ H x y v u Q I rx ry h
 obtain ⟨p,xs,rfl,hq,fx,fs,q⟩:=h
 cases ry
 rcases hq with hq | hq
 ·obtain ⟨its,r,pl,hz⟩:=I.list hq
  refine SeqAt.notIn_listAt (eqU x) pl.isList (λ w hw=>mem_eqAt rx fx r fs w (by simpa using hw)) ⟨.bl _,H,I,rfl,?_⟩
  rw [show its.toArray.any (eqU x)=its.any (eqU x) by simp,any_eqU r fs]
  exact q
 ·obtain ⟨its,r,pl,hz⟩:=I.tuple hq
  refine SeqAt.notIn_tupleAt (eqU x) pl (λ w hw=>mem_eqAt rx fx r fs w (by simpa using hw)) ⟨.bl _,H,I,rfl,?_⟩
  rw [show its.toArray.any (eqU x)=its.any (eqU x) by simp,any_eqU r fs]
  exact q
theorem call_len_seq:fF X (.builtin "len") (λ xs H Q=>∃ p ys,xs=[.ref p]/\(SqL X.K H p ys∨SqT X.K H p ys)/\Q (.int ys.length) H):=by
 intro pins s σ H xs us Q I r h
 obtain ⟨p,ys,rfl,hq,q⟩:=h
 obtain ⟨u,rfl,rx⟩:=vals1 r
 cases rx
 have hn:=line63
 rcases hq with hq | hq
 ·obtain ⟨its,r',pl,hz⟩:=I.list hq
  have hlen:=r'.length
  exact Calls.call_len_list pl.isList (by simp only [iW] <;> omega) ⟨.int ys.length,H,I.tok _,⟨s.toks+1,by rw [iW,hlen]⟩,q⟩
 ·obtain ⟨its,r',pl,hz⟩:=I.tuple hq
  have hlen:=r'.length
  exact len_tuple pl (by simp only [iW] <;> omega) ⟨.int ys.length,H,I.tok _,⟨s.toks+1,by rw [iW,hlen]⟩,q⟩
noncomputable def tyV (K:W.Frag) (T:String) (x:V) (H:Hp):Prop:=match x with
 | .str _=>T = "str"
 | .int _=>T = "int"
 | .ref p=>(T = "list"/\∃ xs,SqL K H p xs)∨(T = "tuple"/\∃ o,K.lookup p=some o/\o.cls=.type "tuple"/\o.dict=none)∨
   (T = "dict"/\((∃ kvs,H p=some (.dK kvs))∨∃ kvs,H p=some (.dT kvs)))∨(T = "set"/\∃ S n,H p=some (.set S n))
 | _=>False
theorem tyV_is {pins:List (Addr × Obj)} {σ:St} {H:Hp} {s:Shared} {T:String} {x:V} {v:Value} (I:Inv X pins σ H s) (r:RelV x v) (ty:tyV X.K T x H) :
  s.TypeIs v T/\∀ a,v=.ref a->∃ ob,s.heap.get? a=some ob/\ob.dict=none:=by
 cases x with
 | str z=>
  obtain ⟨t,rfl⟩:=r
  cases (show T = "str" from ty)
  exact ⟨typeIs_str s z t,λ _ e=>nomatch e⟩
 | int i=>
  obtain ⟨t,rfl⟩:=r
  cases (show T = "int" from ty)
  exact ⟨typeIs_int s i t,λ _ e=>nomatch e⟩
 | ref p=>
  cases r
  rcases ty with ⟨rfl,xs,hq⟩ | ⟨rfl,o,hk,hc,hd⟩ | ⟨rfl,hk⟩ | ⟨rfl,S,n,hk⟩
  ·obtain ⟨its,_,pl,_⟩:=I.list hq
   refine ⟨pl.isList.typeIs,λ a e=>?_⟩
   cases e
   obtain ⟨o,n,e,c,hd,_⟩:=pl
   exact ⟨o,e,hd⟩
  ·refine ⟨⟨o,I.kIn p o hk,hc⟩,λ a e=>?_⟩
   cases e
   exact ⟨o,I.kIn _ o hk,hd⟩
  ·have z:∃ o,s.heap.get? p=some o/\o.ExactDict:=by
    rcases hk with ⟨kvs,hk⟩ | ⟨kvs,hk⟩
    ·obtain ⟨_,_,_,_,o,_,_,e,ex,_⟩:=I.hok p _ hk
     exact ⟨o,e,ex⟩
    ·obtain ⟨_,_,_,_,o,_,_,e,ex,_⟩:=I.hok p _ hk
     exact ⟨o,e,ex⟩
   obtain ⟨o,e,ex⟩:=z
   refine ⟨⟨o,e,ex.1⟩,λ a e2=>?_⟩
   cases e2
   exact ⟨o,e,ex.2.1⟩
  ·obtain ⟨o,_,_,_,e,ex,_⟩:=I.hok p _ hk
   refine ⟨⟨o,e,ex.1⟩,λ a e2=>?_⟩
   cases e2
   exact ⟨o,e,ex.2.1⟩
 | _=>exact False.elim ty
noncomputable def tBM0 (K:W.Frag) (T:String) (r:V->List V->Hp->VK->Prop) (to:TE):TE:=λ σ H Q=>to σ H λ x H1=>tyV K T x H1/\r x [] H1 Q
noncomputable def tBM (K:W.Frag) (T:String) (r:V->List V->Hp->VK->Prop) (to:TE) (t:TA):TE:=λ σ H Q=>to σ H λ x H1=>tyV K T x H1/\t σ H1 λ xs H2=>r x xs H2 Q
variable {o e:Expr} {es:List Expr} {to:TE} {t:TA} {name:Str} {apos cpos:Pos} {T id:String} {r:V->List V->Hp->VK->Prop}
theorem pe_bm0 (pa:PlainAttrs T) (slot:Slot T name id) (hty:typeOf (.builtin id)=pure (.type "method_descriptor")) (hm:MtR X id r) (ho:PE X o to)
  (hbase:attributeBase o name X.env (eval o X.env)=eval o X.env:=by rfl) (hline:(apos.endLine == cpos.line)=true:=by rfl):PE X (.Call (.Attribute o name apos) [] [] cpos) (tBM0 X.K T r to):=by
 intro pins s σ H Q I h
 refine wpAny_Call_method0_late hbase hline (thn (ho pins s σ H _ I h) λ v s1 ⟨x,H1,I1,r1,ty,q1⟩=>?_)
 obtain ⟨h1,h2⟩:=tyV_is I1 r1 ty
 exact ⟨T,id,pa,slot,hty,h1,h2,Calls.callWith_builtin rfl (PySem.evalArgs_none (hm pins s1 σ H1 x [] v [] Q I1 r1 .nil q1))⟩
theorem eV (pa:PlainAttrs T) (slot:Slot T name id) (hty:typeOf (.builtin id)=pure (.type "method_descriptor")) (hm:MtR X id r) (ho:PE X o to) (ha:PA X (e::es) t)
  (hbase:attributeBase o name X.env (eval o X.env)=eval o X.env:=by rfl)
  (hfew:((backTo cpos (starEach (e::es) X.env)).all (λ x=>!x.1) && (backToKw cpos (keywordEach [] X.env)).all (λ x=>x.1.isSome)
   && decide ((e::es).length+([]:List Keyword).length+(if ([]:List Keyword).isEmpty then 0 else 1)<30))=true:=by rfl)
  (hline:(apos.endLine == cpos.line)=true:=by rfl) (hs:starEach (e::es) X.env=(false,eval e X.env)::starEach es X.env:=by rfl) (hplain:(backTo cpos (starEach es X.env)).any (·.1)=false:=by rfl) :
  PE X (.Call (.Attribute o name apos) (e::es) [] cpos) (tBM X.K T r to t):=by
 intro pins s σ H Q I h
 refine wpAny_Call_method_late hbase hfew hline rfl (thn (ho pins s σ H _ I h) λ v s1 ⟨x,H1,I1,r1,ty,q1⟩=>?_)
 obtain ⟨h1,h2⟩:=tyV_is I1 r1 ty
 refine ⟨T,id,pa,slot,hty,h1,h2,?_⟩
 have hA:=ha cpos pins s1 σ H1 _ I1 q1
 rw [hs] at hA ⊢
 refine Calls.callWith_builtin (by show (false || (backTo cpos (starEach es X.env)).any (·.1))=false;rw [hplain] <;> rfl) (Calls.evalArgs_plain ?_)
 exact thn hA λ us s2 ⟨vs,H2,I2,r2,q2⟩=>hm pins s2 σ H2 x vs v us Q I2 r1 r2 q2
end
end L2
namespace L2
open PySem PySem.Spec PyProof.Rows
noncomputable def MtM (X:Cx) (id:String) (r:V->List V->Hp->VK->Prop):Prop:=
 ∀ (pins:List (Addr × Obj)) (s:Shared) (σ:St) (H:Hp) (x:V) (xs:List V) (v:Value) (us:List Value) (Q:VK),Inv X pins σ H s->RelV x v->Vals xs us->r x xs H Q->
  wpAny (model X.prog X.w) X.A (call (.builtin id) (v::us)) (EP X pins σ Q) X.xe s
theorem Vals.one:∀ {x:V} {us:List Value},Vals [x] us->∃ u,us=[u]/\RelV x u
 | _,_,.cons r .nil=>⟨_,rfl,r⟩
section
variable {X:Cx} {pins:List (Addr × Obj)} {σ:St} {H:Hp} {s:Shared} {l b:Addr} {xs ys zs:List V}
theorem Inv.lset {its its':List Value} {n:Nat} {f:Array Value->Array Value} {t':Nat} (I:Inv X pins σ H s) (hH:H l=some (.lst xs))
  (e:s.heap.get? l=some { cls:=.type "list",data:=.seq its.toArray n }) (hf:f its.toArray=its'.toArray) (hv:Vals ys its') (hz:ys.length<=sizeLine) :
  Inv X pins σ (upd H l (.lst ys)) { s with heap:=s.heap.update l (Obj.mapSeq f),toks:=t' }:=by
 have q:=PySem.IsL.update e f
 rw [hf] at q
 refine I.write (x:=l) (e:=l) (by rw [hH];exact trivial) (.inl rfl) (λ b' u hb hu=>(jD s.heap (Obj.mapSeq f) (Ne.symm hb)).trans hu) ⟨_,q⟩ ?_
 exact ⟨hz,its',_,hv,q⟩
theorem Inv.lstM (I:Inv X pins σ H s) (hH:H l=some (.lst xs)):xs.length<=sizeLine/\∃ (its:List Value) (n:Nat),Vals xs its/\xs.length=its.length/\s.heap.get? l=some { cls:=.type "list",data:=.seq its.toArray n }:=by
 obtain ⟨z,its,n,r,e⟩:=I.hok l _ hH
 exact ⟨z,its,n,r,r.length,e⟩
theorem notLongL {n:Nat} (h:n<=sizeLine):Builtin.List.listTooLong n=false:=by
 unfold Builtin.List.listTooLong
 exact iF (by omega)
end
section
variable {X:Cx}
noncomputable def rAppend:V->List V->Hp->VK->Prop:=λ x vs H Q=>∃ l xs y,x=.ref l/\vs=[y]/\H l=some (.lst xs)/\xs.length<sizeLine/\Q .non (upd H l (.lst (xs++[y])))
theorem cD:MtM X "list.append" rAppend:=by
 intro pins s σ H x vs v us Q I rx rv h
 obtain ⟨l,xs,y,rfl,rfl,hH,hz,q⟩:=h
 cases rx
 obtain ⟨u,rfl,ru⟩:=rv.one
 obtain ⟨z,its,n,r,hl,e⟩:=I.lstM hH
 refine call_meets F.slot_list_append ⟨_,e,rfl⟩ F.entry_list_append (F.args_list_append_2 _ _) (PySem.list_append l its.toArray n u (by rw [iW];omega)) ⟨e,?_⟩
 refine ⟨.non,_,I.lset (its':=its++[u]) hH e (by simp) (r.append (.cons ru .nil)) ?_,rfl,q⟩
 rw [ir,List.length_singleton]
 omega
noncomputable def rExtend:V->List V->Hp->VK->Prop:=λ x vs H Q=>∃ l b xs zs,x=.ref l/\vs=[.ref b]/\H l=some (.lst xs)/\H b=some (.lst zs)/\xs.length+zs.length<=sizeLine/\Q .non (upd H l (.lst (xs++zs)))
theorem fz:MtM X "list.extend" rExtend:=by
 intro pins s σ H x vs v us Q I rx rv h
 obtain ⟨l,b,xs,zs,rfl,rfl,hH,hB,hz,q⟩:=h
 cases rx
 obtain ⟨u,rfl,ru⟩:=rv.one
 cases ru
 obtain ⟨z,its,n,r,hl,e⟩:=I.lstM hH
 obtain ⟨z2,its2,n2,r2,hl2,e2⟩:=I.lstM hB
 have hsz:its.toArray.size+its2.toArray.size<=sizeLine:=by rw [iW,iW];omega
 have hlong:¬ (!its.toArray.isEmpty && Builtin.List.listTooLong (its.toArray.size+its2.toArray.size))=true:=by
  rw [notLongL hsz,Bool.and_false]
  exact iC
 refine call_meets F.slot_list_extend ⟨_,e,rfl⟩ F.entry_list_extend (F.args_list_extend_2 _ _)
  (AutoSeq1.list_extend_list_list_0 l its.toArray n b its2.toArray n2 hlong (by rw [iW];omega) (by omega)) ⟨e,e2,?_⟩
 refine ⟨.non,_,I.lset (its':=its++its2) hH e (by simp) (r.append r2) ?_,rfl,q⟩
 rw [ir]
 omega
end
section
variable {prog:Program} {w:World} {A:Around} {E:Value->Shared->Prop} {s:Shared}
end
section
variable {X:Cx}
end
end L2
namespace Att
open PySem PySem.W PySem.Calls PyProof.Rows
theorem ints_of_wellAll {P:Params} {h:Heap}:∀ (ns:List Int) (vs:List Value),WellAll P h vs (ns.map WData.int)->IntsAre vs ns:=by
 intro ns
 induction ns with
 | nil=>
  intro vs w
  rw [List.map_nil] at w
  cases w
  exact .nil
 | cons n ns ih=>
  intro vs w
  rw [jp] at w
  cases w with
  | cons a b=>
   cases a
   exact .cons _ _ (ih _ b)
theorem script_of {l:OpenLaw} {n:Nat} (hn:l.most=some n) {P:Params} {h:Heap} {args:List WData} {vals:List Value}
  (hpre:l.row.toRowW.claim.pre args=true) (hwl:WellAll P h vals args) :
  ∃ a vs ns,vals=[Value.ref a]/\args=[WData.list (ns.map WData.int)]/\h.get? a=some { cls:=.type "list",data:=.seq vs.toArray }/\IntsAre vs ns/\ns.length<=n:=by
 have hsh:WShape.hasAll [] args [.list .int]=true:=(pre_splitW hpre).1
 have hc:l.pre.holds [] { args:=args }=true:=(pre_splitW hpre).2
 obtain ⟨d,r,rfl,h1,h2⟩:=hasAllW_cons hsh
 obtain rfl:=hasAllW_nil h2
 obtain ⟨xs,rfl,h3⟩:=hasW_list h1
 obtain ⟨ns,rfl⟩:=items_int h3
 have hlen:ns.length<=n:=by
  unfold OpenLaw.pre at hc
  have h4:(WTm.not (.lt (.lit (.int (n:Int))) (.len (.arg 0)))).holds [] { args:=[.list (ns.map .int)] }=true:=by
   have h4:=(holds_andW hc).1
   rw [hn] at h4
   exact h4
  have h5:=condW_of h4 (w_not (w_lt w_lit (w_len_list (w_arg rfl))))
  rw [hZ] at h5
  refine Nat.le_of_not_lt λ q=>?_
  have q':(n:Int)<((ns.length:Nat):Int):=by omega
  first
   | (rw [iM q'] at h5;exact absurd h5 (by decide))
   | (simp at h5;omega)
 cases hwl with
 | cons w1 w2=>
  cases w2
  cases w1 with
  | list ho hall=>exact ⟨_,_,ns,rfl,rfl,ho,ints_of_wellAll ns _ hall,hlen⟩
theorem post_true (l:OpenLaw) (args:List WData):l.row.toRowW.claim.post args (.bool true) args=true:=
 postW_of (r:=l.row.toRowW) (X:=(true == true))
  (show WShape.has [] (.bool true) .bool=true by first | rfl | decide | simp [WShape.has,WShape.arms,WShape.armsAll])
  (show (WTm.eq .res (.lit (.bool true))).value [] { args:=args,res:=some (.bool true),after:=args }=some (.bool (true == true)) from w_eq_bool (w_res rfl) w_lit) rfl
section
variable {prog:Program} {w:World} {A:Around} {E:Value->Shared->Prop} {s:Shared} {K:Frag}
end
end Att
namespace L2
open PySem PySem.Spec PyProof.Rows
theorem vals_ints:∀ {vs:List Value} {ns:List Int},IntsAre vs ns->Vals (ns.map V.int) vs
 | _,_,.nil=>.nil
 | _,_,.cons n t h=>.cons ⟨t,rfl⟩ (vals_ints h)
noncomputable def Only (H:Hp):Prop:=∀ b,H b=none∨∃ o xs,H b=some (.frz o (.lst xs))
theorem law_call {P:Program} {w:World} {K:W.Frag} {mg mb:Str->Option Value} {CX:CXT} {k:Nat} {fa a:Addr} {fd:FuncData} {x:Str} {sp:Sp} {s₁:Shared} {vs:List Value} {ns:List Int}
  (KX:K.In s₁.heap) (hns:s₁.heap.Ns mainGlobals mg) (hb:s₁.heap.Ns builtinsNs mb) (hbb:∀ x:Str,x≠"__name__"->mb x=bootBuiltins x) (hlim:s₁.heap.NoLimit) (hg:s₁.gens = #[])
  (ha:s₁.heap.get? a=some { cls:=.type "list",data:=.seq vs.toArray }) (hi:IntsAre vs ns) (hl:ns.length<=sizeLine) (hr:Room k callerA)
  (F:∀ base:Heap,K.In base->base.Ns mainGlobals mg->FnOk P w K mg base CX k fa fd [x] sp) (hbind:∀ (s:Shared) (u:Value),BindsTo s fd ⟨[u],[]⟩ [(x,u)])
  (hsp:∀ H:Hp,Only H->SqL K H a (ns.map V.int)->sp [.ref a] H (λ v _=>v=.bl true) λ _ _ _=>False)
  (hCX:∀ H e s',CX [] H s₁ (λ _ _ _=>False) e s'->False) :
  codeAny (model P w) callerA (.call (.ref fa) ⟨[.ref a],[]⟩) (λ r s'=>r=.ok (.ret (.bool true))/\OldK s₁.heap s'.heap/\s'.os=s₁.os/\AllBare s'.gens) s₁:=by
 have rv:=vals_ints hi
 have lenV:=hi.length
 have core:∀ H:Hp,Only H->SqL K H a (ns.map V.int)->HOk P w H s₁.heap->(∀ b,H b≠none->b=a)->(H a≠none->K.lookup a=none)->
   codeAny (model P w) callerA (.call (.ref fa) ⟨[.ref a],[]⟩) (λ r s'=>r=.ok (.ret (.bool true))/\OldK s₁.heap s'.heap/\s'.os=s₁.os/\AllBare s'.gens) s₁:=by
  intro H hO hS hok hA hK
  have base_of:∀ {b:Addr} {o:Obj},s₁.heap.get? b=some o->H b=none->(hidT s₁.heap H).get? b=some o:=λ e n=>hidT_get e n
  have noA:∀ {b:Addr} {o:Obj} {es:Array DictEntry} {ep:Nat},s₁.heap.get? b=some o->o.data=.dict es ep->H b=none:=λ {b o es ep} e d=>by
   cases q:H b with
   | none=>rfl
   | some u=>
    have e':b=a:=hA b (by rw [q];simp)
    subst e'
    rw [ha] at e;cases e
    have d':Data.seq vs.toArray _=Data.dict es ep:=d
    cases d'
  have nsK:∀ {b:Addr} {m:Str->Option Value},s₁.heap.Ns b m->(hidT s₁.heap H).Ns b m:=λ {b m} ⟨o,es,ep,e,d,r⟩=>⟨o,es,ep,base_of e (noA e d),d,r⟩
  have hKb:K.In (hidT s₁.heap H):=λ b o e=>base_of (KX b o e) (by
   cases q:H b with
   | none=>rfl
   | some u=>
    have e':b=a:=hA b (by rw [q];simp)
    subst e'
    rw [hK (by rw [q];simp)] at e;cases e)
  have hM:Mod K mg (hidT s₁.heap H):=⟨hKb,nsK hns,⟨mb,nsK hb,hbb⟩,let ⟨mc,h1,h2⟩:=hlim;⟨mc,nsK h1,h2⟩⟩
  have e0:Env0 P w K mg (hidT s₁.heap H) callerA [] s₁ H:=⟨rfl,hM,λ b o e=>of_hidT e,Nat.le_of_eq (hidT_size _ _),trivial,λ b hb=>absurd (show b∈([]:List Addr) from hb) (by simp),hok,.of_eq hg⟩
  refine codeAny_mono ((F _ hKb (nsK hns)).run callerA [] s₁ H ⟨[.ref a],[]⟩ [.ref a] [.ref a] _ _ hr e0 (hbind s₁ (.ref a)) (.cons rfl .nil) (hsp H hO hS)) λ r s' h=>?_
  cases r with
  | error e=>exact (hCX H e s' h).elim
  | ok fl=>
   cases fl with
   | next=>exact False.elim h
   | brk=>exact False.elim h
   | cont=>exact False.elim h
   | ret u=>
    obtain ⟨v,H',os,bare,un,hok',r',q⟩:=h
    have q':v=.bl true:=q
    subst q'
    obtain rfl:u=Value.bool true:=r'
    refine ⟨rfl,OldK.of_keep λ b o e=>?_,os,bare⟩
    cases q:H b with
    | none=>exact un.keep b o e q (by intro z;exact absurd (show b∈([]:List Addr) from z) (by simp)) (by simp)
    | some u=>
     rcases hO b with z | ⟨ob,xs,z⟩
     ·rw [q] at z;cases z
     ·have z2:=un.frzs b ob _ z
      obtain ⟨e1,_⟩:=hok b _ z
      obtain ⟨e2,_⟩:=hok' b _ z2
      rw [e] at e1;cases e1
      exact e2
 cases hk:K.lookup a with
 | some o=>
  have e:=KX a o hk
  rw [ha] at e
  cases e
  refine core (λ _=>none) (λ _=>.inl rfl) (.inr ⟨_,vs.toArray,_,hk,rfl,rfl,rfl,by rw [iW,lenV];exact hl,by simpa using rv⟩) (λ b u z=>by have z':(none:Option HO)=some u:=z;cases z') (λ b z=>absurd rfl z) λ z=>absurd rfl z
 | none=>
  refine core (λ b=>if b=a then some (.frz { cls:=.type "list",data:=.seq vs.toArray } (.lst (ns.map V.int))) else none) (λ b=>?_) (.inl (.inr ⟨{ cls:=.type "list",data:=.seq vs.toArray },if_pos rfl⟩)) (λ b u z=>?_) (λ b z=>?_) λ _=>hk
  ·by_cases hb:b=a
   ·exact .inr ⟨_,_,if_pos hb⟩
   ·exact .inl (if_neg hb)
  ·by_cases hb:b=a
   ·have z':=(if_pos hb).symm.trans z
    cases z'
    subst hb
    exact ⟨ha,by rw [hZ];exact hl,vs,_,rv,ha⟩
   ·have z':=(if_neg hb).symm.trans z
    cases z'
  ·by_cases hb:b=a
   ·exact hb
   ·exact absurd (if_neg hb) z
end L2
namespace L2
open PySem PySem.Spec PyProof.Rows
end L2
namespace L2
open PySem PySem.Spec PyProof.Rows
noncomputable def bc (s:Stmt) (j:Nat):Stmt:=match s with
 | .ClassDef _ _ _ body _ _ _ _ _ _ _=>body.getD j (.Pass ⟨0,0,0,0⟩)
 | _=>.Pass ⟨0,0,0,0⟩
noncomputable def ar (s:Stmt):Arguments:=match s with
 | .FunctionDef _ a _ _ _ _ _ _ _ _=>a
 | _=>{ posonlyargs:=[],args:=[],vararg:=none,kwonlyargs:=[],kw_defaults:=[],kwarg:=none,defaults:=[] }
noncomputable def ao (s:Stmt):List Stmt:=match s with
 | .FunctionDef _ _ b _ _ _ _ _ _ _=>b
 | _=>[]
noncomputable def af (s:Stmt):Scope:=match s with
 | .FunctionDef _ _ _ _ _ _ sc _ _ _=>sc
 | _=>{ kind:=.function,names:=[],isGenerator:=false,isCoroutine:=false }
noncomputable abbrev CX0:CXT:=λ _ _ _ _ _ _=>False
noncomputable abbrev E0:XK:=λ _ _ _=>False
theorem am {X:Cx}:cX CX0 X E0:=λ _ _ _ _ _ _ _ h=>h.elim
structure Fun (K:W.Frag) (x qual:Str) (st:Stmt) (f:Addr) (fd:FuncData):Prop where
 ex:∃ (oc:Value) (od:Option Addr) (kV doc pm:Value) (an:Option Addr) (cdv ct:Value) (osl:Array (Option Value)),
  fd=PySem.W.fnOf x qual (ar st) (ao st) (af st) .none kV doc pm an cdv ct/\K.lookup f=some ⟨oc,od,.func fd,osl⟩/\PySem.W.codeIn K cdv qual=true
 kp:PySem.W.keepIn K (.ref f)=true
section
variable {P:Program} {w:World} {K:W.Frag} {mg:Str->Option Value} {base:Heap}
theorem Fun.ok {x qual:Str} {st:Stmt} {f:Addr} {fd:FuncData} {N ps:List Str} {k:Nat} {sp:Sp} (F:Fun K x qual st f fd) (S:FnScope N ps (af st)) (len:∀ vs H Q E,sp vs H Q E->vs.length=ps.length)
  (hbody:∀ (cdv:Value) (A:Around) (outer:List Env) (s:Shared) (H:Hp) (vs:List V) (Q:VK) (E:XK),Room k (A.deeper (envOfC qual (af st) s.heap.objs.size f cdv))->sp vs H Q E->
   ∃ t,PSs (aK CX0 P w K mg base N qual (af st) f cdv A outer s H E).nox (ao st) t/\t { nx:=λ _ H'=>Q .non H',rt:=Q } (dY N vs) H):FnOk P w K mg base CX0 (k+1) f fd ps sp:=by
 obtain ⟨oc,od,kV,doc,pm,an,cdv,ct,osl,rfl,lk,hcd⟩:=F.ex
 refine fn_of lk hcd S len λ A outer s H vs Q E hr hsp=>?_
 obtain ⟨t,h,q⟩:=hbody cdv A outer s H vs Q E hr hsp
 exact ⟨t,h.nox,q⟩
theorem Fun.binds {x qual:Str} {st:Stmt} {f:Addr} {fd:FuncData} {ps:List Str} (F:Fun K x qual st f fd)
  (h:∀ (kV doc pm:Value) (an:Option Addr) (cdv ct:Value) (us:List Value),us.length=ps.length->bindArgs (PySem.W.fnOf x qual (ar st) (ao st) (af st) .none kV doc pm an cdv ct) ⟨us,[]⟩=pure (ps.zip us)):Binds K fd ps []:=by
 obtain ⟨oc,od,kV,doc,pm,an,cdv,ct,osl,rfl,lk,hcd⟩:=F.ex
 exact .all (h kV doc pm an cdv ct)
theorem aB {x qual:Str} {st:Stmt} {f:Addr} {oc:Value} {od an:Option Addr} {osl:Array (Option Value)} {kV doc pm cdv ct:Value} (l:K.lookup f=some ⟨oc,od,.func (PySem.W.fnOf x qual (ar st) (ao st) (af st) .none kV doc pm an cdv ct),osl⟩)
  (c:PySem.W.codeIn K cdv qual=true) (k:PySem.W.keepIn K (.ref f)=true):Fun K x qual st f (PySem.W.fnOf x qual (ar st) (ao st) (af st) .none kV doc pm an cdv ct):=⟨⟨oc,od,kV,doc,pm,an,cdv,ct,osl,rfl,l,c⟩,k⟩
end
theorem aZ {A:Around} {k:Nat} (hr:Room k A):A.units+1<cLine:=iY (jK (by decide:1<=64) _) hr.units
theorem ax {n:Nat} (h:n<=1000):n<sizeLine:=iY h (by decide)
section
variable {X:Cx}
theorem pv (i:Nat) {x:Str} {pos:Pos} (hN:X.N[i]?=some x:=by rfl) (hv:Vis X.env.scope x:=by first | exact Or.inl rfl | exact Or.inr (Or.inl rfl) | exact Or.inr (Or.inr rfl)) (hd:(x == ("__debug__":Str))=false:=by decide)
  (hcd:(x == ("__classdict__":Str))=false:=by decide):PE X (.Name x pos) (tVar i):=pe_var hN hv hd hcd
end
theorem iteF {A B:Prop} (h:B):if false=true then A else B:=by
 rw [if_neg iC]
 exact h
theorem iteT {A B:Prop} (h:A):if true=true then A else B:=by
 rw [if_pos rfl]
 exact h
theorem ite2 {c A B:Prop} [Decidable c] (h1:c->A) (h2:¬ c->B):if c then A else B:=by
 by_cases h:c
 ·rw [if_pos h]
  exact h1 h
 ·rw [if_neg h]
  exact h2 h
theorem iteNS {c A B:Prop} [Decidable c] (hc:c) (h:B):if (!decide c)=true then A else B:=by
 rw [iM hc]
 exact iteF h
noncomputable def Same (H H':Hp):Prop:=∀ b o,H b=some o->H' b=some o
theorem Same.refl (H:Hp):Same H H:=λ _ _ h=>h
theorem Same.trans {H H1 H2:Hp} (a:Same H H1) (b:Same H1 H2):Same H H2:=λ c o h=>b c o (a c o h)
theorem Same.free {H H':Hp} (e:Same H H') {l:Addr} (h:H' l=Option.none):H l=Option.none:=by
 cases q:H l with
 | none=>rfl
 | some o=>
  rw [e l o q] at h
  cases h
theorem Same.seq {K:W.Frag} {H H':Hp} {a:Addr} {xs:List V} (e:Same H H') (h:SqL K H a xs):SqL K H' a xs:=by
 rcases h with (h | ⟨o,h⟩) | h
 ·exact .inl (.inl (e _ _ h))
 ·exact .inl (.inr ⟨o,e _ _ h⟩)
 ·exact .inr h
end L2
set_option maxHeartbeats 4000000
set_option exponentiation.threshold 300
namespace L2
open PySem PySem.Spec PyProof.Rows
section
variable {X:Cx}
theorem bits_le {k:Int} {n:Nat} (h:k.natAbs<2 ^ n):Builtin.Int.intBits k<=n:=by
 unfold Builtin.Int.intBits
 split
 ·exact im _
 ·rename_i h0
  have hz:k.natAbs≠0:=by
   intro z
   apply h0
   have:k=0:=by omega
   simp [this]
  have:k.natAbs.log2<n:=(Nat.log2_lt hz).mpr h
  omega
noncomputable def CMulB (i j:Int):Prop:=i.natAbs<2 ^ 9000/\j.natAbs<2 ^ 9000
theorem CMulB.ok {i j:Int} (h:CMulB i j):IntMulOk i j:=by
 refine IntMulOk.of_bits (ie (bits_le h.1) (by decide)) (ie (bits_le h.2) (by decide))
theorem aQ:OpR X (binaryOp .Mult) (rI CMulB λ i j=>.int (i*j)):=opI λ _ _ _ _ _ _ _ hc q=>mul_int q hc.ok
noncomputable def CDivB (_ j:Int):Prop:=j≠0/\j.natAbs<2 ^ 9000
theorem CDivB.ok {i j:Int} (h:CDivB i j):Builtin.divisionGoesByPylong i j=false:=
 PyProof.noPylong_of_log2 ((Nat.log2_lt (by have:=h.1;omega)).mpr h.2)
theorem bh:OpR X (binaryOp .FloorDiv) (rI CDivB λ i j=>.int (i.fdiv j)):=opI λ _ _ _ _ _ _ _ hc q=>floordiv_int hc.1 q (.inl hc.ok)
noncomputable def rIsI (K:W.Frag) (c:Value):List V->Hp->VK->Prop:=λ vs H Q=>∃ x y t b,vs=[x,y]/\(∀ u,RelV y u->u=c)/\TyOf K H x t/\PySem.W.kitOne K t c=some b/\Q (.bl b) H
theorem d6 {c:Value}:fF X (.builtin "isinstance") (rIsI X.K c):=by
 intro pins s σ H xs us Q I r h
 obtain ⟨x,y,t,b,rfl,hc,ty,e,q⟩:=h
 cases r with
 | cons r1 r2=>
  cases r2 with
  | cons r3 r4=>
   cases r4
   have:=hc _ r3
   subst this
   exact isinst_ok I r1 ty e λ tk=>⟨.bl b,H,I.tok tk,rfl,q⟩
end
section
variable {X:Cx}
noncomputable def cE (X:Cx) (pins:List (Addr × Obj)) (N':List Str) (scope:Scope) (cl:List (Str × Addr)) (C:Addr) (fp:List Addr) (s:Shared) (H:Hp):Cx:=
 { X with N:=N',s₀:=s,H₀:=H,env:=compEnvC scope cl C X.env,outer:=X.stack,stack:=X.stack,ex:=fp,fn:=λ _=>false,pn:=X.pn++pins,xe:=λ _ _=>False }
structure Clos (X:Cx) (scope:Scope) (cl:List (Str × Addr)):Prop where
 clos:closureFor scope X.env=pure cl
 sub:∀ y c,cl.lookup y=some c->X.env.cells.lookup y=some c
 has:∀ y,((relabel scope X.env).names.lookup y=some .cell∨(relabel scope X.env).names.lookup y=some .free)->∃ c,cl.lookup y=some c
theorem relabel_none {scope:Scope} {env:Env} (hf:∀ x∈scope.names,x.2≠.free):relabel scope env=scope:=by
 unfold relabel
 have:(scope.names.map λ(n,k)=>if (k == NameKind.free && env.scope.kind == .function && env.kindOf n == some .cell) then (n,NameKind.cell) else (n,k))=scope.names:=by
  refine map_eq_self λ x hx=>?_
  obtain ⟨n,k⟩:=x
  have h1:(k == NameKind.free)=false:=by simpa using hf _ hx
  simp [h1]
 rw [this]
theorem Clos.none {scope:Scope} (hf:∀ x∈scope.names,x.2≠.free) (hc:∀ x∈scope.names,x.2≠.cell):Clos X scope []:=by
 refine ⟨closureFor_none hf,λ y c h=>by simp at h,λ y h=>?_⟩
 rw [relabel_none hf] at h
 rcases h with h | h
 ·exact absurd rfl (hc _ (jv h))
 ·exact absurd rfl (hf _ (jv h))
noncomputable def Reads (X:Cx) (scope:Scope) (rest:List Str) (sel:St->St):Prop:=
 ∀ σ,(sel σ).length=rest.length/\∀ (i:Nat) (y:Str) (v:V),rest[i]?=some y->(sel σ)[i]?=some (some v)->∃ j:Nat,X.N[j]?=some y/\σ[j]?=some (some v)/\X.env.scope.names.lookup y=some .cell/\(relabel scope X.env).names.lookup y=some .cell
end
end L2
namespace L2
open PySem PySem.Spec PyProof.Rows
theorem ifV {k m:Int} {A B:Prop} (h1:k=m->A) (h2:k≠m->B):if decide (V.int k=V.int m)=true then A else B:=by
 by_cases h:k=m
 ·rw [if_pos (by rw [h];exact iM rfl)]
  exact h1 h
 ·rw [if_neg (by rw [iF (by intro z;exact h (V.int.inj z))];decide)]
  exact h2 h
theorem ifB {c A B:Prop} [Decidable c] (h1:c->A) (h2:¬ c->B):if decide c=true then A else B:=by
 by_cases h:c
 ·rw [if_pos (iM h)]
  exact h1 h
 ·rw [if_neg (by rw [iF h];decide)]
  exact h2 h
theorem iteC {c:Bool} {A B:Prop} (h:c=true) (a:A):if c=true then A else B:=by
 rw [if_pos h]
 exact a
theorem fM {c:Bool} {A B:Prop} (h:c=false) (b:B):if c=true then A else B:=by
 rw [if_neg (by rw [h];decide)]
 exact b
theorem neV {k m:Int} (h:k≠m):decide (V.int k=V.int m)=false:=iF (by intro z;exact h (V.int.inj z))
end L2
namespace L2
open PySem PySem.Spec PyProof.Rows
section
variable {X:Cx} {st:Stmt} {rest:List Stmt} {t u:TS}
noncomputable def tCut (t u:TS):TS:=λ D σ H=>∃ M:St->Hp->Prop,t { D with nx:=M } σ H/\∀ σ' H',M σ' H'->u D σ' H'
theorem aX (h1:PS X st t) (h2:PSs X rest u):PSs X (st::rest) (tCut t u):=by
 intro pins s σ H D I ⟨M,h,hM⟩
 refine wpAny_execs_cons (thn (h1 pins s σ H { D with nx:=M } I h) λ f s1 q=>?_)
 cases f with
 | next=>
  obtain ⟨σ',H',I',q⟩:=q
  exact h2 pins s1 σ' H' D I' (hM σ' H' q)
 | ret v=>exact q
 | brk=>exact q
 | cont=>exact q
end
noncomputable def rLen (K:W.Frag):List V->Hp->VK->Prop:=λ xs H Q=>∃ p ys,xs=[.ref p]/\(SqL K H p ys∨SqT K H p ys)/\Q (.int ys.length) H
theorem a8 {X:Cx}:fF X (.builtin "len") (rLen X.K):=call_len_seq
end L2
namespace L2
open PySem
noncomputable def Trail (h:Heap) (e:Addr) (vs:Array Value):Option Addr->Prop
 | none=>vs[1]?=some .none
 | some T=>vs[1]?=some (.ref T)/\T≠e/\∃ oT ts,h.get? T=some oT/\oT.data=.fields ts/\ts[3]?=some .none
structure Noted (l:List Env) (e:Addr) (oe:Obj) (vs:Array Value) (tr:Option Addr) (h h':Heap):Prop where
 exc:∃ vs' T,h'.get? e=some { oe with data:=.fields vs' }/\vs'[0]?=vs[0]?/\h.objs.size<=T/\Trail h' e vs' (some T)
 keep:∀ b o,b≠e->tr≠some b->b ∉ l.filterMap (·.frame)->h.get? b=some o->h'.get? b=some o
 slot:∀ b o,b≠e->tr≠some b->b∈l.filterMap (·.frame)->h.get? b=some o->∃ sl,h'.get? b=some { o with slots:=sl }
section
variable {M:Model} {A:Around} {E:Value->Shared->Prop} {s:Shared} {base:Heap} {env:Env} {outer:List Env} {L e:Addr} {oe:Obj} {vs:Array Value} {Q:Unit->Shared->Prop}
theorem mapFields_eq {o:Obj} {ws:Array Value} (hd:o.data=.fields ws) (f:Array Value->Array Value):Obj.mapFields f o = { o with data:=.fields (f ws) }:=by
 obtain ⟨c,d,dt,sl⟩:=o
 cases hd
 rfl
theorem entry_core {head:Value} {hadNext:Bool} (hfr:A.frames=some (env::outer)) (hl:s.heap.FunFrames base (env::outer)) (hf:env.frame=some L)
  (he:s.heap.get? e=some oe) (hd:oe.data=.fields vs) (hsz:1<vs.size) (h:∀ h',Noted (env::outer) e oe vs none s.heap h'->Q () { s with heap:=h' }) :
  wpAny M A (do let a <- frameOf env;let pl <- entryPlaceOf L hadNext;let b <- EntryCells.newEntry head a .none (rawInt L) .none pl;setField (.ref e) 1 b) (λ _ s'=>wpAny M A (setFlight (.ref e) none) Q E s') E s:=by
 have ne:∀ b∈(env::outer).filterMap (·.frame),b≠e:=λ b hm z=>by
  obtain ⟨_,o,ho,hnf⟩:=hl.mem hm
  rw [z,he] at ho
  cases ho
  exact hnf vs hd
 refine hU (wpAny_frameOf_fun hfr hl hf λ h₁ hs₁=>hU (wpAny_entryPlaceOf λ pl hpl=>?_))
 unfold EntryCells.newEntry newFields
 refine hU (wpAny_newObj_type ?_ (hpl.sizeOk5 _ _ _ _ _))
 have a₁:h₁.get? e=some oe:=(hs₁.2.1 e λ hm=>ne e hm rfl).trans he
 generalize hot:({ cls:=.type "traceback",dict:=none,data:=.fields ([head,.ref L,.none,rawInt L,.none]++(if pl.isEmpty then List.replicate 6 Value.none else pl)).toArray }:Obj)=ot
 have fr:ot.isFreed=false:=by rw [<- hot];rfl
 obtain ⟨ts,hts,h3⟩:∃ ts:Array Value,ot.data=.fields ts/\3<ts.size:=by
  refine ⟨_,by rw [<- hot],?_⟩
  simp only [iW,ir,ja,List.length_nil]
  omega
 have a₂:=ia (h:=h₁) ot a₁
 refine wpAny_setField a₂ hd hsz ?_
 have nT:h₁.objs.size≠e:=jg (ik a₁)
 have d₃:=jP hd (·.setIfInBounds 1 (Value.ref h₁.objs.size))
 have a₃:=jM (Obj.mapFields (·.setIfInBounds 1 (Value.ref h₁.objs.size))) a₂ (Obj.isFreed_of_fields d₃)
 have t₃:=(jD (h₁.push ot) (Obj.mapFields (·.setIfInBounds 1 (Value.ref h₁.objs.size))) (Ne.symm nT)).trans (iA h₁ fr)
 unfold setFlight
 refine hU (jA a₃ d₃ (x:=.ref h₁.objs.size) (by simp [hsz]) ?_)
 rw [if_pos (show (Value.ref h₁.objs.size != Value.none)=true from by simp)]
 refine wpAny_setField t₃ hts h3 (h _ ?_)
 have old:∀ b o,b≠e->h₁.get? b=some o->(((h₁.push ot).update e (Obj.mapFields (·.setIfInBounds 1 (Value.ref h₁.objs.size)))).update h₁.objs.size (Obj.mapFields (·.setIfInBounds 3 Value.none))).get? b=some o:=λ b o hb q=>by
  rw [jD _ _ (jg (ik q)),jD _ _ (Ne.symm hb)]
  exact ia _ q
 have e₄:=(jD ((h₁.push ot).update e (Obj.mapFields (·.setIfInBounds 1 (Value.ref h₁.objs.size)))) (Obj.mapFields (·.setIfInBounds 3 Value.none)) nT).trans a₃
 have t₄:=jM (Obj.mapFields (·.setIfInBounds 3 Value.none)) t₃ (Obj.isFreed_of_fields (jP hts _))
 refine ⟨⟨_,h₁.objs.size,by rw [mapFields_eq hd] at e₄;exact e₄,by rw [Array.getElem?_setIfInBounds_ne (by decide)],?_,by simp [hsz],nT,_,_,t₄,jP hts _,by simp [h3]⟩,λ b o nb _ hb q=>?_,λ b o nb _ hb q=>?_⟩
 ·exact Nat.le_of_eq hs₁.1.symm
 ·exact old b o nb ((hs₁.2.1 b hb).trans q)
 ·obtain ⟨sl,q₁⟩:=hs₁.2.2 b o q
  exact ⟨sl,old b _ nb q₁⟩
theorem noted_ok {tr:Option Addr} (hfr:A.frames=some (env::outer)) (hl:s.heap.FunFrames base (env::outer)) (hf:env.frame=some L)
  (he:s.heap.get? e=some oe) (hd:oe.data=.fields vs) (ht:Trail s.heap e vs tr) (h:∀ h',Noted (env::outer) e oe vs tr s.heap h'->Q () { s with heap:=h' }) :
  wpAny M A (noteFrame (.ref e) env) (λ _ s'=>wpAny M A (setFlight (.ref e) none) Q E s') E s:=by
 unfold noteFrame
 simp only [hf]
 cases tr with
 | none=>
  have ht:vs[1]?=some .none:=ht
  refine hU (jA he hd ht ?_)
  rw [if_neg (by decide)]
  exact entry_core hfr hl hf he hd (Array.getElem?_eq_some_iff.mp ht).1 h
 | some T=>
  obtain ⟨h1,nT,oT,ts,gT,dT,h3⟩:=ht
  refine hU (jA he hd h1 ?_)
  rw [if_pos (show (Value.ref T != Value.none)=true from by simp)]
  refine hU (jA gT dT h3 ?_)
  rw [if_neg (show ¬ ((Value.none == rawInt L)=true) from by simp [rawInt])]
  refine hU (wpAny_setField gT dT (Array.getElem?_eq_some_iff.mp h3).1 ?_)
  have oth:∀ b,b≠T->(s.heap.update T (Obj.mapFields (·.setIfInBounds 3 Value.none))).get? b=s.heap.get? b:=λ b hb=>jD _ _ (Ne.symm hb)
  have nr:∀ b o,s.heap.get? b=some o->(∀ ws,o.data≠.fields ws)->b≠T:=λ b o hb hn q=>by
   rw [q,gT] at hb
   cases hb
   exact hn ts dT
  refine entry_core hfr (hl.of_keeps λ b o hb hn=>⟨o,(oth b (nr b o hb hn)).trans hb,rfl⟩) hf ((oth e (Ne.symm nT)).trans he) hd (Array.getElem?_eq_some_iff.mp h1).1 λ h' N=>h h' ⟨?_,?_,?_⟩
  ·obtain ⟨vs',T',q1,q2,q3,q4⟩:=N.exc
   exact ⟨vs',T',q1,q2,by rw [Heap.size_after_update] at q3;exact q3,q4⟩
  ·intro b o nb nt hb q
   exact N.keep b o nb (by intro z;cases z) hb ((oth b λ z=>nt (by rw [z])).trans q)
  ·intro b o nb nt hb q
   exact N.slot b o nb (by intro z;cases z) hb ((oth b λ z=>nt (by rw [z])).trans q)
theorem leaving_ok {tr:Option Addr} (hfr:A.frames=some (env::outer)) (hl:s.heap.FunFrames base (env::outer)) (hf:env.frame=some L)
  (he:s.heap.get? e=some oe) (hd:oe.data=.fields vs) (ht:Trail s.heap e vs tr) (h:∀ h',Noted (env::outer) e oe vs tr s.heap h'->Q () { s with heap:=h' }) :
  wpAny M A (leaving env (.ref e)) Q E s:=by
 unfold leaving
 exact hU (noted_ok hfr hl hf he hd ht h)
end
end L2
namespace L2
open PySem PySem.Spec PyProof.Rows
section
variable {P:Program} {w:World} {H:Hp} {h:Heap} {a:Addr} {o:HO}
theorem ObjOk.there (x:ObjOk P w H h a o):∃ ob,h.get? a=some ob:=by
 cases o with
 | lst xs=>obtain ⟨_,_,_,_,e⟩:=x;exact ⟨_,e⟩
 | tup xs=>obtain ⟨_,_,_,⟨_,e,_⟩⟩:=x;exact ⟨_,e⟩
 | dK kvs=>obtain ⟨_,_,_,_,o,_,_,e,_⟩:=x;exact ⟨_,e⟩
 | dT kvs=>obtain ⟨_,_,_,_,o,_,_,e,_⟩:=x;exact ⟨_,e⟩
 | set S n=>obtain ⟨o,_,_,_,e,_⟩:=x;exact ⟨_,e⟩
 | ins C dx fs=>obtain ⟨_,_,_,e,_⟩:=x;exact ⟨_,e⟩
 | own y=>exact x
 | xd fs=>obtain ⟨_,⟨_,_,_,e,_⟩,_⟩:=x;exact ⟨_,e⟩
 | rng lo hi=>obtain ⟨_,_,_,e⟩:=x;exact ⟨_,e⟩
 | frz ob u=>obtain ⟨e,_⟩:=x;exact ⟨_,e⟩
 | tbl ps=>exact ⟨_,(show h.get? a=some _ from x)⟩
 | met f y=>exact ⟨_,(show h.get? a=some _ from x)⟩
 | ext φ=>obtain ⟨_,e,_⟩:=x;exact e
theorem HOk.noObj (x:HOk P w H h) (e:h.get? a=none):H a=none:=by
 cases q:H a with
 | none=>rfl
 | some o=>
  obtain ⟨ob,z⟩:=(x a o q).there
  rw [e] at z
  cases z
end
section
variable {X:Cx} {pins:List (Addr × Obj)} {σ:St} {H H':Hp} {s s':Shared} {h':Heap}
noncomputable def Off (X:Cx) (pins:List (Addr × Obj)) (b:Addr):Prop:=
 X.s₀.heap.get? b=none/\b≠X.env.locals/\b ∉ X.fs/\(∀ x c,X.env.cells.lookup x=some c->c≠b)/\∀ p∈X.pn++pins,p.1≠b
theorem Inv.off {b:Addr} (I:Inv X pins σ H s) (hex:X.ex=[]) (hb:s.heap.get? b=none):Off X pins b:=by
 have no:∀ {c:Addr} {o:Obj},s.heap.get? c=some o->c≠b:=λ e z=>by rw [z,hb] at e;cases e
 refine ⟨?_,λ z=>?_,λ z=>?_,λ x c e=>?_,λ p hp=>no (I.pin p hp).1⟩
 ·cases q:X.s₀.heap.get? b with
  | none=>rfl
  | some o=>
   obtain ⟨o',e⟩:=I.base.there b o q (by rw [hex];simp)
   rw [hb] at e
   cases e
 ·obtain ⟨m,⟨o,_,_,e,_⟩,_⟩:=I.loc
  exact no e z.symm
 ·obtain ⟨_,o,e,_⟩:=I.funs.mem z
  exact no e rfl
 ·obtain ⟨v,o,q,_⟩:=I.cell x c e
  exact no q
theorem Inv.stepO {ch:List Addr} (I:Inv X pins σ H s) (hch:∀ b∈ch,Off X pins b)
  (keep:∀ b o,b≠X.env.locals->b ∉ X.fs->b ∉ ch->s.heap.get? b=some o->H b=none->h'.get? b=some o)
  (slot:∀ b o,b≠X.env.locals->b∈X.fs->b ∉ ch->s.heap.get? b=some o->H b=none->∃ sl,h'.get? b=some { o with slots:=sl }) (free:∀ b o,b ∉ ch->s.heap.get? b=some o->H b=none->H' b=none)
  (there:∀ b o,b ∉ ch->s.heap.get? b=some o->∃ o',h'.get? b=some o')
  (tups:∀ b xs,H b=some (.tup xs)->H' b=some (.tup xs)) (frzs:∀ b o u,H b=some (.frz o u)->H' b=some (.frz o u)) (tbls:∀ b ps,H b=some (.tbl ps)->∃ more,H' b=some (.tbl (ps++more)))
  (ns:∀ m,s.heap.Ns X.env.locals m->h'.Ns X.env.locals m) (hok:HOk X.prog X.w H' h') :
  Inv X pins σ H' { s with heap:=h' }:=by
 have neL:∀ b o,X.s₀.heap.get? b=some o->b≠X.env.locals:=λ b o e=>iI (iL (ik e) I.ok.above)
 have neC:∀ b o,X.s₀.heap.get? b=some o->b ∉ ch:=λ b o e hb=>by rw [(hch b hb).1] at e;cases e
 have cellK:∀ x c,X.env.cells.lookup x=some c->∀ v,s.heap.IsCell c v->h'.IsCell c v:=λ x c e v ⟨o,ho,hd⟩=>by
  have nch:c ∉ ch:=λ z=>(hch c z).2.2.2.1 x c e rfl
  by_cases hc:c∈X.fs
  ·obtain ⟨sl,q⟩:=slot c o (I.cne x c e) hc nch ho (I.freeC x c e)
   exact ⟨_,q,hd⟩
  ·exact ⟨o,keep c o (I.cne x c e) hc nch ho (I.freeC x c e),hd⟩
 refine ⟨I.ok,I.os,I.bare,⟨λ b o e n hb hx=>?_,λ b o e n hb hx=>?_,λ b o e n hx=>?_,λ b o e hx=>?_,λ b xs e=>tups b xs (I.base.tups b xs e),λ b o xs e=>frzs b o xs (I.base.frzs b o xs e),λ b ps e=>?_⟩,?_,λ x c e=>?_,?_,λ x c e=>?_,λ p hp=>?_,hok,I.len⟩
 ·exact keep b o (neL b o e) hb (neC b o e) (I.base.keep b o e n hb hx) (I.base.free b o e n hx)
 ·obtain ⟨sl,e1⟩:=I.base.slot b o e n hb hx
  obtain ⟨sl',e2⟩:=slot b _ (neL b o e) hb (neC b o e) e1 (I.base.free b o e n hx)
  exact ⟨sl',e2⟩
 ·obtain ⟨o',e1⟩:=I.base.there b o e hx
  exact free b o' (neC b o e) e1 (I.base.free b o e n hx)
 ·obtain ⟨o',e1⟩:=I.base.there b o e hx
  exact there b o' (neC b o e) e1
 ·obtain ⟨m1,e1⟩:=I.base.tbls b ps e
  obtain ⟨m2,e2⟩:=tbls b _ e1
  exact ⟨m1++m2,by rw [e2,Array.append_assoc]⟩
 ·obtain ⟨m,hn,hl⟩:=I.loc
  refine ⟨m,ns m hn,λ i x v e1 e2 e3=>?_⟩
  obtain ⟨u,r,l⟩:=hl i x v e1 e2 e3
  refine ⟨u,r,?_⟩
  rcases l with l | ⟨k,c,e,z⟩
  ·exact .inl l
  ·exact .inr ⟨k,c,e,cellK x c e _ z⟩
 ·obtain ⟨v,z⟩:=I.cell x c e
  exact ⟨v,cellK x c e v z⟩
 ·obtain ⟨m,⟨o,_,_,ho,_⟩,_⟩:=I.loc
  exact free _ o (λ z=>(hch _ z).2.1 rfl) ho I.free
 ·obtain ⟨v,o,ho,hd⟩:=I.cell x c e
  exact free c o (λ z=>(hch c z).2.2.2.1 x c e rfl) ho (I.freeC x c e)
 ·obtain ⟨e,n,ne,nf,d⟩:=I.pin p hp
  have nch:p.1 ∉ ch:=λ z=>(hch p.1 z).2.2.2.2 p hp rfl
  exact ⟨keep p.1 p.2 ne nf nch e n,free p.1 p.2 nch e n,ne,nf,d⟩
theorem Inv.noted {e:Addr} {oe:Obj} {vs:Array Value} {tr:Option Addr} (I:Inv X pins σ H s) (hH:H e=none) (ho:Off X pins e) (ht:∀ T,tr=some T->H T=none/\Off X pins T)
  (N:Noted X.stack e oe vs tr s.heap h'):Inv X pins σ H { s with heap:=h' }:=by
 have any:∀ b o,b ∉ e::tr.toList->s.heap.get? b=some o->∃ sl,h'.get? b=some { o with slots:=sl }:=λ b o hb q=>by
  have n1:b≠e:=λ z=>hb (by rw [z];exact List.mem_cons_self)
  have n2:tr≠some b:=λ z=>hb (iZ _ (by rw [z];simp))
  by_cases hs:b∈frs X.stack
  ·exact N.slot b o n1 n2 hs q
  ·exact ⟨o.slots,N.keep b o n1 n2 hs q⟩
 have kp:∀ b o,b≠X.env.locals->b ∉ X.fs->b ∉ e::tr.toList->s.heap.get? b=some o->h'.get? b=some o:=λ b o hL hb hc q=>
  N.keep b o (λ z=>hc (by rw [z];exact List.mem_cons_self)) (λ z=>hc (iZ _ (by rw [z];simp))) (λ z=>(iw.mp (I.stkSub b z)).elim hL hb) q
 have offs:∀ b∈e::tr.toList,H b=none/\Off X pins b:=λ b hb=>by
  rcases iw.mp hb with z | z
  ·rw [z];exact ⟨hH,ho⟩
  ·exact ht b (by simpa using z)
 refine I.stepO (ch:=e::tr.toList) (λ b hb=>(offs b hb).2) (λ b o hL hb hc q _=>kp b o hL hb hc q) (λ b o _ _ hc q _=>any b o hc q) (λ _ _ _ _ n=>n)
  (λ b o hc q=>let ⟨_,z⟩:=any b o hc q;⟨_,z⟩) (λ _ _ q=>q) (λ _ _ _ q=>q) (λ b ps q=>⟨#[],by rw [q];simp⟩) (λ m hm=>?_) (λ b u q=>?_)
 ·obtain ⟨o,es,ep,g,r⟩:=hm
  obtain ⟨sl,g'⟩:=any _ o (λ z=>(offs _ z).2.2.1 rfl) g
  exact ⟨_,es,ep,g',r⟩
 ·refine (I.hok b u q).stay (λ c v hc g=>?_) (λ _ z=>z) λ _ _ z=>z
  have trk:H c≠none:=by
   rcases hc with z | z
   ·rw [z,q];simp
   ·rw [z];simp
  refine N.keep c v (λ z=>trk (by rw [z];exact hH)) (λ z=>trk (ht c z).1) (λ z=>trk (I.stkFree c z)) g
noncomputable def XFly (X:Cx) (pins:List (Addr × Obj)) (H:Hp) (h:Heap) (x:Addr) (cls:Value) (d:Option Addr):Prop:=
 H x=none/\Off X pins x/\∃ vs sl tr,h.get? x=some ⟨cls,d,.fields vs,sl⟩/\Trail h x vs tr/\∀ T,tr=some T->H T=none/\Off X pins T
noncomputable def XP (X:Cx) (pins:List (Addr × Obj)) (σ:St) (E:XK) (e:Value) (s':Shared):Prop:=∃ x cls d H',e=.ref x/\Inv X pins σ H' s'/\XFly X pins H' s'.heap x cls d/\E cls d H'
noncomputable def Fly (g:Heap) (H:Hp) (h:Heap) (x:Addr) (cls:Value) (d:Option Addr):Prop:=
 g.get? x=none/\H x=none/\∃ vs sl tr,h.get? x=some ⟨cls,d,.fields vs,sl⟩/\Trail h x vs tr/\∀ T,tr=some T->g.get? T=none/\H T=none
noncomputable def CX1 (P:Program) (w:World):CXT:=λ outer H s E e s'=>∃ x cls d H',e=.ref x/\s'.os=s.os/\AllBare s'.gens/\Un (frs outer) [] H H' s.heap s'.heap/\HOk P w H' s'.heap/\Fly s.heap H' s'.heap x cls d/\E cls d H'
theorem XP.of_call {E:XK} {e:Value} (hex:X.ex=[]) (I:Inv X pins σ H s) (h:CX1 X.prog X.w X.stack H s E e s'):XP X pins σ E e s':=by
 obtain ⟨x,cls,d,H',rfl,os,bare,un,hok,⟨f1,f2,vs,sl,tr,f3,f4,f5⟩,q⟩:=h
 exact ⟨x,cls,d,H',rfl,I.call' os un hok bare (λ b z=>absurd z (by simp)),⟨f2,I.off hex f1,vs,sl,tr,f3,f4,λ T z=>⟨(f5 T z).2,I.off hex (f5 T z).1⟩⟩,q⟩
end
section
variable {P:Program} {w:World} {K:W.Frag} {mg:Str->Option Value} {base:Heap} {N:List Str} {qual:Str} {scope:Scope} {f:Addr} {cd:Value} {A:Around} {outer:List Env} {s₀:Shared} {H₀:Hp} {E:XK}
theorem xe_of {pins:List (Addr × Obj)} {σ:St} {e:Value} {s':Shared} (h:XP (aK (CX1 P w) P w K mg base N qual scope f cd A outer s₀ H₀ E) pins σ E e s') :
  (aK (CX1 P w) P w K mg base N qual scope f cd A outer s₀ H₀ E).xe e s':=by
 obtain ⟨x,cls,d,H',rfl,I,⟨f1,f2,vs,sl,tr,f3,f4,f5⟩,q⟩:=h
 refine leaving_ok (L:=s₀.heap.objs.size) I.ok.frames I.stack rfl f3 rfl f4 λ h' Nt=>?_
 have J:=I.noted f1 f2 f5 Nt
 obtain ⟨vs',T,g1,_,g2,g3⟩:=Nt.exc
 refine ⟨x,cls,d,H',rfl,J.os,J.bare,J.base,J.hok,⟨f2.1,f1,vs',sl,some T,g1,g3,λ T' z=>?_⟩,q⟩
 cases z
 exact ⟨(I.off rfl (Heap.get?_none_of_le g2)).1,I.hok.fresh g2⟩
theorem pass1:cX (CX1 P w) (aK (CX1 P w) P w K mg base N qual scope f cd A outer s₀ H₀ E) E:=λ _ _ _ _ _ _ I h=>xe_of (XP.of_call rfl I h)
theorem owns1:PassesOwn (model P w) (aK (CX1 P w) P w K mg base N qual scope f cd A outer s₀ H₀ E).A (aK (CX1 P w) P w K mg base N qual scope f cd A outer s₀ H₀ E).env (aK (CX1 P w) P w K mg base N qual scope f cd A outer s₀ H₀ E).xe:=PassesOwn.leaving
theorem Fun.okX {x qual:Str} {st:Stmt} {f:Addr} {fd:FuncData} {N ps:List Str} {k:Nat} {sp:Sp} (F:Fun K x qual st f fd) (S:FnScope N ps (af st)) (len:∀ vs H Q E,sp vs H Q E->vs.length=ps.length)
  (hbody:∀ (cdv:Value) (A:Around) (outer:List Env) (s:Shared) (H:Hp) (vs:List V) (Q:VK) (E:XK),Room k (A.deeper (envOfC qual (af st) s.heap.objs.size f cdv))->sp vs H Q E->
   ∃ t,PSs (aK (CX1 P w) P w K mg base N qual (af st) f cdv A outer s H E) (ao st) t/\t { nx:=λ _ H'=>Q .non H',rt:=Q } (dY N vs) H):FnOk P w K mg base (CX1 P w) (k+1) f fd ps sp:=by
 obtain ⟨oc,od,kV,doc,pm,an,cdv,ct,osl,rfl,lk,hcd⟩:=F.ex
 exact fn_of lk hcd S len λ A outer s H vs Q E hr hsp=>hbody cdv A outer s H vs Q E hr hsp
end
end L2
namespace L2
open PySem PySem.Spec PyProof.Rows
noncomputable abbrev bmV:List Value:=[.type "ValueError",.type "Exception",.type "BaseException",.type "object"]
section
variable {X:Cx} {E:XK}
noncomputable def XOut (X:Cx) (E:XK):Prop:=∀ pins σ e s',XP X pins σ E e s'->X.xe e s'
theorem xout1 {P:Program} {w:World} {K:W.Frag} {mg:Str->Option Value} {base:Heap} {N:List Str} {qual:Str} {scope:Scope} {f:Addr} {cd:Value} {A:Around} {outer:List Env} {s₀:Shared} {H₀:Hp} :
  XOut (aK (CX1 P w) P w K mg base N qual scope f cd A outer s₀ H₀ E) E:=λ _ _ _ _ h=>xe_of h
noncomputable def PX (X:Cx) (e:Expr) (t:XK->TE):Prop:=
 ∀ (pins:List (Addr × Obj)) (s:Shared) (σ:St) (H:Hp) (Q:VK) (E:XK),Inv X pins σ H s->t E σ H Q->wpAny (model X.prog X.w) X.A (eval e X.env) (EP X pins σ Q) (XP X pins σ E) s
noncomputable def PSX (X:Cx) (st:List Stmt) (t:XK->TS):Prop:=
 ∀ (pins:List (Addr × Obj)) (s:Shared) (σ:St) (H:Hp) (D:Ends) (E:XK),Inv X pins σ H s->t E D σ H->wpAny (model X.prog X.w) X.A (execs st X.env) (SP X pins D) (XP X pins σ E) s
variable {k:Nat} {f C:Addr} {fd:FuncData} {ps:List Str} {sp:Sp} {dvs:List V} {ds:List Value} {x m:Str} {p pos apos:Pos} {e o:Expr} {es:List Expr} {ta:TE} {t:TA}
theorem run_fnX {pins:List (Addr × Obj)} {σ:St} {H:Hp} {s:Shared} {Q:VK} {us:List Value} {vs:List V} (F:FnOk X.prog X.w X.K X.mg X.base (CX1 X.prog X.w) k f fd ps sp) (hr:Room k X.A) (hb:Binds X.K fd ps ds) (hd:Vals dvs ds) (hex:X.ex=[])
  (I:Inv X pins σ H s) (r:Vals vs us) (h:sp (vs++dvs) H Q E):wpAny (model X.prog X.w) X.A (call (.ref f) us) (EP X pins σ Q) (XP X pins σ E) s:=by
 have r2:Vals (vs++dvs) (us++ds):=r.append hd
 have hl:(us++ds).length=ps.length:=by rw [<- r2.length];exact F.len _ _ _ _ h
 refine wpAny_call (codeAny_mono (F.run X.A X.stack s H ⟨us,[]⟩ (us++ds) (vs++dvs) Q E hr I.env0 (hb s us I.kIn hl) r2 h) λ r s' hq=>?_)
 cases r with
 | error e=>exact XP.of_call hex I hq
 | ok fl=>
  cases fl with
  | ret u=>exact I.after hq
  | next=>exact False.elim hq
  | brk=>exact False.elim hq
  | cont=>exact False.elim hq
theorem px_call (F:FnOk X.prog X.w X.K X.mg X.base (CX1 X.prog X.w) k f fd ps sp) (hr:Room k X.A) (hg:Gl X x) (hm:X.mg x=some (.ref f)) (hk:PySem.W.keepIn X.K (.ref f)=true) (hb:Binds X.K fd ps ds) (hd:Vals dvs ds) (hex:X.ex=[])
  (ha:PA X.nox (e::es) t) (hdb:(x == ("__debug__":Str))=false:=by decide) (he:starEach (e::es) X.env=(false,eval e X.env)::starEach es X.env:=by rfl) (hpl:(backTo pos (starEach es X.env)).any (·.1)=false:=by rfl) :
  PX X (.Call (.Name x p) (e::es) [] pos) (λ E=>tCall sp dvs E t):=by
 intro pins s σ H Q E I h
 refine wpAny_Call_Name_kw (eo I hg hm ?_ hdb)
 refine jO (h₀:=X.base) I.ok.mod.kin hk (iX (ha pos pins s σ H _ (I.wish _) h) (λ us s1 ⟨vs,H1,I1,r,q⟩=>⟨I1.kIn,?_⟩) λ _ _ z=>z.elim) he hpl
 exact run_fnX F hr hb hd hex I1.unwish r q
noncomputable def PSx (X:Cx) (st:Stmt) (t:XK->TS):Prop:=
 ∀ (pins:List (Addr × Obj)) (s:Shared) (σ:St) (H:Hp) (D:Ends) (E:XK),Inv X pins σ H s->t E D σ H->wpAny (model X.prog X.w) X.A (exec st X.env) (SP X pins D) (XP X pins σ E) s
theorem psx_expr {te:XK->TE} (he:PX X e te) (hs:swapsWith e none pos.line X.env=pure false:=by rfl):PSx X (.Expr e pos) (λ E=>tDrop (te E)):=by
 intro pins s σ H D E I h
 exact wpAny_Expr_any (thn (he pins s σ H _ E I h) λ v s1 ⟨x,H1,I1,r1,q1⟩=>⟨σ,H1,I1,q1⟩) I.quiet hs
theorem pssx_one {st:Stmt} {t:XK->TS} (h1:PSx X st t):PSX X [st] t:=by
 intro pins s σ H D E I h
 refine wpAny_execs_cons (thn (h1 pins s σ H D E I h) λ f s1 q=>?_)
 cases f with
 | next=>exact wpAny_execs_nil q
 | ret v=>exact q
 | brk=>exact q
 | cont=>exact q
end
section
variable {X:Cx}
noncomputable abbrev Cx.hnd (X:Cx) (x:Addr):Cx:={ X with A:=X.A.mark (some (.ref x)),calm:=false,xe:=λ _ _=>False }
theorem Cx.Ok.hnd {x:Addr} (ok:X.Ok):(X.hnd x).Ok:=⟨ok.mod,ok.kind,ok.glob,ok.blt,ok.above,ok.inj,ok.has,ok.cab,(λ z=>nomatch z),ok.frames,ok.stk,ok.exf,ok.bs,ok.bsz,ok.noex,ok.exfs,ok.funs,ok.frf⟩
variable {pins:List (Addr × Obj)} {σ:St} {H:Hp} {s:Shared} {x:Addr}
theorem Inv.hnd (I:Inv X pins σ H s):Inv (X.hnd x) pins σ H s:=⟨I.ok.hnd,I.os,I.bare,I.base,I.loc,I.cell,I.free,I.freeC,I.pin,I.hok,I.len⟩
theorem Inv.unhnd (ok:X.Ok) (I:Inv (X.hnd x) pins σ H s):Inv X pins σ H s:=⟨ok,I.os,I.bare,I.base,I.loc,I.cell,I.free,I.freeC,I.pin,I.hok,I.len⟩
theorem SP.unhnd {D:Ends} {f:Flow} {s':Shared} (ok:X.Ok) (h:SP (X.hnd x) pins D f s'):SP X pins D f s':=by
 cases f with
 | next=>obtain ⟨σ',H',I,q⟩:=h;exact ⟨σ',H',I.unhnd ok,q⟩
 | brk=>obtain ⟨σ',H',I,q⟩:=h;exact ⟨σ',H',I.unhnd ok,q⟩
 | cont=>obtain ⟨σ',H',I,q⟩:=h;exact ⟨σ',H',I.unhnd ok,q⟩
 | ret u=>obtain ⟨v,σ',H',I,r,q⟩:=h;exact ⟨v,σ',H',I.unhnd ok,r,q⟩
noncomputable def XO (x C:Addr) (d:Option Addr):HO:=.ext λ h=>∃ vs sl,h.get? x=some ⟨.ref C,d,.fields vs,sl⟩
theorem Inv.track {o:HO} (I:Inv X pins σ H s) (hn:H x=none) (ho:Off X pins x) (new:ObjOk X.prog X.w (upd H x o) s.heap x o):Inv X pins σ (upd H x o) s:=by
 have ne:∀ b u,H b=some u->b≠x:=λ b u e z=>by rw [z,hn] at e;cases e
 have nx:∀ b,b≠x->H b=none->upd H x o b=none:=λ b hb e=>by rw [ai hb];exact e
 refine ⟨I.ok,I.os,I.bare,⟨I.base.keep,I.base.slot,λ b u e n hx=>nx b (λ z=>by rw [z,ho.1] at e;cases e) (I.base.free b u e n hx),I.base.there,λ b xs e=>?_,λ b u v e=>?_,λ b ps e=>?_⟩,
  I.loc,I.cell,nx _ (Ne.symm ho.2.1) I.free,λ y c e=>nx c (ho.2.2.2.1 y c e) (I.freeC y c e),λ p hp=>?_,λ b u e=>?_,I.len⟩
 ·have q:=I.base.tups b xs e
  rw [ai (ne b _ q)]
  exact q
 ·have q:=I.base.frzs b u v e
  rw [ai (ne b _ q)]
  exact q
 ·obtain ⟨more,q⟩:=I.base.tbls b ps e
  exact ⟨more,by rw [ai (ne b _ q)];exact q⟩
 ·obtain ⟨e,n,r⟩:=I.pin p hp
  exact ⟨e,nx p.1 (ho.2.2.2.2 p hp) n,r⟩
 ·by_cases hb:b=x
  ·subst hb
   rw [ac] at e
   cases e
   exact new
  ·rw [ai hb] at e
   exact (I.hok b u e).stay (λ _ _ _ q=>q) (λ c q=>by rw [ai (ne c _ q)];exact q) λ c xs q=>by rw [ai (ne c _ q)];exact q
theorem excMatches_K {K:W.Frag} {M:Model} {A:Around} {E:Value->Shared->Prop} {s:Shared} {e C C':Addr} {d:Option Addr} {dt:Data} {sl:Array (Option Value)} {b:Bool} {Q:Bool->Shared->Prop} (X:K.In s.heap) (he:s.heap.get? e=some ⟨.ref C,d,dt,sl⟩)
  (h1:PySem.W.instIn K (.ref C') (.type "tuple")=some false) {cd:ClassData} (h2:PySem.W.clsIn K C'=some cd) (h3:PySem.W.subIn K (.ref C') (.type "BaseException")=some true) (h4:PySem.W.subIn K (.ref C) (.ref C')=some b) (q:Q b s) :
  wpAny M A (excMatches (.ref e) (.ref C')) Q E s:=by
 have it:PySem.W.Looks M s.heap (isExcClass (.ref C')) true:=by
  unfold isExcClass
  refine PySem.W.Looks.andThen (a:=true) ?_ (PySem.W.looks_subIn X h3)
  unfold PySem.W.clsIn at h2
  split at h2
  ·rename_i ho
   intro A' Q' E' s' k q'
   unfold isType loadHead
   exact hU (wpAny_loadPart (k _ _ (X _ _ ho)) (ip q'))
  ·cases h2
 have ty:PySem.W.Looks M s.heap (typeOf (.ref e)) (.ref C):=(PySem.W.Looks.ld he).andThen .now
 unfold excMatches
 refine hU ((PySem.W.looks_instIn X h1).here ?_)
 simp only [jF,if_false]
 refine hU (ip ?_)
 simp only [List.forIn_cons,List.forIn_nil]
 refine hU (hU ?_)
 refine hU (it.here ?_)
 simp only [Bool.not_true,jF,if_false]
 refine ip (ip (hU (ty.here (hU (hU (hU ((PySem.W.looks_subIn X h4).here ?_)))))))
 cases b with
 | true=>exact ip (ip (ip q))
 | false=>exact ip (ip (ip q))
theorem flight_same {M:Model} {A:Around} {E:Value->Shared->Prop} {vs:Array Value} {T:Addr} {c:Value} {d:Option Addr} {sl:Array (Option Value)} {Q:Unit->Shared->Prop} (he:s.heap.get? x=some ⟨c,d,.fields vs,sl⟩) (ht:Trail s.heap x vs (some T)) (q:Q () s):wpAny M A (setFlight (.ref x) none) Q E s:=by
 obtain ⟨h1,_,oT,ts,gT,dT,h3⟩:=ht
 refine wpAny_setFlight_none he rfl h1 gT dT (Array.getElem?_eq_some_iff.mp h3).1 ?_
 rw [Heap.update_setField_same s.heap T oT ts 3 .none gT dT h3]
 exact q
theorem gq {M:Model} {A:Around} {E:Value->Shared->Prop} {i:Nat} {n:Str} {pos:Pos} {Q:Unit->Shared->Prop} (I:Inv X pins σ H s) (hN:X.N.Nodup) (hi:X.N[i]?=some n) (hk:X.env.scope.names.lookup n=some .local)
  (h:∀ s',Inv X pins (σ.set i none) H s'->Q () s'):wpAny M A (do bindName X.env n .none;unbindBehindTheSuite X.env n pos) Q E s:=by
 obtain ⟨m,hn,hl⟩:=id I.loc
 have hcls:(X.env.scope.kind == .class || (X.env.scope.kind == .module && X.env.locals != X.env.globals))=false:=by rw [I.ok.kind];rfl
 have hiσ:i < σ.length:=by rw [I.len];exact (hV.mp hi).1
 have cne:=I.cne
 obtain ⟨oL,_,_,hoL,_⟩:=id hn
 have neL:∀ b o,X.s₀.heap.get? b=some o->b≠X.env.locals:=λ b o e=>iI (iL (ik e) I.ok.above)
 refine wpAny_nameGoes_keeps hk hn hcls λ h' v hn' hs=>h _ ⟨I.ok,I.os,I.bare,⟨λ b o e n hb hx=>?_,λ b o e n hb hx=>?_,I.base.free,λ b o e hx=>?_,I.base.tups,I.base.frzs,I.base.tbls⟩,⟨_,hn',λ j y v' e1 e2 e3=>?_⟩,λ y c e=>?_,I.free,I.freeC,λ p hp=>?_,λ b u e=>?_,by simpa using I.len⟩
 ·exact (hs.2 b (neL b o e)).trans (I.base.keep b o e n hb hx)
 ·obtain ⟨sl,e1⟩:=I.base.slot b o e n hb hx
  exact ⟨sl,(hs.2 b (neL b o e)).trans e1⟩
 ·obtain ⟨o',e1⟩:=I.base.there b o e hx
  exact ⟨o',(hs.2 b (neL b o e)).trans e1⟩
 ·by_cases hj:j=i
  ·subst hj
   rw [List.getElem?_set_self hiσ] at e2
   cases e2
  ·rw [List.getElem?_set_ne (Ne.symm hj)] at e2
   obtain ⟨u',r',q⟩:=hl j y v' e1 e2 e3
   refine ⟨u',r',?_⟩
   rcases q with ⟨k,e⟩ | ⟨k,c,e,z⟩
   ·refine .inl ⟨k,?_⟩
    have:y≠n:=λ e=>hj (nodup_ix hN e1 (e ▸ hi))
    simp [this,e]
   ·exact .inr ⟨k,c,e,z.sameBut hs (cne y c e)⟩
 ·obtain ⟨w',z⟩:=I.cell y c e
  exact ⟨w',z.sameBut hs (cne y c e)⟩
 ·obtain ⟨e,n,ne,nf,d⟩:=I.pin p hp
  exact ⟨(hs.2 p.1 ne).trans e,n,ne,nf,d⟩
 ·refine (I.hok b u e).stay (λ c w' hc q=>(hs.2 c ?_).trans q) (λ _ q=>q) λ _ _ q=>q
  rintro rfl
  rcases hc with z | z
  ·rw [<- z,I.free] at e;cases e
  ·rw [I.free] at z;cases z
noncomputable def XHeld (X:Cx) (pins:List (Addr × Obj)) (H:Hp) (h:Heap) (x:Addr) (cls:Value) (d:Option Addr):Prop:=
 H x=none/\Off X pins x/\∃ vs sl T,h.get? x=some ⟨cls,d,.fields vs,sl⟩/\Trail h x vs (some T)/\H T=none/\Off X pins T
noncomputable abbrev TH:=Ends->St->Value->Option Addr->Hp->Prop
noncomputable def PH (X:Cx) (hs:List ExceptHandler) (t:TH):Prop:=
 ∀ (pins:List (Addr × Obj)) (s:Shared) (σ:St) (H:Hp) (D:Ends) (x:Addr) (cls:Value) (d:Option Addr),Inv X pins σ H s->XHeld X pins H s.heap x cls d->t D σ cls d H->
  wpAny (model X.prog X.w) X.A (handleBy (.ref x) X.env hs) (SP X pins D) X.xe s
structure Catches (K:W.Frag) (C:Addr):Prop where
 tu:PySem.W.instIn K (.ref C) (.type "tuple")=some false
 cl:∃ cd,PySem.W.clsIn K C=some cd
 ex:PySem.W.subIn K (.ref C) (.type "BaseException")=some true
noncomputable def hNever:TH:=λ _ _ _ _ _=>False
theorem ph_never {hs:List ExceptHandler}:PH X hs hNever:=λ _ _ _ _ _ _ _ _ _ _ h=>h.elim
noncomputable def hAs (K:W.Frag) (C':Addr) (i:Nat) (t:TS) (tr:TH):TH:=λ D σ cls d H=>∃ C b,cls=.ref C/\PySem.W.subIn K (.ref C) (.ref C')=some b/\
 if b=true then ∀ x,H x=none->t { nx:=λ σ' H'=>D.nx (σ'.set i none) H',rt:=D.rt,bk:=λ σ' H'=>D.bk (σ'.set i none) H',ct:=λ σ' H'=>D.ct (σ'.set i none) H' } (σ.set i (some (.ref x))) (upd H x (XO x C d)) else tr D σ cls d H
theorem ph_as {y n:Str} {i:Nat} {C':Addr} {np pos:Pos} {b₀:Stmt} {suite:List Stmt} {rest:List ExceptHandler} {t:TS} {tr:TH} (hg:Gl X y) (hm:X.mg y=some (.ref C')) (hc:Catches X.K C') (hN:X.N.Nodup) (hi:X.N[i]?=some n) (hk:X.env.scope.names.lookup n=some .local)
  (hsu:∀ x,PSs (X.hnd x) (b₀ :: suite) t) (hr:PH X rest tr) (hd:(y == ("__debug__":Str))=false:=by decide):PH X (.ExceptHandler (some (.Name y np)) (some n) (b₀ :: suite) pos::rest) (hAs X.K C' i t tr):=by
 intro pins s σ H D x cls d I hx h
 obtain ⟨C,b,rfl,hsub,q⟩:=h
 obtain ⟨f1,f2,vs,sl,T,f3,f4,f5⟩:=id hx
 obtain ⟨cd,hcd⟩:=hc.cl
 refine wpAny_handleBy_cons (codeAny_handlers_test (eo (X:=X.hnd x) I.hnd hg hm (excMatches_K I.kIn f3 hc.tu hcd hc.ex hsub ?_) hd)) (by intro z;cases z)
 cases b with
 | false=>exact hr pins s σ H D x _ d I hx q
 | true=>
  have J:Inv X pins σ (upd H x (XO x C d)) s:=I.track f1 f2 ⟨⟨vs,sl,f3⟩,⟨_,f3⟩,λ h1 h2 ⟨vs',sl',e⟩ k=>⟨vs',sl',k _ e⟩⟩
  refine codeAny_handlers_suite_as (flight_same f3 f4 (store_ok (v:=.ref x) J hN hi (.inl hk) rfl (λ s2 J2=>?_) (.inr hk)))
  refine iX (hsu x pins s2 _ _ _ J2.hnd (q x f1)) (λ f s3 z=>?_) λ _ _ z=>z.elim
  have z:=z.unhnd I.ok
  cases f with
  | next=>obtain ⟨σ',H',I',q'⟩:=z;exact gq I' hN hi hk λ s4 I4=>⟨_,H',I4,q'⟩
  | brk=>obtain ⟨σ',H',I',q'⟩:=z;exact gq I' hN hi hk λ s4 I4=>⟨_,H',I4,q'⟩
  | cont=>obtain ⟨σ',H',I',q'⟩:=z;exact gq I' hN hi hk λ s4 I4=>⟨_,H',I4,q'⟩
  | ret u=>obtain ⟨v,σ',H',I',r',q'⟩:=z;exact gq I' hN hi hk λ s4 I4=>⟨v,_,H',I4,r',q'⟩
noncomputable def tTry (tb:XK->TS) (th:TH):TS:=λ D σ H=>tb (λ cls d H'=>th D σ cls d H') D σ H
theorem ps_try {body:List Stmt} {h₀:ExceptHandler} {hs:List ExceptHandler} {pos:Pos} {tb:XK->TS} {th:TH} (hb:PSX X body tb) (hh:PH X (h₀ :: hs) th) (hex:X.ex=[]:=by rfl) (hstk:X.stack=X.env::X.outer:=by rfl) (hfr:X.env.frame=some X.env.locals:=by rfl) :
  PS X (.Try body (h₀ :: hs) [] [] pos) (tTry tb th):=by
 intro pins s σ H D I h
 refine wpAny_Try_except (iX (hb pins s σ H D _ I h) (λ f s1 q=>?_) λ e s1 q=>?_)
 ·cases f with
  | next=>exact wpAny_execs_nil q
  | ret v=>exact q
  | brk=>exact q
  | cont=>exact q
 ·obtain ⟨x,cls,d,H',rfl,I',⟨f1,f2,vs,sl,tr,f3,f4,f5⟩,q⟩:=q
  refine noted_ok (env:=X.env) (outer:=X.outer) (by rw [<- hstk];exact I'.ok.frames) (by rw [<- hstk];exact I'.stack) hfr f3 rfl f4 λ h' N=>?_
  have J:=I'.noted f1 f2 f5 (by rw [hstk];exact N)
  obtain ⟨vs',T,g1,_,g2,g3⟩:=N.exc
  exact hh pins _ σ H' D x cls d J ⟨f1,f2,vs',sl,T,g1,g3,I'.hok.fresh g2,I'.off hex (Heap.get?_none_of_le g2)⟩ q
end
end L2
namespace L2
open PySem PySem.Spec PyProof.Rows
noncomputable def FnB (P:Program) (w:World) (K:W.Frag) (mg:Str->Option Value) (base:Heap) (CX:CXT) (x:Str) (k:Nat) (ps:List Str) (sp:Sp):Prop:=
 ∃ f fd,mg x=some (.ref f)/\PySem.W.keepIn K (.ref f)=true/\Binds K fd ps []/\FnOk P w K mg base CX k f fd ps sp
noncomputable def MtB (P:Program) (w:World) (K:W.Frag) (mg:Str->Option Value) (base:Heap) (CX:CXT) (C:Addr) (m:Str) (k:Nat) (ps:List Str) (sp:Sp):Prop:=
 ∃ f fd,Meth K C m f/\Binds K fd ps []/\FnOk P w K mg base CX k f fd ps sp
noncomputable def MkB (P:Program) (w:World) (K:W.Frag) (mg:Str->Option Value) (base:Heap) (CX:CXT) (C:Addr) (k:Nat) (ps:List Str) (dvs:List V) (sp:Sp):Prop:=
 ∃ f fd ds,Mk K C f/\Binds K fd ps ds/\Vals dvs ds/\FnOk P w K mg base CX k f fd ps sp
theorem FnOk.up {P:Program} {w:World} {K:W.Frag} {mg:Str->Option Value} {base:Heap} {CX:CXT} {k:Nat} {f:Addr} {fd:FuncData} {ps:List Str} {sp:Sp} (F:FnOk P w K mg base CX0 k f fd ps sp):FnOk P w K mg base CX k f fd ps sp:=
 ⟨F.len,λ A outer s H args us vs Q E hr he hb hv hs=>codeAny_mono (F.run A outer s H args us vs Q E hr he hb hv hs) λ r s' h=>by
  cases r with
  | error e=>exact False.elim h
  | ok fl=>cases fl <;> exact h⟩
section
variable {P:Program} {w:World} {K:W.Frag} {mg:Str->Option Value} {base:Heap} {CX:CXT} {x m:Str} {C:Addr} {k:Nat} {ps:List Str} {sp:Sp} {dvs:List V}
theorem MtB.up (h:MtB P w K mg base CX0 C m k ps sp):MtB P w K mg base CX C m k ps sp:=by
 obtain ⟨f,fd,a,b,d⟩:=h
 exact ⟨f,fd,a,b,d.up⟩
end
section
variable {X:Cx} {CX:CXT} {k j:Nat} {C:Addr} {ps:List Str} {sp:Sp} {dvs:List V} {E:XK} {x m:Str} {p pos apos:Pos} {e o:Expr} {es:List Expr} {ta:TE} {t:TA}
theorem ay (F:FnB X.prog X.w X.K X.mg X.base CX x k ps sp) (hr:Room j X.A) (hx:cX CX X E) (ha:PA X (e::es) t) (hj:k<=j:=by decide) (hg:Gl X x:=by rfl) (hdb:(x == ("__debug__":Str))=false:=by decide)
  (he:starEach (e::es) X.env=(false,eval e X.env)::starEach es X.env:=by rfl) (hpl:(backTo pos (starEach es X.env)).any (·.1)=false:=by rfl):PE X (.Call (.Name x p) (e::es) [] pos) (tCall sp [] E t):=by
 obtain ⟨f,fd,a,b,c,d⟩:=F
 exact pe_call d (hr.mono hj) hg a b c .nil hx ha hdb he hpl
theorem gE (F:MkB X.prog X.w X.K X.mg X.base CX C k ps dvs sp) (hr:Room j X.A) (hm:X.mg x=some (.ref C)) (hx:cX CX X E) (ha:PA X (e::es) t) (hj:k+1<=j:=by decide) (hg:Gl X x:=by rfl) (hdb:(x == ("__debug__":Str))=false:=by decide)
  (he:starEach (e::es) X.env=(false,eval e X.env)::starEach es X.env:=by rfl) (hpl:(backTo pos (starEach es X.env)).any (·.1)=false:=by rfl):PE X (.Call (.Name x p) (e::es) [] pos) (tMake C sp dvs E t):=by
 obtain ⟨f,fd,ds,a,b,c,d⟩:=F
 exact pe_make a d (hr.mono hj) hg hm b c hx ha hdb he hpl
theorem px_fn (F:FnB X.prog X.w X.K X.mg X.base (CX1 X.prog X.w) x k ps sp) (hr:Room j X.A) (ha:PA X.nox (e::es) t) (hj:k<=j:=by decide) (hg:Gl X x:=by rfl) (hex:X.ex=[]:=by rfl) (hdb:(x == ("__debug__":Str))=false:=by decide)
  (he:starEach (e::es) X.env=(false,eval e X.env)::starEach es X.env:=by rfl) (hpl:(backTo pos (starEach es X.env)).any (·.1)=false:=by rfl):PX X (.Call (.Name x p) (e::es) [] pos) (λ E=>tCall sp [] E t):=by
 obtain ⟨f,fd,a,b,c,d⟩:=F
 exact px_call d (hr.mono hj) hg a b c .nil hex ha hdb he hpl
end
noncomputable def FDe (K:W.Frag) (mg:Str->Option Value) (x:Str) (st:Stmt) (ps:List Str):Prop:=∃ f fd,Fun K x x st f fd/\mg x=some (.ref f)/\Binds K fd ps []
noncomputable def MDe (K:W.Frag) (C:Addr) (x qual:Str) (st:Stmt) (ps:List Str):Prop:=∃ f fd,Fun K x qual st f fd/\Meth K C x f/\Binds K fd ps []
section
variable {P:Program} {w:World} {K:W.Frag} {mg:Str->Option Value} {base:Heap} {x qual:Str} {C:Addr} {st:Stmt} {N ps:List Str} {k:Nat} {sp:Sp}
theorem FDe.ok (F:FDe K mg x st ps) (S:FnScope N ps (af st)) (len:∀ vs H Q E,sp vs H Q E->vs.length=ps.length)
  (hbody:∀ (f:Addr) (cdv:Value) (A:Around) (outer:List Env) (s:Shared) (H:Hp) (vs:List V) (Q:VK) (E:XK),Room k (A.deeper (envOfC x (af st) s.heap.objs.size f cdv))->sp vs H Q E->
   ∃ t,PSs (aK CX0 P w K mg base N x (af st) f cdv A outer s H E).nox (ao st) t/\t { nx:=λ _ H'=>Q .non H',rt:=Q } (dY N vs) H):FnB P w K mg base CX0 x (k+1) ps sp:=
 let ⟨f,fd,a,b,c⟩:=F
 ⟨f,fd,b,a.kp,c,a.ok S len (hbody f)⟩
theorem MDe.ok (F:MDe K C x qual st ps) (S:FnScope N ps (af st)) (len:∀ vs H Q E,sp vs H Q E->vs.length=ps.length)
  (hbody:∀ (f:Addr) (cdv:Value) (A:Around) (outer:List Env) (s:Shared) (H:Hp) (vs:List V) (Q:VK) (E:XK),Room k (A.deeper (envOfC qual (af st) s.heap.objs.size f cdv))->sp vs H Q E->
   ∃ t,PSs (aK CX0 P w K mg base N qual (af st) f cdv A outer s H E).nox (ao st) t/\t { nx:=λ _ H'=>Q .non H',rt:=Q } (dY N vs) H):MtB P w K mg base CX0 C x (k+1) ps sp:=
 let ⟨f,fd,a,b,c⟩:=F
 ⟨f,fd,b,c,a.ok S len (hbody f)⟩
theorem FDe.okX (F:FDe K mg x st ps) (S:FnScope N ps (af st)) (len:∀ vs H Q E,sp vs H Q E->vs.length=ps.length)
  (hbody:∀ (f:Addr) (cdv:Value) (A:Around) (outer:List Env) (s:Shared) (H:Hp) (vs:List V) (Q:VK) (E:XK),Room k (A.deeper (envOfC x (af st) s.heap.objs.size f cdv))->sp vs H Q E->
   ∃ t,PSs (aK (CX1 P w) P w K mg base N x (af st) f cdv A outer s H E) (ao st) t/\t { nx:=λ _ H'=>Q .non H',rt:=Q } (dY N vs) H):FnB P w K mg base (CX1 P w) x (k+1) ps sp:=
 let ⟨f,fd,a,b,c⟩:=F
 ⟨f,fd,b,a.kp,c,a.okX S len (hbody f)⟩
theorem MDe.okX (F:MDe K C x qual st ps) (S:FnScope N ps (af st)) (len:∀ vs H Q E,sp vs H Q E->vs.length=ps.length)
  (hbody:∀ (f:Addr) (cdv:Value) (A:Around) (outer:List Env) (s:Shared) (H:Hp) (vs:List V) (Q:VK) (E:XK),Room k (A.deeper (envOfC qual (af st) s.heap.objs.size f cdv))->sp vs H Q E->
   ∃ t,PSs (aK (CX1 P w) P w K mg base N qual (af st) f cdv A outer s H E) (ao st) t/\t { nx:=λ _ H'=>Q .non H',rt:=Q } (dY N vs) H):MtB P w K mg base (CX1 P w) C x (k+1) ps sp:=
 let ⟨f,fd,a,b,c⟩:=F
 ⟨f,fd,b,c,a.okX S len (hbody f)⟩
end
noncomputable def FunG (K:W.Frag) (x qual:Str) (st:Stmt) (f:Addr) (fd:FuncData):Prop:=∃ (oc:Value) (od:Option Addr) (dV kV doc pm:Value) (an:Option Addr) (cdv ct:Value) (osl:Array (Option Value)),
  fd=PySem.W.fnOf x qual (ar st) (ao st) (af st) dV kV doc pm an cdv ct/\K.lookup f=some ⟨oc,od,.func fd,osl⟩/\PySem.W.codeIn K cdv qual=true
structure FunD (K:W.Frag) (x qual:Str) (st:Stmt) (f:Addr) (fd:FuncData) (ds:Array Value):Prop where
 ex:∃ (oc:Value) (od:Option Addr) (T:Addr) (kV doc pm:Value) (an:Option Addr) (cdv ct:Value) (osl:Array (Option Value)) (o:Obj) (n:Nat),
  fd=PySem.W.fnOf x qual (ar st) (ao st) (af st) (.ref T) kV doc pm an cdv ct/\K.lookup f=some ⟨oc,od,.func fd,osl⟩/\PySem.W.codeIn K cdv qual=true/\K.lookup T=some o/\o.data=.seq ds n
section
variable {P:Program} {w:World} {K:W.Frag} {mg:Str->Option Value} {base:Heap} {x qual:Str} {C:Addr} {st:Stmt} {f:Addr} {fd:FuncData} {ds:Array Value} {N ps:List Str} {k:Nat} {sp:Sp}
theorem FunD.gen (F:FunD K x qual st f fd ds):FunG K x qual st f fd:=by
 obtain ⟨oc,od,T,kV,doc,pm,an,cdv,ct,osl,_,_,e,l,c,_⟩:=F.ex
 exact ⟨oc,od,.ref T,kV,doc,pm,an,cdv,ct,osl,e,l,c⟩
theorem Fun.gen (F:Fun K x qual st f fd):FunG K x qual st f fd:=by
 obtain ⟨oc,od,kV,doc,pm,an,cdv,ct,osl,e,l,c⟩:=F.ex
 exact ⟨oc,od,.none,kV,doc,pm,an,cdv,ct,osl,e,l,c⟩
theorem FunD.binds {es:List Value} (F:FunD K x qual st f fd ds)
  (h:∀ (T:Addr) (kV doc pm:Value) (an:Option Addr) (cdv ct:Value) (us:List Value),(us++es).length=ps.length->∃ k,bindArgs (PySem.W.fnOf x qual (ar st) (ao st) (af st) (.ref T) kV doc pm an cdv ct) ⟨us,[]⟩=seqItems? (.ref T) >>= k/\k (some ds)=pure (ps.zip (us++es))):Binds K fd ps es:=by
 obtain ⟨oc,od,T,kV,doc,pm,an,cdv,ct,osl,o,n,rfl,lk,hcd,lt,hd⟩:=F.ex
 intro s us KX hl
 obtain ⟨k,h1,h2⟩:=h T kV doc pm an cdv ct us hl
 exact PySem.W.binds_K KX rfl lt hd h1 h2
theorem g7 {T:Addr} {oc:Value} {od an:Option Addr} {osl:Array (Option Value)} {kV doc pm cdv ct:Value} {o:Obj} {n:Nat} (l:K.lookup f=some ⟨oc,od,.func (PySem.W.fnOf x qual (ar st) (ao st) (af st) (.ref T) kV doc pm an cdv ct),osl⟩)
  (c:PySem.W.codeIn K cdv qual=true) (t:K.lookup T=some o) (hd:o.data=.seq ds n):FunD K x qual st f (PySem.W.fnOf x qual (ar st) (ao st) (af st) (.ref T) kV doc pm an cdv ct) ds:=⟨⟨oc,od,T,kV,doc,pm,an,cdv,ct,osl,o,n,rfl,l,c,t,hd⟩⟩
theorem FunG.ok (F:FunG K x qual st f fd) (S:FnScope N ps (af st)) (len:∀ vs H Q E,sp vs H Q E->vs.length=ps.length)
  (hbody:∀ (cdv:Value) (A:Around) (outer:List Env) (s:Shared) (H:Hp) (vs:List V) (Q:VK) (E:XK),Room k (A.deeper (envOfC qual (af st) s.heap.objs.size f cdv))->sp vs H Q E->
   ∃ t,PSs (aK CX0 P w K mg base N qual (af st) f cdv A outer s H E).nox (ao st) t/\t { nx:=λ _ H'=>Q .non H',rt:=Q } (dY N vs) H):FnOk P w K mg base CX0 (k+1) f fd ps sp:=by
 obtain ⟨oc,od,dV,kV,doc,pm,an,cdv,ct,osl,rfl,lk,hcd⟩:=F
 refine fn_of lk hcd S len λ A outer s H vs Q E hr hsp=>?_
 obtain ⟨t,h,q⟩:=hbody cdv A outer s H vs Q E hr hsp
 exact ⟨t,h.nox,q⟩
noncomputable def IDe (K:W.Frag) (C:Addr) (qual:Str) (st:Stmt) (ps:List Str) (dvss:List (List V)):Prop:=∃ f fd,FunG K "__init__" qual st f fd/\Mk K C f/\∀ dvs∈dvss,∃ es,Vals dvs es/\Binds K fd ps es
theorem IDe.ok {dvss:List (List V)} (F:IDe K C qual st ps dvss) (S:FnScope N ps (af st)) (len:∀ vs H Q E,sp vs H Q E->vs.length=ps.length)
  (hbody:∀ (f:Addr) (cdv:Value) (A:Around) (outer:List Env) (s:Shared) (H:Hp) (vs:List V) (Q:VK) (E:XK),Room k (A.deeper (envOfC qual (af st) s.heap.objs.size f cdv))->sp vs H Q E->
   ∃ t,PSs (aK CX0 P w K mg base N qual (af st) f cdv A outer s H E).nox (ao st) t/\t { nx:=λ _ H'=>Q .non H',rt:=Q } (dY N vs) H):∀ dvs∈dvss,MkB P w K mg base CX0 C (k+1) ps dvs sp:=λ dvs hd=>
 let ⟨f,fd,a,b,c⟩:=F
 let ⟨es,v,d⟩:=c dvs hd
 ⟨f,fd,es,b,d,v,a.ok S len (hbody f)⟩
end
end L2
namespace L2
open PySem PySem.Spec PyProof.Rows PySem.W PySem.Calls
theorem weight_mem:∀ (ns:List Int) (n:Int),n∈ns->Builtin.Int.intBits n<=WData.weightAll (ns.map WData.int)
 | m::r,n,h=>by
  rw [jp]
  show Builtin.Int.intBits n<=WData.weight (.int m)+1+WData.weightAll (r.map WData.int)
  rcases iw.mp h with z | z
  ·subst z
   have:WData.weight (.int n)=Builtin.Int.intBits n:=by
    simp only [WData.weight,Builtin.Int.intBits]
   omega
  ·have:=weight_mem r n z
   omega
theorem bits_of_lay {ns:List Int} (h:WData.layableAll [WData.list (ns.map WData.int)]=true):∀ n∈ns,Builtin.Int.intBits n<=2 ^ 20:=λ n hn=>by
 have h1:(WData.list (ns.map WData.int)).layable=true:=by
  unfold WData.layableAll at h
  simpa using h
 have h2:=(layableW_iff.mp h1).2.2
 have h3:=weight_mem ns n hn
 exact ie h3 h2
theorem walk_ofB {l:PySem.W.OpenLaw} {n k:Nat} {q:Program} {loose:List Str} {XP:(Str->Option Value)->Heap->Prop} {YP:World->Heap->Prop} {d:DefRec} {K:Params->W.Frag} {CX:World->CXT} {sp:World->Sp} {x:Str}
  (hn:l.most=some n) (hn2:n<=sizeLine) (hdf:d.params.defaults=[]) (hr:Room k callerA)
  (hY:∀ (w:World) (h:Heap),YP w h->(K w.params).In h)
  (F:∀ (w:World) (mg:Str->Option Value) (fa:Addr) (h:Heap),(K w.params).In h->h.Ns mainGlobals mg->mg d.name=some (.ref fa)->
   ∃ fd:FuncData,(∀ (s:Shared) (u:Value),BindsTo s fd ⟨[u],[]⟩ [(x,u)])/\
    ∀ base:Heap,(K w.params).In base->base.Ns mainGlobals mg->FnOk l.prog w (K w.params) mg base (CX w) k fa fd [x] (sp w))
  (hsp:∀ (w:World) (H:Hp) (a:Addr) (ns:List Int),ns.length<=n->(∀ i∈ns,Builtin.Int.intBits i<=2 ^ 20)->Only H->SqL (K w.params) H a (ns.map V.int)->sp w [.ref a] H (λ v _=>v=.bl true) λ _ _ _=>False)
  (hCX:∀ (w:World) (H:Hp) (s:Shared) (e:Value) (s':Shared),CX w [] H s (λ _ _ _=>False) e s'->False) :
  PySem.W.WalkO q loose XP YP l.row.toRowW d [] (λ f vs=>PySem.call f vs):=by
 intro w s₀ s₁ mg mb G Y fa o pm cd doc dV kV ho hd hcd hD hmg hg args vals as hpre hlay hrd hwl hlo
 obtain rfl:dV=.none:=Dflts.none hD hdf
 obtain rfl:kV=.none:=Dflts.noKw hD
 obtain ⟨a,vs,ns,rfl,rfl,hobj,hints,hlen⟩:=Att.script_of hn hpre hwl
 have hbits:=bits_of_lay hlay
 have KX:=hY w _ Y
 obtain ⟨fd,hb,hF⟩:=F w mg fa _ KX G.T.g hmg
 refine enter_call (codeAny_mono (law_call KX G.T.g G.T.b G.T.builtins G.T.nolimit hg hobj hints (ie hlen hn2) hr hF hb (λ H hO hS=>hsp w H a ns hlen hbits hO hS) λ H e s'=>hCX w H s₁ e s') λ r s' hq=>?_)
 obtain ⟨rfl,h2,h3,h4⟩:=hq
 exact ⟨.inl ⟨.bool true,.bool true,[],rfl,λ _=>rfl,.bool true,Att.post_true l _,λ _=>⟨List.Pairwise.nil,λ _ hm=>(nomatch hm)⟩⟩,h2,h3,h4⟩
section
variable {X:Cx}
end
end L2
namespace L2
open PySem PySem.Spec PyProof.Rows
section
variable {prog:Program} {w:World} {A:Around} {E:Value->Shared->Prop} {s:Shared} {K:W.Frag} {x D:Addr} {ox:Obj} {od:Option Obj} {name:Str}
structure ExA (K:W.Frag) (D:Addr):Prop where
 ga:PySem.W.findIn K (.ref D) "__getattribute__"=some (some (.builtin "BaseException.__getattribute__"))
 gh:PySem.W.findIn K (.ref D) "__getattr__"=some none
 be:PySem.W.mroIn K D (.type "BaseException")=some true
 ca:PySem.W.findIn K (.ref D) "__class__"=some (some (.builtin "object.__class__"))
 gs:PySem.W.specialIn K (.builtin "object.__class__") "__get__"=some (some (.builtin "getset_descriptor.__get__"))
 tk:PySem.W.takesIn K (.builtin "object.__class__")=some true
 ob:PySem.W.mroIn K D (.type "object")=some true
 cl:∃ cd,PySem.W.clsIn K D=some cd
theorem exc_check {nameV:Value} {Q:Unit->Shared->Prop} (a:ExA K D) (X:K.In s.heap) (I:PySem.W.InstAt s.heap x ox D od) (hq:Q () s):wpAny (model prog w) A (checkBuiltinCall "BaseException.__getattribute__" ⟨[.ref x,nameV],[]⟩) Q E s:=by
 have hk:builtinKind "BaseException.__getattribute__"=some .slot:=by decide +kernel
 have hsplit:splitId "BaseException.__getattribute__"=some ("BaseException","__getattribute__"):=by decide +kernel
 have ha:=F.args_bexc_ga (.ref x) nameV
 have LI:PySem.W.Looks (model prog w) s.heap (isInstance (.ref x) (.type "BaseException")) true:=I.type.andThen (PySem.W.looks_mroIn X a.be)
 obtain ⟨hh,g,d,t,os⟩:=s
 simp only [checkBuiltinCall,hk,hsplit]
 refine hU (LI.at ?_)
 repeat (first | assumption | wp_step)
theorem exc_call_val {tk:Tok} {v:Value} {R:Result->Shared->Prop} (a:ExA K D) (X:K.In s.heap) (I:PySem.W.InstAt s.heap x ox D od) (hf:PySem.W.findObj K D od name=some (.value v)) (hq:R (.ok (.ret v)) s) :
  codeAny (model prog w) A (.call (.builtin "BaseException.__getattribute__") ⟨[.ref x,.str name tk],[]⟩) R s:=by
 refine codeAny_call_builtin F.excAttr_ValueError.ga.plain F.entry_bexc_ga (exc_check a X I ?_)
 have L0:=I.type (M:=model prog w)
 have L1:=PySem.W.looks_find (M:=model prog w) X I hf
 obtain ⟨hh,g,d,t,os⟩:=s
 refine hU (ip ?_)
 refine hU (ip ?_)
 refine hU (L0.at (hU (L1.at ?_)))
 exact ip hq
theorem exc_by {tk:Tok} {fill expr:Bool} {v:Value} {Q:Value->Shared->Prop} (a:ExA K D) (X:K.In s.heap) (I:PySem.W.InstAt s.heap x ox D od) (hv:PySem.W.handedIn v=true)
  (h:∀ (A:Around) (R:Result->Shared->Prop),R (.ok (.ret v)) s->codeAny (model prog w) A (.call (.builtin "BaseException.__getattribute__") ⟨[.ref x,.str name tk],[]⟩) R s) (q:Q v s) :
  wpAny (model prog w) A (getAttrBy (.ref x) (.str name tk) fill expr) Q E s:=by
 have L0:=I.type (M:=model prog w)
 have L1:=PySem.W.looks_findIn (M:=model prog w) X a.ga
 have L2:=PySem.W.looks_findIn (M:=model prog w) X a.gh
 have f3:=F.excAttr_ValueError.ga.bind (.ref x)
 obtain ⟨hh,g,d,t,os⟩:=s
 unfold getAttrBy
 refine wpAny_holding (hU (L0.at (hU (L1.at ?_))))
 have hx2:(Value.builtin "BaseException.__getattribute__" == Value.builtin "object.__getattribute__")=false:=by decide +kernel
 have hx0:(expr && onTheHeap (Value.builtin "BaseException.__getattribute__"))=false:=by cases expr <;> rfl
 dsimp only
 rw [hx2,Bool.and_false]
 simp only [jF,if_false]
 unfold getAttrByItsOwn hookBefore callGetattribute boundAndCalled
 rw [hx0]
 simp only [jF,if_false,onTheHeap,if_true]
 refine hU (L2.at ?_)
 refine hU (wpAny_attempt (wpAny_holding ?_))
 rw [f3]
 refine hU (ip ?_)
 refine wpAny_call (h _ _ ?_)
 exact PySem.W.handed_on hv q
end
section
variable {X:Cx}
noncomputable def eqVs:List V->List V->Bool
 | [],[]=>true
 | x::xs,y::ys=>eqV x y && eqVs xs ys
 | _,_=>false
theorem eqVs_len:∀ {xs ys:List V},xs.length≠ys.length->eqVs xs ys=false
 | [],[],h=>absurd rfl h
 | [],_::_,_=>rfl
 | _::_,[],_=>rfl
 | x::xs,y::ys,h=>by
  show (eqV x y && eqVs xs ys)=false
  rw [eqVs_len (λ z=>h (i7 (· + 1) z)),Bool.and_false]
noncomputable def eqAtJ (xs ys:List V) (j:Nat):Bool:=match xs[j]?,ys[j]? with | some x,some y=>eqV x y | _,_=>true
theorem eqVs_all:∀ {xs ys:List V},xs.length=ys.length->(List.range xs.length).all (eqAtJ xs ys)=eqVs xs ys
 | [],[],_=>rfl
 | x::xs,y::ys,h=>by
  rw [ja,List.range_succ_eq_map,List.all_cons,List.all_map]
  show (eqV x y && _)=(eqV x y && eqVs xs ys)
  rw [<- eqVs_all (Nat.succ.inj h)]
  rfl
theorem vals_at {xs:List V} {us:List Value} (r:Vals xs us):∀ {j:Nat} {x:V} {u:Value},xs[j]?=some x->us[j]?=some u->RelV x u:=by
 induction r with
 | nil=>intro j x u h;cases h
 | cons r1 _ ih=>
  intro j x u h1 h2
  cases j with
  | zero=>cases h1;cases h2;exact r1
  | succ j=>exact ih h1 h2
end
end L2
namespace L2
open PySem PySem.Spec PyProof.Rows
inductive ItMethD (P:Program) (w:World) (K:W.Frag) (mg:Str->Option Value) (base:Heap) (CX:CXT) (m:Str) (j:Nat) (E:XK) (t:TA) (σ:St) (Q:VK) (x:V) (H1:Hp):Prop
 | mk (a:_) (C:_) (dx:_) (fs:_) (k:_) (ps:_) (sp:_) (h1:x=.ref a) (h2:H1 a=some (.ins C dx fs)) (h3:fs.lookup m=none) (h4:Cls K C) (h5:k<=j) (h6:MtB P w K mg base CX C m k ps sp) (h7:t σ H1 λ vs H2=>sp ((.ref a::vs)++[]) H2 Q E):ItMethD P w K mg base CX m j E t σ Q x H1
noncomputable def tMethD (P:Program) (w:World) (K:W.Frag) (mg:Str->Option Value) (base:Heap) (CX:CXT) (m:Str) (j:Nat) (E:XK) (ta:TE) (t:TA):TE:=λ σ H Q=>ta σ H λ x H1=>ItMethD P w K mg base CX m j E t σ Q x H1
structure ClsRd (K:W.Frag) (C:Addr):Prop where
 rd:PySem.W.readsIn K C (.type "type")=true
 sg:PySem.W.specialIn K (.ref C) "__getattribute__"=some (some (.builtin "type.__getattribute__"))
noncomputable def CfB (P:Program) (w:World) (K:W.Frag) (mg:Str->Option Value) (base:Heap) (CX:CXT) (C:Addr) (m:Str) (k:Nat) (ps:List Str) (sp:Sp):Prop:=
 ∃ f fd,ClsRd K C/\PySem.W.findCls K (.ref C) (.type "type") m=some (.val (.ref f))/\PySem.W.keepIn K (.ref f)=true/\Binds K fd ps []/\FnOk P w K mg base CX k f fd ps sp
section
variable {X:Cx} {CX:CXT} {k j:Nat} {C:Addr} {ps:List Str} {sp:Sp} {E:XK} {x m:Str} {p pos apos:Pos} {e o:Expr} {es:List Expr} {ta:TE} {t:TA}
theorem pe_mtD {pl:Sem Bool} (he:PE X o ta) (hr:Room j X.A) (hx:cX CX X E) (ha:PA X (e::es) t)
  (hst:starEach (e::es) X.env=(false,eval e X.env)::starEach es X.env:=by rfl) (hpl:(backTo pos (starEach es X.env)).any (·.1)=false:=by rfl)
  (ht:eval (.Call (.Attribute o m apos) (e::es) [] pos) X.env=(do
   let ov <- eval o X.env
   standAt apos.atName
   let (f,first) <- holding [ov] (getMethod ov m pl)
   callWith pos f first (backTo pos (starEach (e::es) X.env)) (backToKw pos (keywordEach [] X.env))):=by rfl):PE X (.Call (.Attribute o m apos) (e::es) [] pos) (tMethD X.prog X.w X.K X.mg X.base CX m j E ta t):=by
 intro pins s σ H Q I h
 refine jN (pl:=pl) (thn (he pins s σ H _ I h) λ u s1 ⟨x,H1,I1,rx,a,C,dx,fs,k,ps,sp,ex,ea,l,c,hj,⟨f,fd,hm,hb,F⟩,q⟩=>?_) ht
 subst ex
 obtain rfl:u=Value.ref a:=rx
 refine fN I1 ea c hm l ?_
 refine jO (first:=[.ref a]) (h₀:=X.base) I.ok.mod.kin hm.kp (thn (ha pos pins s1 σ H1 _ I1 q) λ us s2 ⟨vs,H2,I2,r,q2⟩=>⟨I2.kIn,?_⟩) hst hpl
 exact run_fn (us:=.ref a::us) (vs:=.ref a::vs) F (hr.mono hj) hb .nil hx I2 (.cons rfl r) q2
theorem eU {pl:Sem Bool} (he:PE X o ta) (hr:Room j X.A) (hx:cX CX X E)
  (ht:eval (.Call (.Attribute o m apos) [] [] pos) X.env=(do
   let ov <- eval o X.env
   standAt apos.atName
   let (f,first) <- holding [ov] (getMethod ov m pl)
   callWith pos f first (backTo pos (starEach [] X.env)) (backToKw pos (keywordEach [] X.env))):=by rfl):PE X (.Call (.Attribute o m apos) [] [] pos) (tMethD X.prog X.w X.K X.mg X.base CX m j E ta tNil):=by
 intro pins s σ H Q I h
 refine jN (pl:=pl) (thn (he pins s σ H _ I h) λ u s1 ⟨x,H1,I1,rx,a,C,dx,fs,k,ps,sp,ex,ea,l,c,hj,⟨f,fd,hm,hb,F⟩,q⟩=>?_) ht
 subst ex
 obtain rfl:u=Value.ref a:=rx
 refine fN I1 ea c hm l ?_
 exact PySem.W.callWith_K0 (first:=[.ref a]) I1.kIn hm.kp (run_fn (us:=[.ref a]) (vs:=[.ref a]) F (hr.mono hj) hb .nil hx I1 (.cons rfl .nil) q)
theorem pe_cf {np:Pos} {pl:Sem Bool} (F:CfB X.prog X.w X.K X.mg X.base CX C m k ps sp) (hr:Room j X.A) (hm:X.mg x=some (.ref C)) (hx:cX CX X E) (ha:PA X (e::es) t) (hj:k<=j:=by decide) (hg:Gl X x:=by rfl) (hdb:(x == ("__debug__":Str))=false:=by decide)
  (hst:starEach (e::es) X.env=(false,eval e X.env)::starEach es X.env:=by rfl) (hpl:(backTo pos (starEach es X.env)).any (·.1)=false:=by rfl)
  (ht:eval (.Call (.Attribute (.Name x np) m apos) (e::es) [] pos) X.env=(do
   let ov <- eval (.Name x np) X.env
   standAt apos.atName
   let (f,first) <- holding [ov] (getMethod ov m pl)
   callWith pos f first (backTo pos (starEach (e::es) X.env)) (backToKw pos (keywordEach [] X.env))):=by rfl):PE X (.Call (.Attribute (.Name x np) m apos) (e::es) [] pos) (tCall sp [] E t):=by
 intro pins s σ H Q I h
 obtain ⟨f,fd,c,hf,hk,hb,F⟩:=F
 refine jN (pl:=pl) (eo I hg hm ?_ hdb) ht
 refine PySem.W.method_cls I.kIn c.sg (PySem.W.cls_value I.kIn c.rd hf rfl ?_)
 have I1:=I.tok (s.toks+1)
 refine jO (first:=[]) (h₀:=X.base) I.ok.mod.kin hk (thn (ha pos pins _ σ H _ I1 h) λ us s2 ⟨vs,H2,I2,r,q2⟩=>⟨I2.kIn,?_⟩) hst hpl
 exact run_fn (us:=us) (vs:=vs) F (hr.mono hj) hb .nil hx I2 r q2
noncomputable def rRepS:R2:=λ x y H Q=>∃ z n,x=.str z/\y=.int n/\z.length=1/\n.natAbs<1000/\Q (.str (Txt.mul z n)) H
theorem op_rep_str:OpR X (binaryOp .Mult) rRepS:=by
 intro pins s σ H x y v u Q I rx ry h
 obtain ⟨z,n,rfl,rfl,hz,hn,q⟩:=h
 obtain ⟨t,rfl⟩:=rx
 obtain ⟨t',rfl⟩:=ry
 refine SB.mul ⟨?_,λ h1 _=>?_,λ h1 _=>?_⟩ λ t' tk=>⟨.str _,H,I.tok _,⟨_,rfl⟩,q⟩
 ·simp;omega
 ·rw [hz]
  have:(1:Int)<=(2 ^ 63-1) / n:=Int.le_ediv_of_mul_le (by omega) (by omega)
  omega
 ·rw [hz]
  unfold Builtin.Str.tooLong
  simp only [iK,gt_iff_lt,decide_eq_false_iff_not]
  omega
end
section
variable {P:Program} {w:World} {K:W.Frag} {mg:Str->Option Value} {base:Heap} {x qual:Str} {C:Addr} {st:Stmt} {N ps:List Str} {k:Nat} {sp:Sp}
noncomputable def CDe (K:W.Frag) (C:Addr) (qual:Str) (st:Stmt) (ps:List Str):Prop:=∃ f fd,FunG K "__init__" qual st f fd/\ClsRd K C/\PySem.W.findCls K (.ref C) (.type "type") "__init__"=some (.val (.ref f))/\PySem.W.keepIn K (.ref f)=true/\Binds K fd ps []
theorem CDe.ok (F:CDe K C qual st ps) (S:FnScope N ps (af st)) (len:∀ vs H Q E,sp vs H Q E->vs.length=ps.length)
  (hbody:∀ (f:Addr) (cdv:Value) (A:Around) (outer:List Env) (s:Shared) (H:Hp) (vs:List V) (Q:VK) (E:XK),Room k (A.deeper (envOfC qual (af st) s.heap.objs.size f cdv))->sp vs H Q E->
   ∃ t,PSs (aK CX0 P w K mg base N qual (af st) f cdv A outer s H E).nox (ao st) t/\t { nx:=λ _ H'=>Q .non H',rt:=Q } (dY N vs) H):CfB P w K mg base CX0 C "__init__" (k+1) ps sp:=
 let ⟨f,fd,a,b,c,d,e⟩:=F
 ⟨f,fd,b,c,d,e,a.ok S len (hbody f)⟩
end
end L2
namespace L2
open PySem PySem.Spec PyProof.Rows
section
variable {prog:Program} {w:World} {A:Around} {E:Value->Shared->Prop} {s:Shared}
end
section
variable {X:Cx} {pos:Pos}
end
end L2
namespace L2
open PySem PySem.Spec PyProof.Rows
noncomputable def gO (P:Program) (w:World) (K:W.Frag) (mg:Str->Option Value) (base:Heap) (qual:Str) (st:Stmt) (N:List Str) (k:Nat) (sp:Sp):Prop:=
 ∀ (f:Addr) (cdv:Value) (A:Around) (outer:List Env) (s:Shared) (H:Hp) (vs:List V) (Q:VK) (E:XK),Room k (A.deeper (envOfC qual (af st) s.heap.objs.size f cdv))->sp vs H Q E->
  ∃ t,PSs (aK CX0 P w K mg base N qual (af st) f cdv A outer s H E).nox (ao st) t/\t { nx:=λ _ H'=>Q .non H',rt:=Q } (dY N vs) H
end L2
namespace L2
open PySem PySem.Spec PyProof.Rows
section
variable {prog:Program} {w:World} {A:Around} {E:Value->Shared->Prop} {h:Heap} {g:Array GenState} {d:Drawn} {t:Nat} {os:OsState}
variable {nm q:Str} {C N:Addr} {bs bm bmB:List Value} {hdct:Bool} {sn:List Str} {sub:List Value} {ab:Bool} {col:Option Bool} {dd:Option Addr} {k0 k1 k2 k3 k5:Option Value} {B newId initId:String}
theorem type_call_initT (F:ExcBaseFacts B newId initId bmB) (T:OwnTail h bmB bm) {mN:Str->Option Value} {rest:List Value} {fI:Addr} {oI:Obj} {Q:Fin->Shared->Prop}
  (hC:h.get? C=some (excClassObj nm q C N bs bm hdct sn sub ab col dd k0 k1 k2 k3 k5 newId)) (hn:h.Ns N mN) (hi:mN "__init__"=some (.ref fI))
  (hfI:h.get? fI=some oI) (hfc:oI.cls=.type "function")
  (hq:∀ h' e,Heap.MadeExcOf h h' e (.ref C) rest->
   wpAny (model prog w) A (call (.ref fI) (.ref e::rest)) (λ r s'=>r=.none/\Q (.done (.ret (.ref e))) s') E ⟨h',g,d,t,os⟩) (hrest:rest.length<=sizeLine:=by size_fits) :
  wpAny (model prog w) A (Builtin.«type.__call__» ⟨.ref C::rest,[]⟩) Q E ⟨h,g,d,t,os⟩:=by
 repeat (first | with_reducible refine wpAny_loadPart_at hC ?_ | with_reducible refine wpAny_madeBy_exc hC ?_ | wp_step)
 refine codeAny_call_builtin_code (Code.quiet_builtin _ F.quiet) (wpAny_check_new_subT F T hC ?_)
 refine codeAny_exc_new_subT F T hC ?_ hrest
 show wpAny _ _ _ _ _ _
 have hC₁:=ia { cls:=.ref C,data:=.fields #[.ref h.objs.size,.none,.none,.none,.bool false,.none] }
  (ia { cls:=.type "tuple",data:=.seq rest.toArray } hC)
 have hfI₁:=ia { cls:=.ref C,data:=.fields #[.ref h.objs.size,.none,.none,.none,.bool false,.none] }
  (ia { cls:=.type "tuple",data:=.seq rest.toArray } hfI)
 have hn₁:((h.push { cls:=.type "tuple",data:=.seq rest.toArray }).push { cls:=.ref C,data:=.fields #[.ref h.objs.size,.none,.none,.none,.bool false,.none] }).Ns N mN:=
  let ⟨o,es,ep,e,r⟩:=hn;⟨o,es,ep,ia _ (ia _ e),r⟩
 have hget:((h.push { cls:=.type "tuple",data:=.seq rest.toArray }).push
   { cls:=.ref C,data:=.fields #[.ref h.objs.size,.none,.none,.none,.bool false,.none] }).get? (h.objs.size+1)=some
   { cls:=.ref C,data:=.fields #[.ref h.objs.size,.none,.none,.none,.bool false,.none] }:=by heap_get
 have hcC:(Value.ref C::bm).contains (.ref C)=true:=by simp
 have T₁:=T.keeps (h':=(h.push { cls:=.type "tuple",data:=.seq rest.toArray }).push { cls:=.ref C,data:=.fields #[.ref h.objs.size,.none,.none,.none,.bool false,.none] })
  λ b o e=>ia _ (ia _ e)
 unfold isInstance
 repeat (first | with_reducible refine wpAny_loadPart_at hget ?_ | (with_reducible refine wpAny_isSubtype_exc hC₁ ?_;rw [hcC]) | wp_step)
 show wpAny _ _ (typeLookup (.ref C) _) _ _ _
 refine wpAny_typeLookup_tail hC₁ hn₁ T₁ F.mroIs F.init.lookup ?_
 rw [hi]
 refine wpAny_holding (hU ?_)
 unfold bindSpecial
 refine hU (wpAny_typeOf (T:="function") ⟨_,hfI₁,hfc⟩ ?_)
 rw [if_pos (by decide)]
 refine ip (hU (iX (hq _ (h.objs.size+1) ⟨λ b o hb=>ia _ (ia _ hb),Heap.get?_none_of_le (Nat.le_succ _),h.objs.size,hget,Heap.get?_none_of_le (ic _),?_⟩) (λ r s' hr=>?_) λ _ _ x=>x))
 ·exact ia _ (Heap.get?_push_at rfl rfl)
 ·obtain ⟨rfl,hQ⟩:=hr
  wp_walk
  exact hQ
theorem call_initT (F:ExcBaseFacts B newId initId bmB) (T:OwnTail h bmB bm) {mN:Str->Option Value} {rest:List Value} {fI:Addr} {oI:Obj} {Q:Value->Shared->Prop}
  (hC:h.get? C=some (excClassObj nm q C N bs bm hdct sn sub ab col dd k0 k1 k2 k3 k5 newId)) (hn:h.Ns N mN) (hi:mN "__init__"=some (.ref fI))
  (hfI:h.get? fI=some oI) (hfc:oI.cls=.type "function")
  (hq:∀ h' e,Heap.MadeExcOf h h' e (.ref C) rest->
   wpAny (model prog w) (A.under (.builtin "type.__call__" ⟨.ref C::rest,[]⟩)) (call (.ref fI) (.ref e::rest)) (λ r s'=>r=.none/\Q (.ref e) s') E ⟨h',g,d,t,os⟩) (hrest:rest.length<=sizeLine:=by size_fits) :
  wpAny (model prog w) A (call (.ref C) rest) Q E ⟨h,g,d,t,os⟩:=by
 have f1:=tc_lookup
 have f2:=tc_bind (.ref C)
 have hT:(⟨h,g,d,t,os⟩:Shared).TypeIs (.ref C) "type":=⟨_,hC,rfl⟩
 refine wpAny_call (codeAny_of_tree ?_)
 show wpAny _ _ (callAny (.ref C) _) _ _ _
 repeat (any_goals (first | assumption | with_reducible refine wpAny_loadPart_at hC ?_ | wp_step))
 refine ⟨rfl,?_⟩
 refine codeAny_call_builtin_at (Code.quiet_builtin _ (by decide +kernel)) entry_typeCall (wpAny_check_type_call_sub hC (type_call_initT (hrest:=hrest) F T hC hn hi hfI hfc λ h' e hm=>?_))
 exact hq h' e hm
end
end L2
namespace L2
open PySem PySem.Spec PyProof.Rows
open Builtin Builtin.ObjectAttr
section
theorem refuse_bmV (self:Value):refuseLoop self "__setattr__" bmV=pure ():=by kernel_rfl
structure ExI (K:W.Frag) (C:Addr):Prop where
 cl:∃ (cd:ClassData) (tl:List Addr),PySem.W.clsIn K C=some cd/\cd.mro=tl.map Value.ref++bmV/\cd.hasDict=true
 sa:PySem.W.findIn K (.ref C) "__setattr__"=some (some (.builtin "object.__setattr__"))
theorem refuse_tail (self:Value):∀ tl:List Addr,refuseLoop self "__setattr__" (tl.map Value.ref++bmV)=pure ()
 | []=>refuse_bmV self
 | a::tl=>by
  rw [jp,List.cons_append,refuseLoop_ref]
  exact refuse_tail self tl
variable {prog:Program} {w:World} {A:Around} {E:Value->Shared->Prop} {s:Shared} {K:W.Frag} {x C:Addr} {o:Obj} {od:Option Obj} {name:Str} {v:Value}
theorem exc_open {tk:Tok} {R:Result->Shared->Prop} (X:K.In s.heap) (I:PySem.W.InstAt s.heap x o C od) (F:ExI K C) (n:NoAttr K C name)
  (h:∀ b,wpAny (model prog w) A.in1 (storeInOwnDict (.ref x) (.ref C) (.str name tk) name v b)
   (λ fin s'=>match fin with | .done f=>R (.ok f) s' | .again c'=>c'.quiet=true/\codeAny (model prog w) A c' R s') (λ e s'=>R (.error e) s') s) :
  codeAny (model prog w) A (.call (.builtin "object.__setattr__") ⟨[.ref x,.str name tk,v],[]⟩) R s:=by
 have SF:=PySem.F.store_object
 obtain ⟨cd,tl,hc,hm,hd⟩:=F.cl
 have has:cd.mro.contains (.type "object")=true:=by rw [hm];simp
 have ne:cd.mro.isEmpty=false:=by rw [hm];simp
 have sub:PySem.W.Looks (model prog w) s.heap (isInstance (.ref x) (.type "object")) true:=I.type.andThen (PySem.W.looks_mroIn X (by unfold PySem.W.mroIn;rw [hc,Option.bind_some,if_neg (by rw [ne];decide),has]))
 refine codeAny_call_builtin SF.slot.plain SF.entry (@PySem.W.check_slot (model prog w) _ _ s "object.__setattr__" "object" "__setattr__" (.ref x) [.str name tk,v] [] _ SF.kind SF.split sub (SF.args (.ref x) (.str name tk) v) ?_)
 obtain ⟨attr,ha,hr⟩:=Option.bind_eq_some_iff.mp n.taker
 have hmr:PySem.W.Looks (model prog w) s.heap (mroOf (.ref C)) cd.mro:=(PySem.W.looks_clsIn X hc).andThen .now
 have L3:PySem.W.Looks (model prog w) s.heap (storeTaker? attr) none:=by
  cases attr with
  | none=>cases hr;exact .now
  | some a=>
   obtain ⟨b,hb,hr⟩:=Option.map_eq_some_iff.mp hr
   refine (PySem.W.looks_takesIn X hb).andThen ?_
   cases b with
   | true=>cases hr
   | false=>exact .now
 rw [PySem.W.osa_eq,refuse_eq]
 refine hU (hU (I.type.here (hU (hmr.here ?_))))
 rw [hm,refuse_tail]
 refine ip (hU (I.type.here (hU ((PySem.W.looks_findIn X ha).here (hU (L3.here ?_))))))
 exact h _
theorem exc_set0 {Q:Unit->Shared->Prop} (X:K.In s.heap) (F:ExI K C) (n:NoAttr K C name) (hx:s.heap.get? x=some o) (hc:o.cls=.ref C) (hnc:∀ c,o.data≠.cls c) (hdn:o.dict=none)
  (hq:∀ h' tk',h'.get? x=some { cls:=o.cls,dict:=some s.heap.objs.size,data:=o.data,slots:=o.slots }->h'.Ns1 s.heap.objs.size (λ y=>if y=name then some v else none)->
   (∀ b ob,b≠x->s.heap.get? b=some ob->h'.get? b=some ob)->Q () { s with heap:=h',toks:=tk' }) :
  wpAny (model prog w) A (setAttr (.ref x) name v) Q E s:=by
 have hno:PySem.W.notCls o=true:=by
  unfold PySem.W.notCls
  split
  ·rename_i c e
   exact absurd e (hnc c)
  ·rfl
 have I:PySem.W.InstAt s.heap x o C none:=⟨hx,hc,hno,by rw [hdn];trivial⟩
 refine PySem.W.set_plain X I F.sa (exc_open (s:={ s with toks:=s.toks+1 }) X I F n λ b=>?_)
 obtain ⟨cd,tl,hcl,hm,hd⟩:=F.cl
 obtain ⟨h,g,d,t,os⟩:=s
 dsimp only at hx X hq
 have hx₁:(h.push { cls:=.type "dict",data:=.dict #[] }).get? x=some o:=ia _ hx
 have hxs:x≠h.objs.size:=iI (ik hx)
 unfold storeInOwnDict ownDictForStores instanceDict
 refine hU (ip (hU (hU (wpAny_loadPart hx ?_))))
 rw [hc]
 refine hU ((PySem.W.looks_clsIn X hcl).at ?_)
 rw [hd,hdn]
 simp only [Bool.not_true,jF,if_false]
 have hth:typeHasDict (.ref C)=true:=by simp [typeHasDict]
 rw [hth]
 simp only [Bool.not_true,Bool.or_self,jF,if_false]
 refine hU (wpAny_alloc' (hU (wpAny_update' hx₁ (ip ?_))))
 have hgd:((h.push { cls:=.type "dict",data:=.dict #[] }).update x λ o=>{ cls:=o.cls,dict:=some h.objs.size,data:=o.data,slots:=o.slots }).get? h.objs.size
   = some { cls:=.type "dict",data:=.dict #[] }:=
  (Heap.get?_update_ne _ _ _ _ hxs.symm).trans (Heap.get?_push_at rfl rfl)
 have hnd:((h.push { cls:=.type "dict",data:=.dict #[] }).update x λ o=>{ cls:=o.cls,dict:=some h.objs.size,data:=o.data,slots:=o.slots }).Ns h.objs.size (λ _=>none):=
  ⟨_,#[],_,hgd,rfl,λ e he=>absurd he (by simp),λ _=>rfl⟩
 show wpAny _ _ (storeInDict h.objs.size (.str name t) name v) _ _ _
 unfold storeInDict newKeyGuard
 refine hU (ip (hU (wpAny_nsSet1 (Heap.Ns1.of_empty hnd) λ h' hn' hs=>?_)))
 obtain ⟨oD,esD,epD,hoD,hdD,hcD⟩:=hn'.count (Within.cons name v Within.nil)
 refine hU (wpAny_lookBehind hoD (by rw [hdD];exact pastItsLine_dict (ie hcD (by rw [ja,List.length_nil,sizeLine_eq];omega))) ?_)
 refine ip (hq h' _ ?_ hn' (λ b ob hbx hb=>?_))
 ·refine (hs.2 x hxs).trans (jM _ hx₁ ?_)
  have hfr:=(Heap.get?_some_iff.mp hx).2
  obtain ⟨oc,od,odt,osl⟩:=o
  cases odt <;> first | rfl | exact hfr
 ·exact (hs.2 b (iI (ik hb))).trans ((Heap.get?_update_ne _ _ _ _ hbx).trans (ia _ hb))
theorem exc_base_init {nm q:Str} {N:Addr} {bs bm bmB:List Value} {hdct:Bool} {sn:List Str} {sub:List Value} {ab:Bool} {col:Option Bool} {dd de:Option Addr} {k0 k1 k2 k3 k5:Option Value} {B newId initId:String} {e t0:Addr} {rest:List Value} {Q:Value->Shared->Prop}
  (F:ExcBaseFacts B newId initId bmB) (T:OwnTail s.heap bmB bm) (hC:s.heap.get? C=some (excClassObj nm q C N bs bm hdct sn sub ab col dd k0 k1 k2 k3 k5 newId)) (he:s.heap.get? e=some ⟨.ref C,de,.fields #[.ref t0,.none,.none,.none,.bool false,.none],#[]⟩)
  (hq:∀ h' t1,h'.get? e=some ⟨.ref C,de,.fields #[.ref t1,.none,.none,.none,.bool false,.none],#[]⟩->(∀ b ob,b≠e->s.heap.get? b=some ob->h'.get? b=some ob)->Q .none { s with heap:=h' }) (hrest:rest.length<=sizeLine) :
  wpAny (model prog w) A (call (.builtin initId) (.ref e::rest)) Q E s:=by
 obtain ⟨h,g,d,t,os⟩:=s
 dsimp only at hC he hq T
 refine wpAny_call (codeAny_call_builtin F.init.plain F.initEntry (wpAny_check_init_subT F T hC he rfl ?_))
 wp_walk
 refine hq _ h.objs.size ?_ λ b ob hb e=>?_
 ·rw [jM _ (ia _ he) rfl]
  rfl
 ·rw [jD _ _ (Ne.symm hb)]
  exact ia _ e
theorem gF {M:Model} {env:Env} {nm q:Str} {N:Addr} {bs bm:List Value} {hdct:Bool} {sn:List Str} {sub:List Value} {ab:Bool} {col:Option Bool} {dd:Option Addr} {k0 k1 k2 k3 k5:Option Value} {newId:String} {y:Sem Value} {Q:Flow->Shared->Prop} (hbase:bm.contains (.type "BaseException")=true) (hh:A.handled=none)
  (h:wpAny M A y (λ v s₁=>∃ e t de,v=.ref e/\s₁.heap.get? C=some (excClassObj nm q C N bs bm hdct sn sub ab col dd k0 k1 k2 k3 k5 newId)/\
   s₁.heap.get? e=some ⟨.ref C,de,.fields #[.ref t,.none,.none,.none,.bool false,.none],#[]⟩/\E (.ref e) s₁) E s) :
  wpAny M A (raiseStmt env (some y) none) Q E s:=by
 have hcB:(Value.ref C::bm).contains (.type "BaseException")=true:=by rw [List.contains_cons,hbase,Bool.or_true]
 unfold raiseStmt
 refine hU (iX h (λ v s₁ h₁=>?_) λ _ _ x=>x)
 obtain ⟨e,t,de,rfl,hC,he,hE⟩:=h₁
 obtain ⟨hp,g,d,tk,os⟩:=s₁
 repeat (first | with_reducible refine wpAny_loadPart_at he ?_ | with_reducible refine wpAny_loadPart_at hC ?_ | (with_reducible refine wpAny_isSubtype_exc hC ?_;rw [hcB]) | wp_step)
 exact wpAny_raiseNew_none hh hE
noncomputable def excFI (K:W.Frag) (C:Addr) (bmB:List Value) (newId:String):Option Addr:=match K.lookup C with
 | some ⟨.type "type",_,.cls cd,sl⟩=>(match cd.mro,sl.toList with
  | .ref C'::bm,[_,_,_,_,some (.builtin n),_]=>if (C' == C && n == newId && !cd.hasDel && PySem.W.tailIn K bmB bm && PySem.W.nsOkIn K cd.ns)=true then (match PySem.W.nsIn K cd.ns "__init__" with | some (some (.ref f))=>some f | _=>none) else none
  | _,_=>none)
 | _=>none
theorem ns_of {h:Heap} {N:Addr} {mg:Str->Option Value} {n:Str} {v:Value} (X:K.In h) (G:h.Ns N mg) (e:PySem.W.nsIn K N n=some (some v)):mg n=some v:=by
 obtain ⟨o,es,ep,ho,hd,_,hf⟩:=G
 unfold PySem.W.nsIn at e
 split at e
 ·rename_i c d es' n' sl q
  have:=X _ _ q
  rw [ho] at this
  cases this
  cases hd
  split at e
  ·rename_i en he
   cases e
   rw [<- hf]
   unfold nsFind findBy
   rw [<- Array.find?_toList,he]
   rfl
  ·split at e <;> cases e
 ·cases e
theorem exc_objI {h:Heap} {bmB:List Value} {newId:String} {f:Addr} (X:K.In h) (q:excFI K C bmB newId=some f) :
  ∃ bm N nm qn bs hd sn sub ab col dd k0 k1 k2 k3 k5 mN,h.get? C=some (excClassObj nm qn C N bs bm hd sn sub ab col dd k0 k1 k2 k3 k5 newId)/\h.Ns N mN/\mN "__init__"=some (.ref f)/\OwnTail h bmB bm:=by
 unfold excFI at q
 split at q
 case h_2=>cases q
 case h_1 dd cd sl lk=>
  split at q
  case h_2=>cases q
  case h_1 C' bm k0 k1 k2 k3 n k5 hm hs=>
   split at q
   case isFalse=>cases q
   case isTrue hq=>
    simp only [Bool.and_eq_true,beq_iff_eq,Bool.not_eq_true'] at hq
    obtain ⟨⟨⟨⟨e1,e2⟩,hdel⟩,ht⟩,hok⟩:=hq
    subst e1 e2
    split at q
    case h_2=>cases q
    case h_1 f' hi=>
     cases q
     obtain ⟨nm,bs,mro,ns,qn,hd,sn,sub,ab,col,del⟩:=cd
     dsimp only at hm hdel hok hi
     subst hm hdel
     obtain ⟨l⟩:=sl
     have hs:l=_:=hs
     subst hs
     exact ⟨bm,ns,nm,qn,bs,hd,sn,sub,ab,col,dd,k0,k1,k2,k3,k5,_,X _ _ lk,.of_isNs (PySem.W.isNs_of_in X hok),ns_of X (.of_isNs (PySem.W.isNs_of_in X hok)) hi,PySem.W.tail_of_in X ht⟩
end
end L2
namespace L2
open PySem PySem.Spec PyProof.Rows
section
variable {prog:Program} {w:World} {A:Around} {E:Value->Shared->Prop} {s:Shared} {env:Env}
variable {nm q:Str} {C N:Addr} {bs bm bmB:List Value} {hdct:Bool} {sn:List Str} {sub:List Value} {ab:Bool} {col:Option Bool} {dd:Option Addr} {k0 k1 k2 k3 k5:Option Value} {B newId initId:String}
theorem Raise_call_initT (F:ExcBaseFacts B newId initId bmB) {mN:Str->Option Value} {fI:Addr} {oI:Obj} {x:Str} {np cpos pos:Pos} {args:List Expr} {Q:Flow->Shared->Prop}
  (hbase:bm.contains (.type "BaseException")=true) (hh:A.handled=none) (hplain:(backTo cpos (starEach args env)).any (·.1)=false) (hi:mN "__init__"=some (.ref fI)) (hfc:oI.cls=.type "function")
  (h:wpAny (model prog w) A (eval (.Name x np) env) (λ f s₁=>f=.ref C/\wpAny (model prog w) A (evalArgs (.ref C) true (backTo cpos (starEach args env)) [])
   (λ a s₂=>a.kw=[]/\a.pos.length<=sizeLine/\s₂.heap.get? C=some (excClassObj nm q C N bs bm hdct sn sub ab col dd k0 k1 k2 k3 k5 newId)/\s₂.heap.Ns N mN/\OwnTail s₂.heap bmB bm/\s₂.heap.get? fI=some oI/\
    ∀ h' e,Heap.MadeExcOf s₂.heap h' e (.ref C) a.pos->wpAny (model prog w) (A.under (.builtin "type.__call__" ⟨.ref C::a.pos,[]⟩)) (call (.ref fI) (.ref e::a.pos))
     (λ r s'=>r=.none/\(∃ t de,s'.heap.get? C=some (excClassObj nm q C N bs bm hdct sn sub ab col dd k0 k1 k2 k3 k5 newId)/\s'.heap.get? e=some ⟨.ref C,de,.fields #[.ref t,.none,.none,.none,.bool false,.none],#[]⟩)/\E (.ref e) s') E { s₂ with heap:=h' }) E s₁) E s) :
  wpAny (model prog w) A (exec (.Raise (some (.Call (.Name x np) args [] cpos)) none pos) env) Q E s:=by
 rw [arm_exec_Raise]
 first
  | refine hU (jS (gF (C:=C) (nm:=nm) (q:=q) (N:=N) (bs:=bs) (bm:=bm) (hdct:=hdct) (sn:=sn) (sub:=sub) (ab:=ab) (col:=col) (dd:=dd) (k0:=k0) (k1:=k1) (k2:=k2) (k3:=k3) (k5:=k5) (newId:=newId) hbase hh (hU (iX (wpAny_Call_ofName (iX h (λ f s₁ h₁=>?_) λ _ _ x=>x)) (λ v s₃ h₃=>hU (jS (ip h₃))) λ _ _ x=>x))))
  | (simp only [evalOpt,Option.map];refine hU (jS (gF (C:=C) (nm:=nm) (q:=q) (N:=N) (bs:=bs) (bm:=bm) (hdct:=hdct) (sn:=sn) (sub:=sub) (ab:=ab) (col:=col) (dd:=dd) (k0:=k0) (k1:=k1) (k2:=k2) (k3:=k3) (k5:=k5) (newId:=newId) hbase hh (hU (iX (wpAny_Call_ofName (iX h (λ f s₁ h₁=>?_) λ _ _ x=>x)) (λ v s₃ h₃=>hU (jS (ip h₃))) λ _ _ x=>x)))))
  | (refine hU (jS (gF (C:=C) (nm:=nm) (q:=q) (N:=N) (bs:=bs) (bm:=bm) (hdct:=hdct) (sn:=sn) (sub:=sub) (ab:=ab) (col:=col) (dd:=dd) (k0:=k0) (k1:=k1) (k2:=k2) (k3:=k3) (k5:=k5) (newId:=newId) hbase hh ?_));refine hU (iX (wpAny_Call_ofName (iX h (λ f s₁ h₁=>?_) λ _ _ x=>x)) (λ v s₃ h₃=>hU (jS (ip h₃))) λ _ _ x=>x))
 obtain ⟨rfl,h₁⟩:=h₁
 unfold callWith
 refine hU (wpAny_holding (iX h₁ (λ a s₂ h₂=>hU (jS ?_)) λ _ _ x=>x))
 obtain ⟨apos,akw⟩:=a
 obtain ⟨hkw,hlen,hC,hn,T,hf,h₂⟩:=h₂
 obtain rfl:akw=[]:=hkw
 obtain ⟨hp,g,d,tk,os⟩:=s₂
 simp only [hplain]
 refine hU (wpAny_keeperOf_exc hC ?_)
 refine hU (call_initT (hrest:=hlen) F T hC hn hi hf hfc λ h' e hm=>iX (h₂ h' e hm) (λ r s' z=>?_) λ _ _ z=>z)
 obtain ⟨rfl,⟨t,de,g1,g2⟩,z⟩:=z
 exact ⟨rfl,hU (wpAny_holding (wpAny_point (ip ⟨e,t,de,rfl,g1,g2,z⟩)))⟩
end
noncomputable def XI (e C:Addr) (d:Option Addr):HO:=.ext λ h=>∃ t,h.get? e=some ⟨.ref C,d,.fields #[.ref t,.none,.none,.none,.bool false,.none],#[]⟩
noncomputable def del (H:Hp) (e:Addr):Hp:=λ b=>if b=e then none else H b
section
variable {X:Cx} {pins:List (Addr × Obj)} {σ:St} {H:Hp} {s:Shared} {x:Addr}
theorem XI.ok {P:Program} {w:World} {h:Heap} {C t:Addr} {d:Option Addr} (e:h.get? x=some ⟨.ref C,d,.fields #[.ref t,.none,.none,.none,.bool false,.none],#[]⟩):ObjOk P w H h x (XI x C d):=
 ⟨⟨t,e⟩,⟨_,e⟩,λ _ _ ⟨t',e'⟩ k=>⟨t',k _ e'⟩⟩
theorem Inv.forget {φ:Heap->Prop} (I:Inv X pins σ H s) (hx:H x=some (.ext φ)):Inv X pins σ (del H x) s:=by
 have nn:∀ b,H b=none->del H x b=none:=λ b e=>by unfold del;split;rfl;exact e
 have st:∀ b u,H b=some u->(∀ φ,u≠.ext φ)->del H x b=some u:=λ b u e ne=>by
  unfold del
  rw [if_neg]
  ·exact e
  ·rintro rfl
   rw [hx] at e
   cases e
   exact ne _ rfl
 refine ⟨I.ok,I.os,I.bare,⟨I.base.keep,I.base.slot,λ b u e n hx=>nn b (I.base.free b u e n hx),I.base.there,λ b xs e=>st b _ (I.base.tups b xs e) (by nofun),λ b u v e=>st b _ (I.base.frzs b u v e) (by nofun),λ b ps e=>?_⟩,
  I.loc,I.cell,nn _ I.free,λ y c e=>nn _ (I.freeC y c e),λ p hp=>?_,λ b u e=>?_,I.len⟩
 ·obtain ⟨more,q⟩:=I.base.tbls b ps e
  exact ⟨more,st b _ q (by nofun)⟩
 ·obtain ⟨e,n,r⟩:=I.pin p hp
  exact ⟨e,nn _ n,r⟩
 ·have e':H b=some u:=by
   unfold del at e
   split at e
   ·cases e
   ·exact e
  exact (I.hok b u e').stay (λ _ _ _ q=>q) (λ c q=>st c _ q (by nofun)) λ c xs q=>st c _ q (by nofun)
end
end L2
namespace L2
open PySem PySem.Spec PyProof.Rows
noncomputable def XiB (P:Program) (w:World) (K:W.Frag) (mg:Str->Option Value) (base:Heap) (C:Addr) (k:Nat) (ps:List Str) (sp:Sp):Prop:=
 ∃ f fd,excFI K C bmV "ValueError.__new__"=some f/\PySem.W.typeIn K (.ref f)=some (.type "function")/\Binds K fd ps []/\FnOk P w K mg base CX0 k f fd ps sp
section
variable {X:Cx} {E:XK}
noncomputable def tRaiseI (C:Addr) (sp:Sp) (E:XK) (t:TA):TS:=λ _ σ H=>t σ H λ vs H1=>vs.length<=sizeLine/\
 ∀ e,H1 e=none->sp ((.ref e::vs)++[]) (upd H1 e (XI e C none)) (λ v H2=>v=.non/\∃ d,H2 e=some (XI e C d)/\E (.ref C) d (del H2 e)) E0
theorem ps_raiseI {C:Addr} {x:Str} {np cpos pos:Pos} {e:Expr} {es:List Expr} {t:TA} {k j:Nat} {ps:List Str} {sp:Sp} (hxe:XOut X E) (hex:X.ex=[]) (hr:Room j X.A) (hg:Gl X x) (hm:X.mg x=some (.ref C))
  (O:XiB X.prog X.w X.K X.mg X.base C k ps sp) (ha:PA X (e::es) t) (hj:k+1<=j:=by decide) (he:starEach (e::es) X.env=(false,eval e X.env)::starEach es X.env:=by rfl) (hpl:(backTo cpos (starEach es X.env)).any (·.1)=false:=by rfl)
  (hd:(x == ("__debug__":Str))=false:=by decide):PS X (.Raise (some (.Call (.Name x np) (e::es) [] cpos)) none pos) (tRaiseI C sp E t):=by
 intro pins s σ H D I h
 obtain ⟨f,fd,hfi,hft,hb,F⟩:=O
 obtain ⟨bm,N,nm,qn,bs,hd',sn,sub,ab,col,dd,k0,k1,k2,k3,k5,mN,hC,hN,hi,T⟩:=exc_objI I.ok.mod.kin hfi
 obtain ⟨oI,hoI,hcI⟩:=Option.map_eq_some_iff.mp hft
 refine Raise_call_initT (C:=C) (nm:=nm) (q:=qn) (N:=N) (bs:=bs) (bm:=bm) (hdct:=hd') (sn:=sn) (sub:=sub) (ab:=ab) (col:=col) (dd:=dd) (k0:=k0) (k1:=k1) (k2:=k2) (k3:=k3) (k5:=k5)
  PySem.F.excBase_ValueError (mN:=mN) (fI:=f) (oI:=oI) (T.hasType rfl) hr.hd (by rw [he];show (false || (backTo cpos (starEach es X.env)).any (·.1))=false;rw [hpl];rfl) hi hcI (eo I hg hm ⟨rfl,?_⟩ hd)
 have ha':=ha cpos pins s σ H _ I h
 rw [he] at ha' ⊢
 refine Calls.evalArgs_plain (thn ha' λ us s1 ⟨vs,H1,I1,r,hl,q⟩=>⟨rfl,by rw [<- r.length];exact hl,I1.bk _ _ hC,hN.keeps I1.bk,T.keeps I1.bk,I1.bk _ _ (I.ok.mod.kin _ _ hoI),λ h' y hy=>?_⟩)
 obtain ⟨t',g1,_,_⟩:=hy.there
 have ny:=I1.hok.noObj hy.new
 have J:Inv X pins σ (upd H1 y (XI y C none)) { s1 with heap:=h' }:=(I1.kept (t':=s1.toks) hy.keeps).track ny (I1.off hex hy.new) (XI.ok g1)
 have hq:=q y ny
 have r2:Vals ((V.ref y::vs)++[]) ((Value.ref y::us)++[]):=Vals.append (.cons rfl r) .nil
 have hl2:((Value.ref y::us)++[]).length=ps.length:=by rw [<- r2.length];exact F.len _ _ _ _ hq
 refine wpAny_call (codeAny_mono (F.run _ X.stack _ _ ⟨Value.ref y::us,[]⟩ _ _ _ E0 ((hr.mono hj).make C us []) (J.env0.make C us []) (hb _ (Value.ref y::us) J.kIn hl2) r2 hq) λ r s' hq'=>?_)
 cases r with
 | error e=>exact False.elim hq'
 | ok fl=>
  cases fl with
  | ret u=>
   obtain ⟨v,H',I3,rv,ev,d,hx,q3⟩:=J.after hq'
   subst ev
   obtain ⟨⟨t2,g2⟩,_⟩:=(show ObjOk X.prog X.w H' s'.heap y (XI y C d) from I3.hok y _ hx)
   refine ⟨rv,⟨t2,d,I3.bk _ _ hC,g2⟩,?_⟩
   refine hxe pins σ _ _ ⟨y,.ref C,d,del H' y,rfl,I3.forget hx,⟨by unfold del;rw [if_pos rfl],I1.off hex hy.new,_,_,none,g2,rfl,λ T z=>by cases z⟩,q3⟩
  | next=>exact False.elim hq'
  | brk=>exact False.elim hq'
  | cont=>exact False.elim hq'
end
end L2
namespace L2
open PySem PySem.Spec PyProof.Rows
section
variable {X:Cx} {e e1 e2 value:Expr} {es:List Expr} {pos apos np pos':Pos} {t:TA} {ta tv t1 t2:TE} {x f:Str} {G:Addr}
theorem upd_id {H:Hp} {a:Addr} {o:HO} (h:H a=some o):upd H a o=H:=by
 funext b
 by_cases hb:b=a
 ·subst hb
  rw [ac,h]
 ·rw [ai hb]
noncomputable def tBI (K:W.Frag) (t:TA):TE:=λ σ H Q=>t σ H λ vs H1=>∃ e C d rest f,vs=.ref e::rest/\H1 e=some (XI e C d)/\excFI K C bmV "ValueError.__new__"=some f/\rest.length<=sizeLine/\Q .non H1
theorem pe_binit {pl:Sem Bool} (cr:ClsRd X.K G) (hf:PySem.W.findCls X.K (.ref G) (.type "type") "__init__"=some (.val (.builtin "ValueError.__init__"))) (hm:X.mg x=some (.ref G)) (ha:PA X (e::es) t) (hg:Gl X x:=by rfl) (hdb:(x == ("__debug__":Str))=false:=by decide)
  (hst:starEach (e::es) X.env=(false,eval e X.env)::starEach es X.env:=by rfl) (hpl:(backTo pos (starEach es X.env)).any (·.1)=false:=by rfl)
  (ht:eval (.Call (.Attribute (.Name x np) "__init__" apos) (e::es) [] pos) X.env=(do
   let ov <- eval (.Name x np) X.env
   standAt apos.atName
   let (f,first) <- holding [ov] (getMethod ov "__init__" pl)
   callWith pos f first (backTo pos (starEach (e::es) X.env)) (backToKw pos (keywordEach [] X.env))):=by rfl):PE X (.Call (.Attribute (.Name x np) "__init__" apos) (e::es) [] pos) (tBI X.K t):=by
 intro pins s σ H Q I h
 refine jN (pl:=pl) (eo I hg hm ?_ hdb) ht
 refine PySem.W.method_cls I.kIn cr.sg (PySem.W.cls_value I.kIn cr.rd hf (by decide +kernel) ?_)
 have I1:=I.tok (s.toks+1)
 refine PyProof.Rows.callWith_builtin1 (thn (ha pos pins _ σ H _ I1 h) λ us s1 ⟨vs,H1,I2,r1,q1⟩=>?_) hst hpl
 obtain ⟨y,C,d,rest,fi,rfl,hy,hfi,hl,q⟩:=q1
 cases r1 with
 | cons r2 r3=>
  cases r2
  obtain ⟨bm,N,nm,qn,bs,hd',sn,sub,ab,col,dd,k0,k1,k2,k3,k5,mN,hC,hN,hi,T⟩:=exc_objI I2.kIn hfi
  obtain ⟨⟨t0,g0⟩,_⟩:=(show ObjOk X.prog X.w H1 s1.heap y (XI y C d) from I2.hok y _ hy)
  refine exc_base_init PySem.F.excBase_ValueError T hC g0 (λ h' t1 g1 kp=>?_) (by rw [<- r3.length];exact hl)
  have J:=I2.write (t':=s1.toks) (x:=y) (e:=y) (o:=XI y C d) (by rw [hy];exact True.intro) (.inl rfl) kp ⟨_,g1⟩ (XI.ok g1)
  rw [upd_id hy] at J
  exact ⟨.non,H1,J,rfl,q⟩
noncomputable def tJ2 (t1 t2:TE):TE:=λ σ H Q=>t1 σ H λ x H1=>∃ a,x=.str a/\a.length<=sizeLine/\t2 σ H1 λ y H2=>∃ b,y=.str b/\a.length+b.length<=sizeLine/\Q (.str (a++b)) H2
theorem pe_j2 (h1:PE X e1 t1) (h2:PE X e2 t2):PE X (.JoinedStr [e1,e2] pos) (tJ2 t1 t2):=by
 intro pins s σ H Q I h
 refine JoinedStr_many (joinParts_cons (thn (h1 pins s σ H _ I h) λ u s1 ⟨x,H1,I1,rx,a,ex,ha,q⟩=>?_))
 subst ex
 obtain ⟨t,rfl⟩:=rx
 refine ⟨by rw [Str.empty_append];exact ha,joinParts_cons (thn (h2 pins s1 σ H1 _ I1 q) λ u s2 ⟨y,H2,I2,ry,b,ey,hb,q2⟩=>?_)⟩
 subst ey
 obtain ⟨t',rfl⟩:=ry
 have hl:((Str.empty++a)++b).length<=sizeLine:=by rw [Str.empty_append,strLen_append];exact hb
 refine ⟨hl,joinParts_nil ?_ hl⟩
 rw [Str.empty_append]
 exact ⟨.str _,H2,I2.tok _,⟨_,rfl⟩,q2⟩
noncomputable def tFv (tv:TE):TE:=λ σ H Q=>tv σ H λ x H1=>∃ z,x=.str z/\z.length<=sizeLine/\Q (.str z) H1
theorem pe_fv (h:PE X value tv):PE X (.FormattedValue value (-1) none pos) (tFv tv):=by
 intro pins s σ H Q I hq
 refine FormattedValue_plain (thn (h pins s σ H _ I hq) λ u s1 ⟨x,H1,I1,rx,z,ex,hz,q⟩=>?_)
 subst ex
 obtain ⟨t,rfl⟩:=rx
 exact formatField_str (λ t' tk=>⟨.str z,H1,I1.tok tk,⟨_,rfl⟩,q⟩) hz
noncomputable def sXf (K:W.Frag) (ta tv:TE) (f:Str):TS:=λ D σ H=>tv σ H λ y H1=>ta σ H1 λ x H2=>∃ a C,x=.ref a/\H2 a=some (XI a C none)/\ExI K C/\NoAttr K C f/\
 ∀ dx,H2 dx=none->D.nx σ (upd (upd H2 a (XI a C (some dx))) dx (.xd [(f,y)]))
theorem ps_xfld {o:Expr} (ha:PE X o ta) (hv:PE X value tv) (hs:swapsWith value (some (.Attribute o f pos')) pos.line X.env=pure false) (hex:X.ex=[]:=by rfl):PS X (.Assign [.Attribute o f pos'] value pos) (sXf X.K ta tv f):=by
 intro pins s σ H D I h
 refine plainObj_wpAny_Assign_Attribute (thn (hv pins s σ H _ I h) λ u s1 ⟨y,H1,I1,ry,q⟩=>thn (ha pins s1 σ H1 _ I1 q) λ ov s2 ⟨x,H2,I2,rx,a,C,ex,ea,c,n,q2⟩=>?_) hs
 subst ex
 obtain rfl:ov=Value.ref a:=rx
 obtain ⟨⟨t0,g0⟩,_⟩:=(show ObjOk X.prog X.w H2 s2.heap a (XI a C none) from I2.hok a _ ea)
 refine exc_set0 I2.kIn c n g0 rfl (by nofun) rfl λ h' tk' g1 ns kp=>?_
 have nd:H2 s2.heap.objs.size=none:=I2.hok.fresh (ic _)
 have ne:s2.heap.objs.size≠a:=λ z=>by rw [z,ea] at nd;cases nd
 have J:=I2.write (t':=tk') (x:=a) (e:=a) (o:=XI a C (some s2.heap.objs.size)) (by rw [ea];exact True.intro) (.inl rfl) kp ⟨_,g1⟩ (XI.ok g1)
 have J2:=J.track (x:=s2.heap.objs.size) (o:=.xd [(f,y)]) (by rw [ai ne];exact nd) (I2.off hex (Heap.get?_none_of_le (ic _))) ⟨_,ns,λ g=>?_⟩
 ·exact ⟨σ,_,J2,q2 _ nd⟩
 ·show RelO (List.lookup g [(f,y)]) (if g=f then some u else none)
  rw [jG]
  by_cases h:g=f
  ·rw [if_pos h,show (g == f)=true from beq_iff_eq.mpr h]
   exact ry
  ·rw [if_neg h,show (g == f)=false from jE.mpr h]
   exact True.intro
noncomputable def tXf (K:W.Frag) (ta:TE) (f:Str):TE:=λ σ H Q=>ta σ H λ x H1=>∃ a C dx fs v,x=.ref a/\H1 a=some (XO a C (some dx))/\H1 dx=some (.xd fs)/\ExA K C/\PySem.W.hasDictIn K C=true/\PySem.W.findIn K (.ref C) f=some none/\fs.lookup f=some v/\Q v H1
theorem pe_xfld (he:PE X e ta) (hb:attributeBase e f X.env (eval e X.env)=eval e X.env):PE X (.Attribute e f pos) (tXf X.K ta f):=by
 intro pins s σ H Q I h
 refine attr_of hb (thn (he pins s σ H _ I h) λ u s1 ⟨x,H1,I1,rx,a,C,dx,fs,v,ex,ea,ed,c,hd,nf,l,q⟩=>?_)
 subst ex
 obtain rfl:u=Value.ref a:=rx
 obtain ⟨⟨vs,sl,g0⟩,_⟩:=(show ObjOk X.prog X.w H1 s1.heap a (XO a C (some dx)) from I1.hok a _ ea)
 obtain ⟨mA,ns,rel⟩:=(show ObjOk X.prog X.w H1 s1.heap dx (.xd fs) from I1.hok dx _ ed)
 obtain ⟨od,ho,hl⟩:=lookIn_ns ns
 obtain ⟨u,hu,ru⟩:=RelO.some_of (v:=v) (o:=mA f) (by rw [<- l];exact rel f)
 have J:PySem.W.InstAt s1.heap a ⟨.ref C,some dx,.fields vs,sl⟩ C (some od):=⟨g0,rfl,rfl,ho⟩
 have hfo:PySem.W.findObj X.K C (some od) f=some (.value u):=PySem.W.findObj_own hd nf rfl (by rw [hl,hu])
 obtain ⟨hh,gg,dd,tt,os⟩:=s1
 unfold getAttr
 refine hU (wpAny_mkText ?_)
 exact exc_by (s:=⟨hh,gg,dd,tt+1,os⟩) c I1.kIn J (handed_of ru) (λ A R q=>exc_call_val (s:=⟨hh,gg,dd,tt+1,os⟩) c I1.kIn J hfo q) ⟨v,H1,I1.tok _,ru,q⟩
end
end L2
namespace L2
open PySem PySem.Spec PyProof.Rows
section
variable {P:Program} {w:World} {K:W.Frag} {mg:Str->Option Value} {base:Heap} {qual:Str} {C:Addr} {st:Stmt} {N ps:List Str} {k:Nat} {sp:Sp}
noncomputable def XiDe (K:W.Frag) (C:Addr) (qual:Str) (st:Stmt) (ps:List Str):Prop:=∃ f fd,FunG K "__init__" qual st f fd/\excFI K C bmV "ValueError.__new__"=some f/\PySem.W.typeIn K (.ref f)=some (.type "function")/\Binds K fd ps []
theorem XiDe.ok (F:XiDe K C qual st ps) (S:FnScope N ps (af st)) (len:∀ vs H Q E,sp vs H Q E->vs.length=ps.length) (hbody:gO P w K mg base qual st N k sp):XiB P w K mg base C (k+1) ps sp:=
 let ⟨f,fd,a,b,c,d⟩:=F
 ⟨f,fd,b,c,d,a.ok S len (hbody f)⟩
theorem XiDe.fi (F:XiDe K C qual st ps):∃ f,excFI K C bmV "ValueError.__new__"=some f:=by
 obtain ⟨f,_,_,b,_⟩:=F
 exact ⟨f,b⟩
end
end L2
namespace L2
open PySem PySem.Spec PyProof.Rows
section
variable {X:Cx}
theorem pe_gi {x:Str} {i:Int} {pos:Pos} (h:∃ tk,X.mg x=some (.int i tk)) (hg:Gl X x:=by rfl) (hd:(x == ("__debug__":Str))=false:=by decide):PE X (.Name x pos) (tC (.int i)):=by
 obtain ⟨tk,h⟩:=h
 exact pe_glob hg h ⟨tk,rfl⟩ hd
theorem pe_fldK {K:W.Frag} {o:Expr} {f:Str} {pos:Pos} {ta:TE} (hK:X.K=K) (h:PE X o ta) (hb:attributeBase o f X.env (eval o X.env)=eval o X.env):PE X (.Attribute o f pos) (tFld K ta f):=by
 subst hK
 exact aO h hb
end
end L2
namespace L2
open PySem PySem.Spec PyProof.Rows
section
variable {κ:Type} [DecidableEq κ]
noncomputable def bY (kvs:List (κ × V)) (k:κ):Option V:=(kvs.find? λ kv=>decide (kv.1=k)).map (·.2)
noncomputable def bo (kvs:List (κ × V)) (k:κ) (v:V):List (κ × V):=
 if (kvs.any λ kv=>decide (kv.1=k))=true then kvs.map (λ kv=>if kv.1=k then (kv.1,v) else kv) else kvs++[(k,v)]
noncomputable def dropK (kvs:List (κ × V)) (k:κ):List (κ × V):=kvs.filter λ kv=>decide (kv.1≠k)
theorem b6 {p:κ × V} {r:List (κ × V)} {k:κ} (e:p.1=k):bY (p::r) k=some p.2:=by simp [bY,List.find?_cons,e]
theorem b7 {p:κ × V} {r:List (κ × V)} {k:κ} (e:¬ p.1=k):bY (p::r) k=bY r k:=by simp [bY,List.find?_cons,e]
theorem dX (k:κ):∀ kvs:List (κ × V),(kvs.any λ kv=>decide (kv.1=k))=(bY kvs k).isSome
 | []=>rfl
 | p::r=>by
  rw [List.any_cons]
  by_cases e:p.1=k
  ·simp only [b6 e,iM e,Bool.true_or,Option.isSome_some]
  ·rw [b7 e,iF e,Bool.false_or];exact dX k r
theorem valV_map (k j:κ) (y:V):∀ kvs:List (κ × V),bY (kvs.map λ kv=>if kv.1=k then (kv.1,y) else kv) j=(bY kvs j).map λ x=>if j=k then y else x
 | []=>rfl
 | p::r=>by
  have ih:=valV_map k j y r
  rw [jp]
  by_cases h:p.1=k
  ·rw [if_pos h]
   by_cases e:p.1=j
   ·rw [b6 (p:=(p.1,y)) e,b6 e,jm,if_pos (e.symm.trans h)]
   ·rw [b7 (p:=(p.1,y)) e,b7 e,ih]
  ·rw [if_neg h]
   by_cases e:p.1=j
   ·rw [b6 (p:=p) e,b6 e,jm,if_neg (λ z=>h (e.trans z))]
   ·rw [b7 (p:=p) e,b7 e,ih]
theorem valV_snoc (k j:κ) (y:V):∀ kvs:List (κ × V),bY kvs k=none->bY (kvs++[(k,y)]) j=if j=k then some y else bY kvs j
 | [],_=>by
  by_cases e:k=j
  ·rw [if_pos e.symm];exact b6 (p:=(k,y)) e
  ·rw [if_neg (λ z=>e z.symm)];exact b7 (p:=(k,y)) e
 | p::r,hn=>by
  rw [List.cons_append]
  have hk:¬ p.1=k:=λ z=>by rw [b6 z] at hn;cases hn
  rw [b7 hk] at hn
  have ih:=valV_snoc k j y r hn
  by_cases e:p.1=j
  ·rw [b6 e,b6 e,if_neg (λ z=>hk (e.trans z))]
  ·rw [b7 e,b7 e,ih]
theorem valV_put (kvs:List (κ × V)) (k j:κ) (y:V):bY (bo kvs k y) j=if j=k then some y else bY kvs j:=by
 unfold bo
 by_cases a:(kvs.any λ kv=>decide (kv.1=k))=true
 ·rw [if_pos a,valV_map]
  rw [dX] at a
  by_cases e:j=k
  ·obtain ⟨x,hx⟩:=Option.isSome_iff_exists.mp a
   rw [if_pos e,e,hx,jm,if_pos rfl]
  ·rw [if_neg e]
   cases bY kvs j with
   | none=>rfl
   | some x=>rw [jm,if_neg e]
 ·rw [if_neg a]
  refine valV_snoc k j y kvs ?_
  rw [dX] at a
  cases q:bY kvs k with
  | none=>rfl
  | some x=>rw [q] at a;exact (a rfl).elim
theorem length_putK (kvs:List (κ × V)) (k:κ) (v:V):(bo kvs k v).length<=kvs.length+1:=by
 unfold bo
 split
 ·rw [hZ];omega
 ·rw [ir,ja,List.length_nil];omega
theorem putK_new {kvs:List (κ × V)} {k:κ} (v:V) (h:bY kvs k=none):bo kvs k v=kvs++[(k,v)]:=by
 unfold bo
 rw [dX,h]
 exact if_neg (by decide)
theorem RelO.isSome_eq {o:Option V} {u:Option Value} (r:RelO o u):o.isSome=u.isSome:=by
 cases o with
 | none=>cases u with
  | none=>rfl
  | some _=>exact (show False from r).elim
 | some _=>cases u with
  | none=>exact (show False from r).elim
  | some _=>rfl
theorem RelO.getD {o:Option V} {u:Option Value} {d:V} {d':Value} (r:RelO o u) (rd:RelV d d'):RelV (o.getD d) (u.getD d'):=by
 cases o with
 | none=>cases u with
  | none=>exact rd
  | some _=>exact (show False from r).elim
 | some _=>cases u with
  | none=>exact (show False from r).elim
  | some _=>exact r
theorem KV.val {kvs:List (κ × V)} {vs:List (κ × Value)} (r:KV kvs vs) (k:κ):RelO (bY kvs k) (valueAt vs k):=by
 unfold KV at r
 induction r with
 | nil=>exact True.intro
 | @cons p q ps qs h t ih=>
  obtain ⟨h1,h2⟩:=h
  by_cases e:p.1=k
  ·have e':q.1=k:=h1.symm.trans e
   have b:valueAt (q::qs) k=some q.2:=by simp [valueAt,List.find?_cons,e']
   rw [b6 e,b];exact h2
  ·have e':¬ q.1=k:=λ z=>e (h1.trans z)
   have b:valueAt (q::qs) k=valueAt qs k:=by simp [valueAt,List.find?_cons,e']
   rw [b7 e,b];exact ih
theorem KV.any {kvs:List (κ × V)} {vs:List (κ × Value)} (r:KV kvs vs) (k:κ):(kvs.any λ kv=>decide (kv.1=k))=vs.any λ kv=>decide (kv.1=k):=by
 unfold KV at r
 induction r with
 | nil=>rfl
 | cons h t ih=>rw [List.any_cons,List.any_cons,ih,h.1]
theorem KV.repl {kvs:List (κ × V)} {vs:List (κ × Value)} (r:KV kvs vs) (k:κ) {y:V} {u:Value} (ry:RelV y u) :
  KV (kvs.map λ kv=>if kv.1=k then (kv.1,y) else kv) (vs.map λ kv=>if kv.1=k then (kv.1,u) else kv):=by
 unfold KV at r ⊢
 induction r with
 | nil=>exact .nil
 | @cons p q ps qs h t ih=>
  rw [jp,jp]
  refine .cons ?_ ih
  obtain ⟨h1,h2⟩:=h
  by_cases e:p.1=k
  ·rw [if_pos e,if_pos (h1.symm.trans e)];exact ⟨h1,ry⟩
  ·rw [if_neg e,if_neg (λ z=>e (h1.trans z))];exact ⟨h1,h2⟩
theorem KV.put {kvs:List (κ × V)} {vs:List (κ × Value)} (r:KV kvs vs) (k:κ) {y:V} {u:Value} (ry:RelV y u):KV (bo kvs k y) (stored vs k u):=by
 unfold bo stored
 rw [r.any k]
 by_cases e:(vs.any λ kv=>decide (kv.1=k))=true
 ·rw [if_pos e,if_pos e];exact r.repl k ry
 ·rw [if_neg e,if_neg e];exact Paired.snoc r ⟨rfl,ry⟩
theorem KV.length {kvs:List (κ × V)} {vs:List (κ × Value)} (r:KV kvs vs):kvs.length=vs.length:=Paired.length r
end
theorem kV_is {P:Program} {w:World} {k:Key} {u:Value} (r:RelV (kV k) u):(bb P w).is k u=true:=by
 cases k with
 | inl i=>obtain ⟨t,e⟩:=(show ∃ t,u=Value.int i t from r);subst e;exact mixKind_int P w i t
 | inr x=>obtain ⟨t,e⟩:=(show ∃ t,u=Value.str x t from r);subst e;exact mixKind_str P w x t
theorem kV_inj {a b:Key} (e:kV a=kV b):a=b:=by
 cases a with
 | inl i=>cases b with
  | inl j=>have e':V.int i=V.int j:=e;injection e' with e';rw [e']
  | inr y=>exact nomatch (show V.int i=V.str y from e)
 | inr x=>cases b with
  | inl j=>exact nomatch (show V.str x=V.int j from e)
  | inr y=>have e':V.str x=V.str y:=e;injection e' with e';rw [e']
theorem items_are {P:Program} {w:World}:∀ {ks:List Key} {us:List Value},Vals (ks.map kV) us->ItemsAre (bb P w) ks us
 | [],_,r=>by rw [List.map_nil] at r;cases r;exact .nil
 | k::ks,_,r=>by
  rw [jp] at r
  cases r with
  | cons h t=>exact .cons (kV_is h) (items_are t)
noncomputable abbrev KT (H:Hp):List (List Key × V)->List (List Key × Addr × Value)->Prop:=Paired λ p q=>p.1=q.1/\H q.2.1=some (.tup (p.1.map kV))/\RelV p.2 q.2.2
theorem KT.val {H:Hp} {kvs:List (List Key × V)} {xs:List (List Key × Addr × Value)} (r:KT H kvs xs) (k:List Key):RelO (bY kvs k) ((atKey xs k).map (·.2)):=by
 induction r with
 | nil=>exact True.intro
 | @cons p q ps qs h t ih=>
  obtain ⟨h1,_,h2⟩:=h
  by_cases e:p.1=k
  ·have e':q.1=k:=h1.symm.trans e
   have b:atKey (q::qs) k=some q.2:=by simp [atKey,List.find?_cons,e']
   rw [b6 e,b];exact h2
  ·have e':¬ q.1=k:=λ z=>e (h1.trans z)
   have b:atKey (q::qs) k=atKey qs k:=by simp [atKey,List.find?_cons,e']
   rw [b7 e,b];exact ih
theorem KT.repl {H:Hp} {kvs:List (List Key × V)} {xs:List (List Key × Addr × Value)} (r:KT H kvs xs) (k:List Key) {y:V} {u:Value} (ry:RelV y u) :
  KT H (kvs.map λ kv=>if kv.1=k then (kv.1,y) else kv) (xs.map (putAt k u)):=by
 induction r with
 | nil=>exact .nil
 | @cons p q ps qs h t ih=>
  rw [jp,jp]
  refine .cons ?_ ih
  obtain ⟨h1,h2,h3⟩:=h
  unfold putAt
  by_cases e:p.1=k
  ·rw [if_pos e,if_pos (h1.symm.trans e)];exact ⟨h1,h2,ry⟩
  ·rw [if_neg e,if_neg (λ z=>e (h1.trans z))];exact ⟨h1,h2,h3⟩
theorem KT.put {H:Hp} {kvs:List (List Key × V)} {xs:List (List Key × Addr × Value)} (r:KT H kvs xs) (k:List Key) {b:Addr} {y:V} {u:Value} (hb:H b=some (.tup (k.map kV))) (ry:RelV y u) :
  KT H (bo kvs k y) (storedH xs k b u):=by
 have e:(kvs.any λ kv=>decide (kv.1=k))=(atKey xs k).isSome:=by
  rw [dX,(r.val k).isSome_eq,Option.isSome_map]
 unfold bo storedH
 rw [e]
 by_cases q:(atKey xs k).isSome=true
 ·rw [if_pos q,if_pos q];exact r.repl k ry
 ·rw [if_neg q,if_neg q];exact Paired.snoc r ⟨rfl,hb,ry⟩
theorem KT.keeps {H H':Hp} {kvs:List (List Key × V)} {xs:List (List Key × Addr × Value)} (r:KT H kvs xs) (ht:∀ b ys,H b=some (.tup ys)->H' b=some (.tup ys)):KT H' kvs xs:=
 Paired.mapP r λ _ _ z=>⟨z.1,ht _ _ z.2.1,z.2.2⟩
section
variable {P:Program} {w:World} {H:Hp} {h:Heap} {a:Addr}
theorem rd_of {u:HO} (ok:HOk P w H h) (e:Rd H a u):ObjOk P w H h a u:=e.ok ok
theorem fS {kvs:List (Key × V)} (ok:HOk P w H h) (e:Rd H a (.dK kvs)):kvs.length<=sizeLine/\(a == sysModules)=false/\∃ vs,KV kvs vs/\h.DictOf (bb P w) a vs:=
 show ObjOk P w H h a (.dK kvs) from rd_of ok e
theorem dk_of {kvs:List (Key × V)} (ok:HOk P w H h) (e:H a=some (.dK kvs)):kvs.length<=sizeLine/\(a == sysModules)=false/\∃ vs,KV kvs vs/\h.DictOf (bb P w) a vs:=fS ok (.inl e)
theorem key_of {ks:List Key} (ok:HOk P w H h) (e:H a=some (.tup (ks.map kV))):(tupleKind (bb P w)).is h ks a:=by
 obtain ⟨_,its,r,o,h1,h2,n,h3⟩:=(show ObjOk P w H h a (.tup (ks.map kV)) from ok a _ e)
 exact ⟨o,its.toArray,n,h1,h2,h3,by simpa using items_are r⟩
theorem dt_rd {kvs:List (List Key × V)} (ok:HOk P w H h) (e:Rd H a (.dT kvs)):kvs.length<=sizeLine/\(a == sysModules)=false/\
  ∃ xs,KT H kvs xs/\h.DictOfH (tupleKind (bb P w)) a xs:=by
 obtain ⟨z,y,xs,r,o,es,ep,h1,h2,h3,h4,h5⟩:=(show ObjOk P w H h a (.dT kvs) from rd_of ok e)
 refine ⟨z,y,xs,r,o,es,ep,h1,h2,h3,h4,λ x hx=>?_,h5⟩
 have all:∀ {l:List (List Key × V)} {m:List (List Key × Addr × Value)},KT H l m->∀ x∈m,(tupleKind (bb P w)).is h x.1 x.2.1:=by
  intro l m q
  induction q with
  | nil=>intro x hx;exact nomatch hx
  | @cons p q ps qs hq t ih=>
   intro x hx
   rcases iw.mp hx with e | hx
   ·subst e
    exact key_of ok (by rw [<- hq.1];exact hq.2.1)
   ·exact ih x hx
 exact all r x hx
theorem dt_of {kvs:List (List Key × V)} (ok:HOk P w H h) (e:H a=some (.dT kvs)):kvs.length<=sizeLine/\(a == sysModules)=false/\
  ∃ xs,KT H kvs xs/\h.DictOfH (tupleKind (bb P w)) a xs:=dt_rd ok (.inl e)
end
noncomputable def DGet (H:Hp) (a:Addr) (y:V) (r:Option V):Prop:=
 (∃ kvs k,Rd H a (.dK kvs)/\y=kV k/\r=bY kvs k)∨∃ kvs k b,Rd H a (.dT kvs)/\y=.ref b/\H b=some (.tup (k.map kV))/\r=bY kvs k
noncomputable def DPut (H:Hp) (a:Addr) (y v:V) (H':Hp):Prop:=
 (∃ kvs k,H a=some (.dK kvs)/\y=kV k/\kvs.length<sizeLine/\H'=upd H a (.dK (bo kvs k v)))∨
 ∃ kvs k b,H a=some (.dT kvs)/\y=.ref b/\H b=some (.tup (k.map kV))/\kvs.length<sizeLine/\H'=upd H a (.dT (bo kvs k v))
theorem DGet.k {H:Hp} {a:Addr} {kvs:List (Key × V)} {k:Key} (e:H a=some (.dK kvs)):DGet H a (kV k) (bY kvs k):=.inl ⟨kvs,k,.inl e,rfl,rfl⟩
theorem DPut.k {H:Hp} {a:Addr} {kvs:List (Key × V)} {k:Key} {v:V} (e:H a=some (.dK kvs)) (hl:kvs.length<sizeLine):DPut H a (kV k) v (upd H a (.dK (bo kvs k v))):=.inl ⟨kvs,k,e,rfl,hl,rfl⟩
section
variable {X:Cx} {pins:List (Addr × Obj)} {σ:St} {H:Hp} {s:Shared} {a:Addr} {y v:V} {u r:Value} {o:Option V} {A:Around} {E:Value->Shared->Prop}
theorem Inv.big (I:Inv X pins σ H s):sysModules<s.heap.objs.size:=by
 have h:mainGlobals<s.heap.objs.size:=(I.mod.glob.keeps I.bk).lt
 exact Nat.lt_trans (by decide) h
theorem d_getItem {Q:Value->Shared->Prop} (hu:A.units+1<cLine) (I:Inv X pins σ H s) (g:DGet H a y (some v)) (ry:RelV y u) (h:∀ w' s',Inv X pins σ H s'->RelV v w'->Q w' s') :
  wpAny (model X.prog X.w) A (getItem (.ref a) u) Q E s:=by
 rcases g with ⟨kvs,k,e,ey,l⟩ | ⟨kvs,k,b,e,ey,eb,l⟩
 ·subst ey
  obtain ⟨z,hd,vs,rel,dd⟩:=fS I.hok e
  obtain ⟨w',hw,rw'⟩:=RelO.some_of (v:=v) (o:=valueAt vs k) (by rw [l];exact rel.val k)
  exact wpAny_getItem_of (kV_is ry) dd.mapOf hw (h w' _ (I.tok _) rw')
 ·subst ey
  cases (show u=Value.ref b from ry)
  obtain ⟨z,hd,xs,rel,dd⟩:=dt_rd I.hok e
  obtain ⟨w',hw,rw'⟩:=RelO.some_of (v:=v) (o:=(atKey xs k).map (·.2)) (by rw [l];exact rel.val k)
  obtain ⟨p,hp,hp2⟩:=Option.map_eq_some_iff.mp hw
  refine wpAny_getItem_heap (tupleKind_room_in1 hu) (key_of I.hok eb) dd hp ?_
  rw [hp2]
  exact h w' _ (I.tok _) rw'
theorem d_in {Q:Value->Shared->Prop} (hu:A.units+1<cLine) (I:Inv X pins σ H s) (g:DGet H a y o) (ry:RelV y u) (h:∀ s',Inv X pins σ H s'->Q (.bool o.isSome) s') :
  wpAny (model X.prog X.w) A (compareOp .In u (.ref a)) Q E s:=by
 rcases g with ⟨kvs,k,e,ey,l⟩ | ⟨kvs,k,b,e,ey,eb,l⟩
 ·subst ey
  obtain ⟨z,hd,vs,rel,dd⟩:=fS I.hok e
  refine wpAny_in_of (kV_is ry) hd dd.mapOf ?_
  rw [<- (rel.val k).isSome_eq,<- l]
  exact h _ (I.tok _)
 ·subst ey
  cases (show u=Value.ref b from ry)
  obtain ⟨z,hd,xs,rel,dd⟩:=dt_rd I.hok e
  refine wpAny_in_heap (tupleKind_room_in1 hu) (key_of I.hok eb) hd dd ?_
  have q:=(rel.val k).isSome_eq
  rw [Option.isSome_map] at q
  rw [<- q,<- l]
  exact h _ (I.tok _)
theorem d_notIn {Q:Value->Shared->Prop} (hu:A.units+1<cLine) (I:Inv X pins σ H s) (g:DGet H a y o) (ry:RelV y u) (h:∀ s',Inv X pins σ H s'->Q (.bool (!o.isSome)) s') :
  wpAny (model X.prog X.w) A (compareOp .NotIn u (.ref a)) Q E s:=by
 rcases g with ⟨kvs,k,e,ey,l⟩ | ⟨kvs,k,b,e,ey,eb,l⟩
 ·subst ey
  obtain ⟨z,hd,vs,rel,dd⟩:=fS I.hok e
  refine wpAny_notIn_of (kV_is ry) hd dd.mapOf ?_
  rw [<- (rel.val k).isSome_eq,<- l]
  exact h _ (I.tok _)
 ·subst ey
  cases (show u=Value.ref b from ry)
  obtain ⟨z,hd,xs,rel,dd⟩:=dt_rd I.hok e
  refine wpAny_notIn_heap (tupleKind_room_in1 hu) (key_of I.hok eb) hd dd ?_
  have q:=(rel.val k).isSome_eq
  rw [Option.isSome_map] at q
  rw [<- q,<- l]
  exact h _ (I.tok _)
theorem d_write {h':Heap} {t':Nat} {ob:HO} (I:Inv X pins σ H s) (mu:Mut (H a)) (hs:Heap.SameBut a s.heap h') (he:∃ q,h'.get? a=some q) (new:ObjOk X.prog X.w (upd H a ob) h' a ob) :
  Inv X pins σ (upd H a ob) { s with heap:=h',toks:=t' }:=
 I.write (x:=a) (e:=a) mu (.inl rfl) (λ b q hb z=>(hs.2 b hb).trans z) he new
theorem dk_new {P:Program} {w:World} {H':Hp} {h':Heap} {kvs:List (Key × V)} {vs:List (Key × Value)} (z:kvs.length<=sizeLine) (hd:(a == sysModules)=false) (rel:KV kvs vs) (dd:h'.DictOf (bb P w) a vs) :
  ObjOk P w H' h' a (.dK kvs):=⟨z,hd,vs,rel,dd⟩
theorem d_setItem {H':Hp} {Q:Unit->Shared->Prop} (hu:A.units+1<cLine) (I:Inv X pins σ H s) (g:DPut H a y v H') (ry:RelV y u) (rv:RelV v r) (h:∀ s',Inv X pins σ H' s'->Q () s') :
  wpAny (model X.prog X.w) A (setItem (.ref a) u r) Q E s:=by
 rcases g with ⟨kvs,k,e,ey,l,eH⟩ | ⟨kvs,k,b,e,ey,eb,l,eH⟩
 ·subst ey eH
  obtain ⟨z,hd,vs,rel,dd⟩:=dk_of I.hok e
  have hz:vs.length<=sizeLine:=by rw [<- rel.length];exact z
  have hl:(bo kvs k v).length<=sizeLine:=by have:=length_putK kvs k v;omega
  refine wpAny_setItem_pairs (hsz:=hz) (kV_is ry) dd λ h' dd' hs=>h _ ?_
  have he:∃ q,h'.get? a=some q:=let ⟨q,_,_,hq,_⟩:=dd';⟨q,hq⟩
  exact d_write I (by rw [e];exact True.intro) hs he (dk_new hl hd (rel.put k rv) dd')
 ·subst ey eH
  cases (show u=Value.ref b from ry)
  obtain ⟨z,hd,xs,rel,dd⟩:=dt_of I.hok e
  have hz:xs.length<=sizeLine:=by rw [<- Paired.length rel];exact z
  have hl:(bo kvs k v).length<=sizeLine:=by have:=length_putK kvs k v;omega
  refine wpAny_setItem_heap (hsz:=hz) (tupleKind_room_in1 hu) (key_of I.hok eb) dd λ h' dd' hs=>h _ ?_
  obtain ⟨q,es,ep,hq,h2,h3,h4,_,h5⟩:=dd'
  refine d_write I (by rw [e];exact True.intro) hs ⟨q,hq⟩ ⟨hl,hd,_,(rel.put k eb rv).keeps λ c ys ec=>?_,q,es,ep,hq,h2,h3,h4,h5⟩
  rw [ai (bz ec e (λ z=>nomatch z))]
  exact ec
end
section
variable {X:Cx} {pins:List (Addr × Obj)} {σ:St} {H:Hp} {s:Shared} {a:Addr} {kvs:List (Key × V)} {k:Key} {u:Value} {A:Around} {E:Value->Shared->Prop}
theorem d_clear {Q:Value->Shared->Prop} (I:Inv X pins σ H s) (e:H a=some (.dK kvs)) (h:∀ s',Inv X pins σ (upd H a (.dK [])) s'->Q .none s'):wpAny (model X.prog X.w) A (call (.builtin "dict.clear") [.ref a]) Q E s:=by
 obtain ⟨z,hd,vs,rel,dd⟩:=dk_of I.hok e
 refine call_meetsIn PySem.F.slot_dict_clear dd.typeIs PySem.F.entry_dict_clear (PySem.F.args_dict_clear_1 _) (meets_dict_clear (bb X.prog X.w) a) ⟨vs,dd,by rw [<- rel.length];exact z,λ h' dd' hs=>h _ ?_⟩
 have he:∃ q,h'.get? a=some q:=let ⟨q,_,_,hq,_⟩:=dd';⟨q,hq⟩
 exact d_write (t':=s.toks) I (by rw [e];exact True.intro) hs he (dk_new (im _) hd .nil dd')
theorem d_len {Q:Value->Shared->Prop} (I:Inv X pins σ H s) (e:Rd H a (.dK kvs)) (h:∀ t s',Inv X pins σ H s'->Q (.int kvs.length t) s'):wpAny (model X.prog X.w) A (call (.builtin "len") [.ref a]) Q E s:=by
 obtain ⟨z,hd,vs,rel,dd⟩:=fS I.hok e
 refine call_len_dict hd dd (by rw [<- rel.length];rw [sizeLine_eq] at z;omega) ?_
 rw [<- rel.length]
 exact h _ _ (I.tok _)
end
noncomputable def NoSl (i:Expr):Prop:=∀ ov iv,subscripted i false ov iv=operate [ov,iv] (getItem ov iv)
theorem subD_of {prog:Program} {w:World} {A:Around} {E:Value->Shared->Prop} {s:Shared} {env:Env} {value slice:Expr} {pos:Pos} {T id:String} {Q:Value->Shared->Prop}
  (hl:typeLookup (.type T) "__getitem__"=pure (some (.builtin id))) (hs:NoSl slice)
  (h:wpAny (model prog w) A (eval value env) (λ o s₁=>wpAny (model prog w) A (eval slice env) (λ i s₂=>s₂.TypeIs o T/\wpAny (model prog w) A (getItem o i) Q E s₂) E s₁) E s) :
  wpAny (model prog w) A (eval (.Subscript value slice pos) env) Q E s:=by
 refine Subscript_ (iX h (λ o s₁ h₁=>iX h₁ (λ i s₂ h₂=>?_) λ _ _ x=>x) λ _ _ x=>x)
 obtain ⟨hT,h₂⟩:=h₂
 unfold subscriptTail
 refine hU ?_
 rw [getitemInPython_of_ne hT.not_modules]
 refine hU (wpAny_specialOf hT hl ?_)
 have fin:wpAny (model prog w) A (subscripted slice false o i) (λ r s₃=>wpAny (model prog w) A (letTemporaryGo value o r >>= λ _=>pure r) Q E s₃) E s₂:=by
  rw [hs o i]
  exact wpAny_operating (iX h₂ (λ r s₃ h₃=>hU (wpAny_letTemporaryGo (ip h₃))) λ _ _ x=>x)
 first
  | exact ip (hU fin)
  | exact hU (ip (hU fin))
  | exact hU fin
theorem dict_typeIs {X:Cx} {pins:List (Addr × Obj)} {σ:St} {H:Hp} {s:Shared} {a:Addr} {y:V} {o:Option V} (I:Inv X pins σ H s) (g:DGet H a y o):s.TypeIs (.ref a) "dict":=by
 rcases g with ⟨kvs,k,e,_,_⟩ | ⟨kvs,k,b,e,_,_,_⟩
 ·obtain ⟨_,_,vs,_,dd⟩:=fS I.hok e
  exact dd.typeIs
 ·obtain ⟨_,_,xs,_,dd⟩:=dt_rd I.hok e
  exact dd.typeIs
noncomputable def tDGet (td ty:TE):TE:=λ σ H Q=>td σ H λ x H1=>ty σ H1 λ y H2=>∃ a v,x=.ref a/\DGet H2 a y (some v)/\Q v H2
noncomputable def tDIn (ty td:TE):TE:=λ σ H Q=>ty σ H λ y H1=>td σ H1 λ x H2=>∃ a o,x=.ref a/\DGet H2 a y o/\Q (.bl o.isSome) H2
noncomputable def tDNotIn (ty td:TE):TE:=λ σ H Q=>ty σ H λ y H1=>td σ H1 λ x H2=>∃ a o,x=.ref a/\DGet H2 a y o/\Q (.bl (!o.isSome)) H2
noncomputable def sDPut (td ty tv:TE):TS:=λ D σ H=>tv σ H λ v H1=>td σ H1 λ x H2=>ty σ H2 λ y H3=>∃ a H4,x=.ref a/\DPut H3 a y v H4/\D.nx σ H4
section
variable {X:Cx} {o i e value:Expr} {pos pos' tpos:Pos} {td ty tv:TE}
theorem cH (hu:X.A.units+1<cLine) (ho:PE X o td) (hi:PE X i ty) (hs:NoSl i):PE X (.Subscript o i pos) (tDGet td ty):=by
 intro pins s σ H Q I h
 refine subD_of PySem.F.slot_dict_getitem.lookup hs (thn (ho pins s σ H _ I h) λ u s1 ⟨x,H1,I1,rx,q1⟩=>thn (hi pins s1 σ H1 _ I1 q1) λ iv s2 ⟨y,H2,I2,ry,a,v,ex,g,q2⟩=>?_)
 subst ex
 obtain rfl:u=Value.ref a:=rx
 exact ⟨dict_typeIs I2 g,d_getItem hu I2 g ry λ w' s3 I3 rw'=>⟨v,H2,I3,rw',q2⟩⟩
theorem pc_din (hu:X.A.units+1<cLine) (hi:PE X i ty) (ho:PE X o td):PC X .In i o (tDIn ty td):=by
 intro pins s σ H Q I h
 refine thn (hi pins s σ H _ I h) λ iv s1 ⟨y,H1,I1,ry,q1⟩=>thn (ho pins s1 σ H1 _ I1 q1) λ u s2 ⟨x,H2,I2,rx,a,ov,ex,g,q2⟩=>?_
 subst ex
 obtain rfl:u=Value.ref a:=rx
 exact d_in hu I2 g ry λ s3 I3=>⟨.bl ov.isSome,H2,I3,rfl,q2⟩
theorem gv (hu:X.A.units+1<cLine) (hi:PE X i ty) (ho:PE X o td):PC X .NotIn i o (tDNotIn ty td):=by
 intro pins s σ H Q I h
 refine thn (hi pins s σ H _ I h) λ iv s1 ⟨y,H1,I1,ry,q1⟩=>thn (ho pins s1 σ H1 _ I1 q1) λ u s2 ⟨x,H2,I2,rx,a,ov,ex,g,q2⟩=>?_
 subst ex
 obtain rfl:u=Value.ref a:=rx
 exact d_notIn hu I2 g ry λ s3 I3=>⟨.bl (!ov.isSome),H2,I3,rfl,q2⟩
theorem bw (hu:X.A.units+1<cLine) (ho:PE X o td) (hi:PE X i ty) (hv:PE X value tv) (hs:swapsWith value (some (.Subscript o i pos')) pos.line X.env=pure false) :
  PS X (.Assign [.Subscript o i pos'] value pos) (sDPut td ty tv):=by
 intro pins s σ H D I h
 refine wpAny_Assign_Subscript (thn (hv pins s σ H _ I h) λ r s1 ⟨v,H1,I1,rv,q1⟩=>thn (ho pins s1 σ H1 _ I1 q1) λ u s2 ⟨x,H2,I2,rx,q2⟩=>thn (hi pins s2 σ H2 _ I2 q2) λ iv s3 ⟨y,H3,I3,ry,a,H4,ex,g,q3⟩=>?_) hs
 subst ex
 obtain rfl:u=Value.ref a:=rx
 exact d_setItem hu I3 g ry rv λ s4 I4=>⟨σ,H4,I4,q3⟩
end
theorem dk_empty {P:Program} {w:World} {H:Hp} (h:Heap) (hb:sysModules<h.objs.size):ObjOk P w H (h.push { cls:=.type "dict",data:=.dict #[] }) h.objs.size (.dK []):=
 ⟨im _,jE.mpr (Ne.symm (iI hb)),[],.nil,Heap.DictOf.new h⟩
noncomputable def tDNewK:TE:=λ _ H Q=>∀ p,H p=none->Q (.ref p) (upd H p (.dK []))
section
variable {X:Cx} {pos:Pos}
theorem bL:PE X (.Dict [] [] pos) tDNewK:=λ pins s σ H Q I h=>
 wpAny_Dict_empty ⟨.ref s.heap.objs.size,_,I.laid (a:=s.heap.objs.size) (o:=.dK []) (t':=s.toks) (λ _ _ q=>ia _ q) (ic _) (dk_empty s.heap I.big),rfl,h _ (I.hok.fresh (ic _))⟩
end
structure M1 (X:Cx) (o:Expr) (m:Str) (apos:Pos) (e:Expr) (cpos:Pos):Prop where
 base:attributeBase o m X.env (eval o X.env)=eval o X.env
 few:((backTo cpos (starEach [e] X.env)).all (λ x=>!x.1) && (backToKw cpos (keywordEach [] X.env)).all (λ x=>x.1.isSome)
  && decide (([e]:List Expr).length+([]:List Keyword).length+(if ([]:List Keyword).isEmpty then 0 else 1)<30))=true
 line:(apos.endLine == cpos.line)=true
 trees:backTo cpos (starEach [e] X.env)=[(false,eval e X.env)]
structure M2 (X:Cx) (o:Expr) (m:Str) (apos:Pos) (e f:Expr) (cpos:Pos):Prop where
 base:attributeBase o m X.env (eval o X.env)=eval o X.env
 few:((backTo cpos (starEach [e,f] X.env)).all (λ x=>!x.1) && (backToKw cpos (keywordEach [] X.env)).all (λ x=>x.1.isSome)
  && decide (([e,f]:List Expr).length+([]:List Keyword).length+(if ([]:List Keyword).isEmpty then 0 else 1)<30))=true
 line:(apos.endLine == cpos.line)=true
 trees:backTo cpos (starEach [e,f] X.env)=[(false,eval e X.env),(false,eval f X.env)]
noncomputable def IsD (H:Hp) (a:Addr):Prop:=(∃ kvs,Rd H a (.dK kvs))∨∃ kvs,Rd H a (.dT kvs)
theorem isD_at {X:Cx} {pins:List (Addr × Obj)} {σ:St} {H:Hp} {s:Shared} {a:Addr} (I:Inv X pins σ H s) (d:IsD H a) :
  s.TypeIs (.ref a) "dict"/\(∀ b,Value.ref a=.ref b->∃ ob,s.heap.get? b=some ob/\ob.dict=none)/\(a == sysModules)=false:=by
 rcases d with ⟨kvs,e⟩ | ⟨kvs,e⟩
 ·obtain ⟨_,hd,vs,_,dd⟩:=fS I.hok e
  refine ⟨dd.typeIs,λ b q=>?_,hd⟩
  cases q
  obtain ⟨ob,_,_,h1,h2,_⟩:=dd
  exact ⟨ob,h1,h2.2.1⟩
 ·obtain ⟨_,hd,xs,_,dd⟩:=dt_rd I.hok e
  refine ⟨dd.typeIs,λ b q=>?_,hd⟩
  cases q
  obtain ⟨ob,_,_,h1,h2,_⟩:=dd
  exact ⟨ob,h1,h2.2.1⟩
section
variable {X:Cx} {pins:List (Addr × Obj)} {σ:St} {H:Hp} {s:Shared} {a:Addr} {y d:V} {u r:Value} {o:Option V} {A:Around} {E:Value->Shared->Prop}
theorem d_get2 {Q:Value->Shared->Prop} (hu:A.units+1<cLine) (I:Inv X pins σ H s) (g:DGet H a y o) (ry:RelV y u) (rd:RelV d r) (h:∀ w' s',Inv X pins σ H s'->RelV (o.getD d) w'->Q w' s') :
  wpAny (model X.prog X.w) A (call (.builtin "dict.get") [.ref a,u,r]) Q E s:=by
 rcases g with ⟨kvs,k,e,ey,l⟩ | ⟨kvs,k,b,e,ey,eb,l⟩
 ·subst ey
  obtain ⟨z,hd,vs,rel,dd⟩:=fS I.hok e
  refine call_meetsIn PySem.F.slot_dict_get dd.typeIs PySem.F.entry_dict_get (PySem.F.args_dict_get_3 _ _ _) (meets_dict_get_default (bb X.prog X.w) a (kV_is ry) hd r) ⟨_,dd.mapOf,h _ _ (I.tok _) ?_⟩
  rw [l]
  exact (rel.val k).getD rd
 ·subst ey
  cases (show u=Value.ref b from ry)
  obtain ⟨z,hd,xs,rel,dd⟩:=dt_rd I.hok e
  refine call_meetsIn PySem.F.slot_dict_get dd.typeIs PySem.F.entry_dict_get (PySem.F.args_dict_get_3 _ _ _) (meetsH_dict_get_default (tupleKind (bb X.prog X.w)) a b hd r) ⟨tupleKind_room_in1 hu,k,xs,key_of I.hok eb,dd,h _ _ (I.tok _) ?_⟩
  rw [l]
  exact (rel.val k).getD rd
end
noncomputable def tDGet2 (td ty tx:TE):TE:=λ σ H Q=>td σ H λ x H1=>∃ a,x=.ref a/\IsD H1 a/\ty σ H1 λ y H2=>tx σ H2 λ z H3=>∃ o,DGet H3 a y o/\Q (o.getD z) H3
section
variable {X:Cx} {o e f:Expr} {apos cpos:Pos} {td ty tx:TE}
theorem eL (hu:X.A.units+1<cLine) (ho:PE X o td) (he:PE X e ty) (hf:PE X f tx) (m:M2 X o "get" apos e f cpos):PE X (.Call (.Attribute o "get" apos) [e,f] [] cpos) (tDGet2 td ty tx):=by
 intro pins s σ H Q I h
 refine wpAny_Call_method m.base m.few m.line PySem.F.plainAttrs_dict PySem.F.slot_dict_get PySem.F.type_dict_get (thn (ho pins s σ H _ I h) λ u s1 ⟨x,H1,I1,rx,a,ex,d,q1⟩=>?_)
 subst ex
 obtain rfl:u=Value.ref a:=rx
 obtain ⟨t1,t2,_⟩:=isD_at I1 d
 refine ⟨t1,t2,?_⟩
 rw [m.trees]
 refine Calls.callWith_builtin rfl (Calls.evalArgs_plain (Calls.spliced_cons (thn (he pins s1 σ H1 _ I1 q1) λ iv s2 ⟨y,H2,I2,ry,q2⟩=>
  Calls.spliced_cons (thn (hf pins s2 σ H2 _ I2 q2) λ fv s3 ⟨z,H3,I3,rz,ov,g,q3⟩=>Calls.spliced_nil ?_))))
 exact d_get2 hu I3 g ry rz λ w' s4 I4 rw'=>⟨_,H3,I4,rw',q3⟩
end
section
variable {X:Cx} {pins:List (Addr × Obj)} {σ:St} {H:Hp} {s:Shared} {a:Addr} {kvs:List (Key × V)} {A:Around} {E:Value->Shared->Prop}
end
section
variable {X:Cx} {pins:List (Addr × Obj)} {σ:St} {H:Hp} {s:Shared} {a:Addr} {y:V} {u:Value} {A:Around} {E:Value->Shared->Prop}
end
end L2
namespace L2
open PySem PySem.Spec PyProof.Rows
section
variable {X:Cx}
theorem call_lenD:fF X (.builtin "len") (λ xs H Q=>∃ a kvs,xs=[V.ref a]/\H a=some (.dK kvs)/\Q (.int kvs.length) H):=by
 intro pins s σ H xs us Q I r h
 obtain ⟨a,kvs,rfl,ha,q⟩:=h
 obtain ⟨u,rfl,ru⟩:=vals1 r
 cases ru
 exact d_len I (.inl ha) λ t s' I'=>⟨.int kvs.length,H,I',⟨t,rfl⟩,q⟩
end
end L2
namespace L2
open PySem PySem.Spec PyProof.Rows
section
variable {κ:Type} [DecidableEq κ]
theorem valV_not {kvs:List (κ × V)} {k:κ} (h:bY kvs k=none):¬ k∈kvs.map (·.1):=by
 intro m
 obtain ⟨p,hp,e⟩:=iy.mp m
 have q:(kvs.any λ kv=>decide (kv.1=k))=true:=List.any_eq_true.mpr ⟨p,hp,iM e⟩
 rw [dX,h] at q
 exact absurd q (by simp)
theorem valV_in {kvs:List (κ × V)} {k:κ} {v:V} (h:bY kvs k=some v):k∈kvs.map (·.1):=by
 have q:(kvs.any λ kv=>decide (kv.1=k))=true:=by
  rw [dX,h]
  all_goals rfl
 obtain ⟨p,hp,e⟩:=List.any_eq_true.mp q
 exact iy.mpr ⟨p,hp,of_decide_eq_true e⟩
theorem dropK_pos {p:κ × V} {r:List (κ × V)} {k:κ} (e:p.1=k):dropK (p::r) k=dropK r k:=by
 unfold dropK
 rw [List.filter_cons,if_neg (by simp [e])]
theorem dropK_neg {p:κ × V} {r:List (κ × V)} {k:κ} (e:¬ p.1=k):dropK (p::r) k=p::dropK r k:=by
 unfold dropK
 rw [List.filter_cons,if_pos (by simp [e])]
theorem dropK_no:∀ {kvs:List (κ × V)} {k:κ},¬ k∈kvs.map (·.1)->dropK kvs k=kvs
 | [],_,_=>rfl
 | p::r,k,h=>by
  have h':¬ k∈r.map (·.1):=λ m=>by
   obtain ⟨q,hq,e⟩:=iy.mp m
   exact h (iy.mpr ⟨q,iw.mpr (Or.inr hq),e⟩)
  rw [dropK_neg λ e=>h (iy.mpr ⟨p,iw.mpr (Or.inl rfl),e⟩),dropK_no h']
theorem dropK_mem {kvs:List (κ × V)} {k:κ} {p:κ × V} (h:p∈dropK kvs k):p∈kvs:=(List.mem_filter.mp h).1
end
end L2
namespace L2
open PySem PySem.Spec PyProof.Rows
section
variable {X:Cx}
noncomputable def PTs (X:Cx) (ifs:List Expr) (t:TT):Prop:=
 ∀ (pins:List (Addr × Obj)) (s:Shared) (σ:St) (H:Hp) (Q:Bool->Hp->Prop),Inv X pins σ H s->t σ H Q->
  wpAny (model X.prog X.w) X.A (forIn ifs true λ c r=>if r=true then do let ok <- isTrue c X.env (eval c X.env);pure (ForInStep.yield ok) else pure (ForInStep.yield r)) (TP X pins σ Q) X.xe s
noncomputable def tYes:TT:=λ _ H Q=>Q true H
theorem cF:PTs X [] tYes:=λ pins s σ H Q I h=>wpAny_tests_nil ⟨H,I,h⟩
theorem pts_one {c:Expr} {t:TT} (h:PT X c t):PTs X [c] t:=λ pins s σ H Q I q=>wpAny_tests_one (h pins s σ H Q I q)
noncomputable def ClSub (X:Cx):List (Str × Addr)->Prop
 | []=>True
 | p::r=>X.env.cells.lookup p.1=some p.2/\ClSub X r
theorem ClSub.at:∀ {cl:List (Str × Addr)},ClSub X cl->∀ y c,cl.lookup y=some c->X.env.cells.lookup y=some c
 | [],_,y,c,e=>by simp at e
 | (z,d)::r,h,y,c,e=>by
  by_cases q:y=z
  ·subst q
   simp at e
   subst e
   exact h.1
  ·rw [jG,jE.mpr q] at e
   exact ClSub.at h.2 y c e
theorem lookup_has {cl:List (Str × Addr)} {y:Str}:y∈cl.map (·.1)->∃ c,cl.lookup y=some c:=by
 induction cl with
 | nil=>intro h;simp at h
 | cons p r ih=>
  intro h
  by_cases q:y=p.1
  ·subst q
   exact ⟨p.2,by cases p;simp⟩
  ·obtain ⟨c,e⟩:=ih (by
    rcases iw.mp h with z | z
    ·exact absurd z q
    ·exact z)
   exact ⟨c,by rw [jG,jE.mpr q];exact e⟩
theorem gD {scope:Scope} {env:Env} {z:Str} {k:NameKind} (h:(z,k)∈(relabel scope env).names) (hk:k=.cell∨k=.free):(z,NameKind.cell)∈scope.names∨(z,NameKind.free)∈scope.names:=by
 unfold relabel at h
 obtain ⟨⟨n,k'⟩,hm,e⟩:=iy.mp h
 dsimp only at e
 split at e
 ·rename_i c
  cases e
  have:k'=.free:=by
   have:=(Bool.and_eq_true_iff.mp (Bool.and_eq_true_iff.mp c).1).1
   simpa using this
  subst this
  exact .inr hm
 ·cases e
  rcases hk with rfl | rfl
  ·exact .inl hm
  ·exact .inr hm
theorem Clos.many {scope:Scope} {cl:List (Str × Addr)} {ys:List Str} (h:closureFor scope X.env=pure cl) (hs:ClSub X cl) (hy:cl.map (·.1)=ys)
  (hr:∀ p∈scope.names,(p.2=.cell∨p.2=.free)->p.1∈ys):Clos X scope cl:=by
 refine ⟨h,λ y c e=>hs.at y c e,λ y hz=>lookup_has ?_⟩
 rw [hy]
 rcases hz with q | q
 ·rcases gD (jv q) (.inl rfl) with m | m
  ·exact hr _ m (.inl rfl)
  ·exact hr _ m (.inr rfl)
 ·rcases gD (jv q) (.inr rfl) with m | m
  ·exact hr _ m (.inl rfl)
  ·exact hr _ m (.inr rfl)
noncomputable def RdAll (X:Cx) (scope:Scope):List Str->List Nat->Prop
 | [],[]=>True
 | y::ys,j::js=>(X.N[j]?=some y/\X.env.scope.names.lookup y=some .cell/\(relabel scope X.env).names.lookup y=some .cell)/\RdAll X scope ys js
 | _,_=>False
theorem RdAll.len {scope:Scope}:∀ {ys:List Str} {js:List Nat},RdAll X scope ys js->js.length=ys.length
 | [],[],_=>rfl
 | y::ys,j::js,h=>by rw [ja,ja,RdAll.len h.2]
theorem RdAll.at {scope:Scope}:∀ {ys:List Str} {js:List Nat},RdAll X scope ys js->∀ (i:Nat) (y:Str) (j:Nat),ys[i]?=some y->js[i]?=some j->X.N[j]?=some y/\X.env.scope.names.lookup y=some .cell/\(relabel scope X.env).names.lookup y=some .cell
 | [],[],_,i,y,j,e,_=>by simp at e
 | y'::ys,j'::js,h,0,y,j,e1,e2=>by
  simp at e1 e2
  subst e1 e2
  exact h.1
 | y'::ys,j'::js,h,i+1,y,j,e1,e2=>RdAll.at h.2 i y j (by simpa using e1) (by simpa using e2)
theorem Reads.many {scope:Scope} {ys:List Str} {js:List Nat} (h:RdAll X scope ys js):Reads X scope ys (λ σ=>js.map λ j=>σ.getD j Option.none):=by
 refine λ σ=>⟨by rw [hZ,h.len],λ i y v e1 e2=>?_⟩
 rw [iq] at e2
 cases q:js[i]? with
 | none=>rw [q] at e2;cases e2
 | some j=>
  rw [q] at e2
  obtain ⟨h1,h2,h3⟩:=h.at i y j e1 q
  refine ⟨j,h1,?_,h2,h3⟩
  have e3:σ.getD j Option.none=some v:=iG e2
  rw [iR] at e3
  cases z:σ[j]? with
  | none=>rw [z] at e3;cases e3
  | some o=>rw [z] at e3;exact i7 some e3
noncomputable def tCompG (k:Nat) (wi:TI) (g:TG) (tc:TT) (te:TE) (sel:St->St):TE:=λ σ H Q=>wi σ H λ J H1=>∀ l,H1 l=none->∃ W:Nat->Nat->Hp->Prop,(∃ m,W 0 m (upd H1 l (.lst [])))/\∀ i m H,W i m H->
 (J.stop i H/\Q (.ref l) H)∨(J.go i H/\∀ x H',J.yld i H x H'->∀ zs:St,zs.length=k->g x (zs++sel σ) H' λ σ2 H2=>(∃ zs':St,zs'.length=k/\σ2=zs'++sel σ)/\tc σ2 H2 λ b H3=>if b=true then te σ2 H3 λ y H4=>∃ ys,H4 l=some (.lst ys)/\ys.length<sizeLine/\∃ m',m'<m/\W (i+1) m' (upd H4 l (.lst (ys++[y]))) else ∃ m',m'<m/\W (i+1) m' H3)
theorem fV {prog:Program} {w:World} {A:Around} {R:Result->Shared->Prop} {s:Shared} {elt target iter:Expr} {ifs:List Expr} {scope:Scope} {pos:Pos} {it acc:Value} {env:Env} (I:Nat->Shared->Prop)
  (turn:∀ n s,I n s->wpAny (model prog w) A (pyNext it) (λ r s₁=>match r with
   | none=>R (.ok .next) s₁
   | some v=>wpAny (model prog w) A (letOwnedTupleGo target it v) (λ _ s₁'=>wpAny (model prog w) A (assign target env v) (λ _ s₂=>
     wpAny (model prog w) A (forIn ifs true λ c r=>if r=true then do let ok <- isTrue c env (eval c env);pure (ForInStep.yield ok) else pure (ForInStep.yield r)) (λ ok s₃=>if ok=true then wpAny (model prog w) A (eval elt env) (λ x s₄=>
      wpAny (model prog w) A (call (.builtin "list.append") [acc,x]) (λ _ s₅=>∃ m,m<n/\I m s₅) (λ _ _=>False) s₄) (λ _ _=>False) s₃ else ∃ m,m<n/\I m s₃) (λ _ _=>False) s₂) (λ _ _=>False) s₁') (λ _ _=>False) s₁) (λ _ _=>False) s)
  (n:Nat) (h:I n s) :
  codeAny (model prog w) A (.compLoop (.ListComp elt [⟨target,iter,ifs,0⟩] scope pos) 0 it acc env) R s:=by
 refine codeAny_loop rfl I (λ n s hI=>?_) n h
 show wpAny _ _ ((compTurn (.ListComp elt [⟨target,iter,ifs,0⟩] scope pos) 0 it acc env).onRaise (λ x=>do noteFrame x env;theTreesLotGoes x)) _ _ s
 refine wpAny_noted ?_
 rw [compTurn_list]
 refine hU (jS (hU (iX (turn n s hI) (λ r s₁ h₁=>?_) λ _ _ h'=>h'.elim)))
 cases r with
 | none=>exact ip h₁
 | some v=>
  refine hU (iX h₁ (λ _ s₁' h₁'=>?_) λ _ _ h'=>h'.elim)
  refine hU (iX h₁' (λ _ s₂ h₂=>hU (iX h₂ (λ ok s₃ h₃=>?_) λ _ _ h'=>h'.elim)) λ _ _ h'=>h'.elim)
  cases ok with
  | false=>exact ip ⟨rfl,h₃⟩
  | true=>exact hU (hU (iX h₃ (λ x s₄ h₄=>hU (iX h₄ (λ _ s₅ h₅=>ip (ip ⟨rfl,h₅⟩)) λ _ _ h'=>h'.elim)) λ _ _ h'=>h'.elim))
theorem comp_blockG {elt iter tg:Expr} {ifs:List Expr} {xs:List Str} {pos:Pos} {scope:Scope} {cl:List (Str × Addr)} {rest:List Str} {sel:St->St} {g:TG} {tc:TT} {te:TE} {pins:List (Addr × Obj)} {σ:St} {H:Hp} {s:Shared} {Q:VK}
  {it:Addr} {fp:List Addr} {tn:Nat->Heap->Prop} {J:It} {RR:Value->Addr->Result->Shared->Prop} {E:Value->Shared->Prop}
  (hcalm:X.calm=true) (hkind:scope.kind=.function) (hcell:∀ z∈scope.names,z.2≠.cell) (hc:Clos X scope cl) (hr:Reads X scope rest sel)
  (hg:∀ (C:Addr) (s:Shared) (H:Hp),PG (cE X pins (xs++rest) scope cl C fp s H) tg g) (ht:∀ (C:Addr) (s:Shared) (H:Hp),PTs (cE X pins (xs++rest) scope cl C fp s H) ifs tc)
  (he:∀ (C:Addr) (s:Shared) (H:Hp),PE (cE X pins (xs++rest) scope cl C fp s H) elt te)
  (I:Inv X pins σ H s) (T:Turn X.prog X.w X.K tg J fp it tn) (t0:tn 0 s.heap) (hf:∀ b∈fp,FpOk X pins H b)
  (h:∀ l,H l=none->∃ W:Nat->Nat->Hp->Prop,(∃ m,W 0 m (upd H l (.lst [])))/\∀ i m H,W i m H->
   (J.stop i H/\Q (.ref l) H)∨(J.go i H/\∀ x H',J.yld i H x H'->∀ zs:St,zs.length=xs.length->g x (zs++sel σ) H' λ σ2 H2=>(∃ zs':St,zs'.length=xs.length/\σ2=zs'++sel σ)/\tc σ2 H2 λ b H3=>if b=true then te σ2 H3 λ y H4=>∃ ys,H4 l=some (.lst ys)/\ys.length<sizeLine/\∃ m',m'<m/\W (i+1) m' (upd H4 l (.lst (ys++[y]))) else ∃ m',m'<m/\W (i+1) m' H3))
  (hRR:∀ (D C:Addr) (H':Hp) (s':Shared),Inv X pins σ H' s'->FpOk X pins H' C->(∃ m,s'.heap.Ns C m)->Q (.ref D) H'->RR (.ref D) C (.ok .next) s') :
  wpAny (model X.prog X.w) X.A (newList []) (λ acc s₃=>wpAny (model X.prog X.w) X.A (newFunctionEnv scope X.env.globals cl [] X.env.qual none .none (some X.env)) (λ cenv s₄=>
   codeAny (model X.prog X.w) X.A (.compStart (.ListComp elt [⟨tg,iter,ifs,0⟩] scope pos) 0 (.ref it) acc { cenv with scope:=relabel scope X.env }) (RR acc cenv.locals) s₄) E s₃) E s:=by
 have hD:H s.heap.objs.size=none:=I.hok.fresh (ic _)
 obtain ⟨W,⟨m0,w0⟩,turn⟩:=h _ hD
 refine wpAny_newObj_type ?_
 have I3:Inv X pins σ (upd H s.heap.objs.size (.lst [])) { s with heap:=s.heap.push { cls:=.type "list",dict:=none,data:=.seq ([]:List Value).toArray } }:=
  I.laid (t':=s.toks) (λ b u e=>ia _ e) (ic _) ⟨im _,[],0,.nil,iA _ rfl⟩
 generalize hs3:({ s with heap:=s.heap.push { cls:=.type "list",dict:=none,data:=.seq ([]:List Value).toArray } }:Shared)=s3 at I3 ⊢
 have old3:∀ b o,s.heap.get? b=some o->s3.heap.get? b=some o:=λ b o e=>by rw [<- hs3];exact ia _ e
 refine wpAny_newFunctionEnv hcell (by intro y hy;simp at hy) (λ h1 hns1 hsb1=>?_) hkind
 have old4:∀ b o,s3.heap.get? b=some o->h1.get? b=some o:=λ b o e=>hsb1.extBut b o (iI (ik e)) (ia _ e)
 have fD:∀ b∈fp,b≠s.heap.objs.size:=λ b hb z=>by
  obtain ⟨o,e,_⟩:=T.obj 0 _ t0 b hb
  exact absurd (ik e) (by rw [z];exact iP _)
 have hf3:∀ b∈fp,FpOk X pins (upd H s.heap.objs.size (.lst [])) b:=λ b hb=>⟨by rw [ai (fD b hb)];exact (hf b hb).1,(hf b hb).2⟩
 have fC:∀ b∈fp,b≠s3.heap.objs.size:=λ b hb z=>by
  obtain ⟨o,e,_⟩:=T.obj 0 _ t0 b hb
  exact absurd (ik (old3 b o e)) (by rw [z];exact iP _)
 have cC:∀ y c,cl.lookup y=some c->c≠s3.heap.objs.size:=λ y c e z=>by
  obtain ⟨v,q⟩:=I3.cell y c (hc.sub y c e)
  exact absurd q.lt (by rw [z];exact iP _)
 have fstk:∀ b∈fp,b ∉ frs X.stack:=λ b hb z=>(iw.mp (I3.stkSub b z)).elim (hf b hb).2.1 (hf b hb).2.2.1
 have ok:(cE X pins (xs++rest) scope cl s3.heap.objs.size fp s3 (upd H s.heap.objs.size (.lst []))).Ok:=by
  refine ⟨I.ok.mod,hkind,I.ok.glob,I.ok.blt,ic _,λ y z c e1 e2=>I.ok.inj y z c (hc.sub y c e1) (hc.sub z c e2),λ y hy=>hc.has y hy,λ y c e=>(nomatch e),I.ok.hd,I.ok.frames,.inl rfl,λ b hb=>⟨fC b hb,λ y c e=>(hf b hb).2.2.2.2.1 y c (hc.sub y c e)⟩,
   I3.bs,ie I.ok.bsz I3.sz,λ b o e hb=>?_,fstk,I3.stack,I3.stkFree⟩
  rcases (hf b hb).2.2.2.1 with z | z
  ·exact I.ok.noex b o e z
  ·exact absurd (iL (ik e) I.ok.bsz) (Nat.not_lt.mpr z)
 have I4:Inv (cE X pins (xs++rest) scope cl s3.heap.objs.size fp s3 (upd H s.heap.objs.size (.lst []))) [] (xs.map (λ _=>none)++sel σ) (upd H s.heap.objs.size (.lst [])) { s3 with heap:=h1,toks:=s3.toks+([]:List (Str × Value)).length }:=by
  refine ⟨ok,rfl,I3.bare,Un.kept old4,⟨_,hns1,λ i y v e1 e2 e3=>?_⟩,λ y c e=>?_,I3.hok.fresh (ic _),λ y c e=>I3.freeC y c (hc.sub y c e),λ p hp=>?_,I3.hok.kept old4,?_⟩
  ·have hge:xs.length<=i:=by
    apply Classical.byContradiction
    intro hlt
    rw [jr (by rw [hZ];omega),iq] at e2
    cases q:xs[i]? with
    | none=>rw [q] at e2;cases e2
    | some z=>rw [q] at e2;cases e2
   have e1':rest[i-xs.length]?=some y:=by
    have e1:(xs++rest)[i]?=some y:=e1
    rw [jc hge] at e1
    exact e1
   have e2':(sel σ)[i-xs.length]?=some (some v):=by
    rw [jc (by rw [hZ];exact hge),hZ] at e2
    exact e2
   obtain ⟨j,q1,q2,q3,q4⟩:=(hr σ).2 _ y v e1' e2'
   obtain ⟨m,hn,hl⟩:=I3.loc
   obtain ⟨u,r,l⟩:=hl j y v q1 q2 (.inr (.inl q3))
   refine ⟨u,r,.inr ⟨.inl q4,?_⟩⟩
   obtain ⟨c,ec⟩:=hc.has y (.inl q4)
   refine ⟨c,ec,?_⟩
   rcases l with ⟨k,_⟩ | ⟨_,c',e',z⟩
   ·have k':X.env.scope.names.lookup y=some .local:=k
    rw [q3] at k';cases k'
   ·rw [hc.sub y c ec] at e'
    cases e'
    obtain ⟨o,ho,hd⟩:=z
    exact ⟨o,old4 c o ho,hd⟩
  ·obtain ⟨v,o,ho,hd⟩:=I3.cell y c (hc.sub y c e)
   exact ⟨v,o,old4 c o ho,hd⟩
  ·have hp':p∈X.pn++pins:=by simpa [cE] using hp
   obtain ⟨e,n,ne,nf,d⟩:=I3.pin p hp'
   exact ⟨old4 _ _ e,n,iI (ik e),λ z=>(iw.mp (I3.stkSub _ z)).elim ne nf,d⟩
  ·show (xs.map (λ _=>none)++sel σ).length=(xs++rest).length
   rw [ir,ir,hZ,(hr σ).1]
 have stat:∀ {H':Hp},(∀ b∈fp,H' b=none)->∀ b∈fp,FpOk (cE X pins (xs++rest) scope cl s3.heap.objs.size fp s3 (upd H s.heap.objs.size (.lst []))) [] H' b:=λ hn b hb=>
  ⟨hn b hb,fC b hb,fstk b hb,.inl hb,λ y c e=>(hf b hb).2.2.2.2.1 y c (hc.sub y c e),λ p hp=>(hf b hb).2.2.2.2.2 p (by simpa [cE] using hp)⟩
 have t4:tn 0 h1:=T.keep _ _ _ t0 λ b hb o e=>old4 b o (old3 b o e)
 have loop:∀ s4:Shared,s4 = { s3 with heap:=h1,toks:=s3.toks+([]:List (Str × Value)).length }->
   codeAny (model X.prog X.w) X.A (.compLoop (.ListComp elt [⟨tg,iter,ifs,0⟩] scope pos) 0 (.ref it) (.ref s.heap.objs.size) (compEnvC scope cl s3.heap.objs.size X.env)) (RR (.ref s.heap.objs.size) s3.heap.objs.size) s4:=by
  rintro s4 rfl
  refine fV (λ n s'=>∃ i zs H',zs.length=xs.length/\Inv (cE X pins (xs++rest) scope cl s3.heap.objs.size fp s3 (upd H s.heap.objs.size (.lst []))) [] (zs++sel σ) H' s'/\tn i s'.heap/\(∀ b∈fp,H' b=none)/\W i n H') ?_ m0
   ⟨0,_,_,hZ _,I4,t4,λ b hb=>(hf3 b hb).1,w0⟩
  rintro n s5 ⟨i,zs,H5,hzs,I5,t5,f5,w5⟩
  rcases turn i n H5 w5 with ⟨stop,qn⟩ | ⟨go,step⟩
  ·refine thn (T.done (cE X pins (xs++rest) scope cl s3.heap.objs.size fp s3 (upd H s.heap.objs.size (.lst []))) rfl rfl rfl hcalm i [] s5 _ H5 _ I5 (stat f5) t5 stop) λ r s6 ⟨er,I6⟩=>?_
   subst er
   have J6:Inv X pins σ H5 s6:=I3.call' (ch:=fp) I6.os I6.base I6.hok I6.bare λ b hb=>⟨(hf b hb).2.2.2.1,(hf b hb).2.1,(hf b hb).2.2.2.2.1,(hf b hb).2.2.2.2.2⟩
   exact hRR _ _ H5 s6 J6 (I3.fpOk (ic _) I6.free) (let ⟨m,hn,_⟩:=I6.loc;⟨m,hn⟩) qn
  ·refine thn (T.item (cE X pins (xs++rest) scope cl s3.heap.objs.size fp s3 (upd H s.heap.objs.size (.lst []))) rfl rfl rfl hcalm i [] s5 _ H5 _ I5 (stat f5) t5 go) λ r s6 ⟨u,er,h6⟩=>?_
   subst er
   refine thn h6 λ _ s7 ⟨y,H7,I7,r7,y7,t7,f7⟩=>?_
   have I7':=I7.pinned (stat f7) (T.obj _ _ t7)
   refine thn (hg _ _ _ _ s7 _ H7 y u _ I7' r7 (step y H7 y7 zs hzs)) λ _ s8 ⟨σ8,H8,I8,⟨zs',hz',e8⟩,q8⟩=>?_
   subst e8
   refine thn (ht _ _ _ _ s8 _ H8 _ I8 q8) λ b s9 ⟨H9,I9,q9⟩=>?_
   cases b with
   | false=>
    rw [if_neg iC] at q9 ⊢
    obtain ⟨m',hm,w9⟩:=q9
    refine ⟨m',hm,i+1,zs',_,hz',I9.unpinned,T.keep _ _ _ t7 λ b hb o e=>(I9.pin (b,o) (iD _ (iD _ (dU hb e)))).1,λ b hb=>?_,w9⟩
    obtain ⟨o,e,d⟩:=T.obj _ _ t7 b hb
    exact (I9.pin (b,o) (iD _ (iD _ (dU hb e)))).2.1
   | true=>
    rw [if_pos rfl] at q9 ⊢
    refine thn (he _ _ _ _ s9 _ H9 _ I9 q9) λ z s9 ⟨yv,H9,I9,r9,ys,hl,hz,m',hm,w9⟩=>?_
    refine thn (cD (X:=cE X pins (xs++rest) scope cl s3.heap.objs.size fp s3 (upd H s.heap.objs.size (.lst []))) _ s9 _ H9 (.ref s.heap.objs.size) [yv] (.ref s.heap.objs.size) [z]
     (λ v H'=>H'=upd H9 s.heap.objs.size (.lst (ys++[yv]))) I9 rfl (.cons r9 .nil) ⟨_,ys,yv,rfl,rfl,hl,hz,rfl⟩) λ _ s10 ⟨v10,H10,I10,_,e10⟩=>?_
    subst e10
    refine ⟨m',hm,i+1,zs',_,hz',I10.unpinned,T.keep _ _ _ t7 λ b hb o e=>(I10.pin (b,o) (iD _ (iD _ (dU hb e)))).1,λ b hb=>?_,w9⟩
    obtain ⟨o,e,d⟩:=T.obj _ _ t7 b hb
    exact (I10.pin (b,o) (iD _ (iD _ (dU hb e)))).2.1
 exact codeAny_compStart_list (loop _ rfl) (T.self _ 0 _ _ _ t4 (loop _ rfl))
theorem cV {elt iter tg:Expr} {ifs:List Expr} {xs:List Str} {pos:Pos} {scope:Scope} {cl:List (Str × Addr)} {rest:List Str} {sel:St->St} {g:TG} {tc:TT} {te:TE} {wi:TI}
  (hcalm:X.calm=true) (hi:PI X tg iter wi) (hg:∀ (pins:List (Addr × Obj)) (fp:List Addr) (C:Addr) (s:Shared) (H:Hp),PG (cE X pins (xs++rest) scope cl C fp s H) tg g) (ht:∀ (pins:List (Addr × Obj)) (fp:List Addr) (C:Addr) (s:Shared) (H:Hp),PTs (cE X pins (xs++rest) scope cl C fp s H) ifs tc)
  (he:∀ (pins:List (Addr × Obj)) (fp:List Addr) (C:Addr) (s:Shared) (H:Hp),PE (cE X pins (xs++rest) scope cl C fp s H) elt te)
  (hc:Clos X scope cl) (hr:Reads X scope rest sel) (hkind:scope.kind=.function:=by rfl) (hcell:∀ z∈scope.names,z.2≠.cell:=by decide +kernel) (hnames:∀ z∈scope.names,z.2=.local->scope.names.lookup z.1=some .local:=by decide +kernel)
  (hs:∀ x,foldedSetIterable iter X.env x=pure x:=by intro _;rfl) :
  PE X (.ListComp elt [⟨tg,iter,ifs,0⟩] scope pos) (tCompG xs.length wi g tc te sel):=by
 intro pins s σ H Q I h
 rw [eval_ListComp]
 refine wpAny_comprehension_free (use:=none) rfl hs hc.clos hkind hnames (thn (hi pins s σ H _ I h) λ v s1 h1=>thn h1 λ itv s2 h2=>?_)
 obtain ⟨it,fp,tn,J,H2,rfl,I2,T,t2,f2,q2⟩:=h2
 refine comp_blockG (RR:=λ acc C=>compPost (model X.prog X.w) X.A X.xe none (EP X pins σ Q) acc C) hcalm hkind hcell hc hr (hg pins fp) (ht pins fp) (he pins fp) I2 T t2 f2 q2 λ D C H' s' I' fC ⟨m,hn⟩ q=>?_
 exact ⟨m,hn,λ h' sb=>⟨.ref D,H',I'.turned (t':=s'.toks) (λ b o hb e=>(sb.2 b hb).trans e) fC.1 fC.2.1 fC.2.2.2.1 fC.2.2.2.2.1 fC.2.2.2.2.2,rfl,q⟩⟩
theorem eK {i:Nat} {y:Str} {py spos:Pos} {elt iter tg:Expr} {ifs:List Expr} {xs:List Str} {pos:Pos} {scope:Scope} {cl:List (Str × Addr)} {rest:List Str} {sel:St->St} {g:TG} {tc:TT} {te:TE} {wi:TI}
  (hNX:X.N.Nodup) (hi':X.N[i]?=some y) (hy:X.env.scope.names.lookup y=some .local)
  (hcalm:X.calm=true) (hi:PI X tg iter wi) (hg:∀ (pins:List (Addr × Obj)) (fp:List Addr) (C:Addr) (s:Shared) (H:Hp),PG (cE X pins (xs++rest) scope cl C fp s H) tg g) (ht:∀ (pins:List (Addr × Obj)) (fp:List Addr) (C:Addr) (s:Shared) (H:Hp),PTs (cE X pins (xs++rest) scope cl C fp s H) ifs tc)
  (he:∀ (pins:List (Addr × Obj)) (fp:List Addr) (C:Addr) (s:Shared) (H:Hp),PE (cE X pins (xs++rest) scope cl C fp s H) elt te)
  (hc:Clos X scope cl) (hr:Reads X scope rest sel) (hkind:scope.kind=.function:=by rfl) (hcell:∀ z∈scope.names,z.2≠.cell:=by decide +kernel) (hnames:∀ z∈scope.names,z.2=.local->scope.names.lookup z.1=some .local:=by decide +kernel)
  (hs:∀ x,foldedSetIterable iter X.env x=pure x:=by intro _;rfl)
  (hsw:swapsWith (.ListComp elt [⟨tg,iter,ifs,0⟩] scope pos) (some (.Name y py)) spos.line X.env=pure true:=by rfl) :
  PS X (.Assign [.Name y py] (.ListComp elt [⟨tg,iter,ifs,0⟩] scope pos) spos) (tAsg (tCompG xs.length wi g tc te sel) (gName i)):=by
 intro pins s σ H D I h
 rw [exec_Assign_Name_used _ _ _ _ hsw]
 refine hU (jS (hU ?_))
 show wpAny _ X.A (do let _ <- comprehension (.ListComp elt [⟨tg,iter,ifs,0⟩] scope pos) scope X.env _ (newList []) false (eval iter X.env) (some (assign (.Name y py) X.env))) _ _ s
 refine hU (iX (wpAny_comprehension_free (use:=some (assign (.Name y py) X.env)) (Q:=λ _ s'=>SP X pins D .next s') rfl hs hc.clos hkind hnames
  (thn (hi pins s σ H _ I h) λ v s1 h1=>thn h1 λ itv s2 h2=>?_)) (λ _ s' hq=>ip (ip hq)) λ _ _ e=>e)
 obtain ⟨it,fp,tn,J,H2,rfl,I2,T,t2,f2,q2⟩:=h2
 refine comp_blockG (Q:=λ x H1=>gName i x σ H1 D.nx) (RR:=λ acc C=>compPost (model X.prog X.w) X.A X.xe (some (assign (.Name y py) X.env)) (λ _ s'=>SP X pins D .next s') acc C) hcalm hkind hcell hc hr (hg pins fp) (ht pins fp) (he pins fp) I2 T t2 f2 q2 λ L C H' s' I' fC ⟨m,hn⟩ q=>?_
 show wpAny _ X.A (assign (.Name y py) X.env (.ref L)) _ _ _
 refine wpAny_assign_Name (store_ok2 I' hNX hi' (.inl hy) (v:=.ref L) rfl (λ s2 I2' ⟨a,sb,ha⟩=>?_) (.inr hy))
 have hCa:C≠a:=λ z=>by
  rcases ha with z' | z'
  ·exact fC.2.1 (z.trans z')
  ·exact fC.2.2.2.2.1 y a z' z.symm
 exact ⟨m,hn.sameBut sb hCa,λ h' sb'=>⟨_,H',I2'.turned (t':=s2.toks) (λ b o hb e=>(sb'.2 b hb).trans e) fC.1 fC.2.1 fC.2.2.2.1 fC.2.2.2.2.1 fC.2.2.2.2.2,q⟩⟩
end
end L2
namespace L2
open PySem PySem.Spec PyProof.Rows
section
variable {X:Cx} {pins:List (Addr × Obj)} {σ:St} {H:Hp} {s:Shared} {a:Addr} {o:Obj} {u:HO}
theorem Inv.freeze (I:Inv X pins σ H s) (ha:H a=some u) (mu:Mut (some u)) (ho:s.heap.get? a=some o):Inv X pins σ (upd H a (.frz o u)) s:=by
 have mu':Mut (H a):=by rw [ha];exact mu
 have nown:∀ c y,H c=some (.own y)->c≠a:=λ c y r z=>by subst z;rw [r] at mu';exact mu'
 have ntup:∀ c xs,H c=some (.tup xs)->c≠a:=λ c xs r z=>by subst z;rw [r] at mu';exact mu'
 refine I.un (t':=s.toks) (Un.write (x:=a) (e:=a) mu' (.inl rfl) (λ _ _ _ q=>q) ⟨o,ho⟩) (I.hok.write (x:=a) (e:=a) mu' (.inl rfl) (λ _ _ _ q=>q) ⟨o,ho⟩ ⟨ho,?_⟩)
 exact (I.hok a u ha).stay (λ _ _ _ q=>q) (λ c r=>by rw [ai (nown c a r)];exact r) λ c xs r=>by rw [ai (ntup c xs r)];exact r
theorem Inv.thaw (I:Inv X pins σ H s) (ha:H a=some (.frz o u)) (h0:∀ o' u',X.H₀ a≠some (.frz o' u')):Inv X pins σ (upd H a u) s:=by
 have nown:∀ c y,H c=some (.own y)->c≠a:=λ c y r z=>by subst z;rw [r] at ha;cases ha
 have ntup:∀ c xs,H c=some (.tup xs)->c≠a:=λ c xs r z=>by subst z;rw [r] at ha;cases ha
 have nn:∀ c,H c=none->c≠a:=λ c r z=>by subst z;rw [r] at ha;cases ha
 have up:∀ c,H c=none->upd H a u c=none:=λ c r=>by rw [ai (nn c r)];exact r
 refine ⟨I.ok,I.os,I.bare,⟨I.base.keep,I.base.slot,λ b ob e n hx=>up b (I.base.free b ob e n hx),I.base.there,λ b xs e=>?_,λ b ob z e=>?_,λ b ps e=>?_⟩,I.loc,I.cell,up _ I.free,λ x c e=>up _ (I.freeC x c e),λ p hp=>?_,λ b ob e=>?_,I.len⟩
 ·have q:=I.base.tups b xs e
  rw [ai (ntup b xs q)]
  exact q
 ·have q:=I.base.frzs b ob z e
  have nb:b≠a:=λ z'=>by subst z';exact h0 _ _ e
  rw [ai nb]
  exact q
 ·obtain ⟨m,q⟩:=I.base.tbls b ps e
  have nb:b≠a:=λ z'=>by subst z';rw [q] at ha;cases ha
  exact ⟨m,by rw [ai nb];exact q⟩
 ·obtain ⟨e,n,r⟩:=I.pin p hp
  exact ⟨e,up _ n,r⟩
 ·by_cases hb:b=a
  ·subst hb
   rw [ac] at e
   cases e
   obtain ⟨_,q⟩:=I.hok b _ ha
   exact q.stay (λ _ _ _ q=>q) (λ c r=>by rw [ai (nown c b r)];exact r) λ c xs r=>by rw [ai (ntup c xs r)];exact r
  ·rw [ai hb] at e
   exact (I.hok b ob e).stay (λ _ _ _ q=>q) (λ c r=>by rw [ai (nown c b r)];exact r) λ c xs r=>by rw [ai (ntup c xs r)];exact r
theorem Inv.nofrz (I:Inv X pins σ H s) (ha:H a=some u) (nu:∀ o' u',u≠.frz o' u'):∀ o' u',X.H₀ a≠some (.frz o' u'):=λ o' u' e=>by
 have q:=I.base.frzs a o' u' e
 rw [ha] at q
 exact nu _ _ (iG q)
noncomputable def tThaw (t:TE):TE:=λ σ H Q=>∃ a u,H a=some u/\(∀ o' u',u≠.frz o' u')/\t σ H λ v H'=>∃ o,H' a=some (.frz o u)/\Q v (upd H' a u)
theorem pe_thaw {e:Expr} {t:TE} (h:PE X e t):PE X e (tThaw t):=by
 intro pins s σ H Q I q
 obtain ⟨a,u,ha,nu,q⟩:=q
 exact thn (h pins s σ H _ I q) λ v s1 ⟨x,H1,I1,r1,o,e1,q1⟩=>⟨x,_,I1.thaw e1 (I.nofrz ha nu),r1,q1⟩
noncomputable def tThawS (t:TS):TS:=λ D σ H=>∃ a u,H a=some u/\(∀ o' u',u≠.frz o' u')/\t { D with nx:=λ σ' H'=>∃ o,H' a=some (.frz o u)/\D.nx σ' (upd H' a u),rt:=λ v H'=>∃ o,H' a=some (.frz o u)/\D.rt v (upd H' a u),ct:=λ σ' H'=>∃ o,H' a=some (.frz o u)/\D.ct σ' (upd H' a u),bk:=λ σ' H'=>∃ o,H' a=some (.frz o u)/\D.bk σ' (upd H' a u) } σ H
theorem eR {st:Stmt} {t:TS} (h:PS X st t):PS X st (tThawS t):=by
 intro pins s σ H D I q
 obtain ⟨a,u,ha,nu,q⟩:=q
 have hn:=I.nofrz ha nu
 refine thn (h pins s σ H _ I q) λ f s1 q1=>?_
 cases f with
 | next=>obtain ⟨σ1,H1,I1,o,e1,q2⟩:=q1;exact ⟨σ1,_,I1.thaw e1 hn,q2⟩
 | cont=>obtain ⟨σ1,H1,I1,o,e1,q2⟩:=q1;exact ⟨σ1,_,I1.thaw e1 hn,q2⟩
 | brk=>obtain ⟨σ1,H1,I1,o,e1,q2⟩:=q1;exact ⟨σ1,_,I1.thaw e1 hn,q2⟩
 | ret v=>obtain ⟨x,σ1,H1,I1,r1,o,e1,q2⟩:=q1;exact ⟨x,σ1,_,I1.thaw e1 hn,r1,q2⟩
noncomputable def Itd (a:Addr) (o:Obj) (kvs:List (Key × V)):It:=
 ⟨λ i H=>H a=some (.frz o (.dK kvs))/\i<kvs.length,λ i H x H'=>H'=H/\∃ kv,kvs[i]?=some kv/\x=kV kv.1,λ i H=>H a=some (.frz o (.dK kvs))/\kvs.length<=i⟩
theorem KV.get {κ:Type}:∀ {kvs:List (κ × V)} {vs:List (κ × Value)} {i:Nat} {kv:κ × V},KV kvs vs->kvs[i]?=some kv->∃ v,vs[i]?=some (kv.1,v)/\RelV kv.2 v
 | _,_,_,_,.nil,e=>by simp at e
 | _,_,0,kv,.cons (b:=b) r t,e=>by
  simp at e
  subst e
  exact ⟨b.2,by simp [r.1],r.2⟩
 | _,_,i+1,kv,.cons r t,e=>by
  obtain ⟨v,e',r'⟩:=KV.get (i:=i) t (by simpa using e)
  exact ⟨v,by simpa using e',r'⟩
theorem is_kV {P:Program} {w:World} {k:Key} {u:Value} (h:(bb P w).is k u=true):RelV (kV k) u:=by
 rcases bD (show keyIs k u=true from h) with ⟨i,t,rfl,rfl⟩ | ⟨x,t,rfl,rfl⟩
 ·exact ⟨t,rfl⟩
 ·exact ⟨t,rfl⟩
theorem turn_dict {P:Program} {w:World} {K:W.Frag} {tg:Expr} (a it:Addr) (o:Obj) (kvs:List (Key × V)) {es:Array DictEntry} {ep:Nat} (hd:o.data=.dict es ep):Turn P w K tg (Itd a o kvs) [it] it (λ i h=>h.IsKeyIter it a i kvs.length ep) where
 mem:=by simp
 obj:=λ i h st b hb=>by
  have e:b=it:=by simpa using hb
  subst e
  obtain ⟨o,e,c,d⟩:=st
  exact ⟨o,e,λ v z=>by rw [d] at z;cases z⟩
 keep:=λ i h h' st k=>st.at λ o e=>k it (by simp) o e
 item:=by
  intro X hP hw hK hc i pins s σ H E I hf st hg
  subst hP hw hK
  obtain ⟨ha,hi⟩:=hg
  obtain ⟨ho,hz,hs,vs,r,o',es',ep',e1,e2,e3,e4,e5,e6⟩:=I.hok a _ ha
  rw [ho] at e1;cases e1
  rw [hd] at e3;cases e3
  have hx:kvs[i]?=some kvs[i]:=ii hi
  obtain ⟨v,hv,rv⟩:=KV.get r hx
  obtain ⟨f0,f1,f2,f3,f4,f5⟩:=hf it (by simp)
  have st0:s.heap.IsKeyIter it a i vs.length ep:=by rw [<- r.length];exact st
  refine wpAny_pyNext_dict_item st0 ⟨o,es,ho,e2,hd,e4,e5,e6⟩ hv λ key h' hk st' sb=>?_
  rw [<- r.length] at st'
  have I1:Inv X pins σ H { s with heap:=h' }:=I.turned (t':=s.toks) (λ b o hb e=>(sb.2 b hb).trans e) f0 f1 f3 f4 f5
  obtain ⟨oi,e,c,d⟩:=id st'
  exact ⟨key,rfl,go_of (s:={ s with heap:=h' }) e c d (by decide) ⟨kV (kvs[i]).1,H,I1,is_kV hk,⟨rfl,_,hx,rfl⟩,st',λ b hb=>(hf b hb).1⟩⟩
 done:=by
  intro X hP hw hK hc i pins s σ H E I hf st hg
  subst hP hw hK
  obtain ⟨ha,hi⟩:=hg
  obtain ⟨ho,hz,hs,vs,r,o',es',ep',e1,e2,e3,e4,e5,e6⟩:=I.hok a _ ha
  rw [ho] at e1;cases e1
  rw [hd] at e3;cases e3
  obtain ⟨f0,f1,f2,f3,f4,f5⟩:=hf it (by simp)
  have st0:s.heap.IsKeyIter it a i vs.length ep:=by rw [<- r.length];exact st
  exact wpAny_pyNext_dict_end (I.ok.hd hc) st0 ⟨o,es,ho,e2,hd,e4,e5,e6⟩ (List.getElem?_eq_none (by rw [<- r.length];exact hi)) λ h' eb=>⟨rfl,I.turned (t':=s.toks) (λ b o hb e=>eb b o hb e) f0 f1 f3 f4 f5⟩
 self:=λ _ _ _ _ _ st h=>wpAny_pyIter_keyiter st h
noncomputable def iDic (tl:TE):TI:=λ σ H R=>tl σ H λ x H1=>∃ a kvs,x=.ref a/\H1 a=some (.dK kvs)/\∀ o,R (Itd a o kvs) (upd H1 a (.frz o (.dK kvs)))
theorem eS {tg l:Expr} {tl:TE} (hl:PE X l tl):PI X tg l (iDic tl):=by
 intro pins s σ H R I h
 refine thn (hl pins s σ H _ I h) λ v s1 ⟨x,H1,I1,r1,q1⟩=>?_
 obtain ⟨a,kvs,e,ha,q⟩:=q1
 subst e
 cases r1
 obtain ⟨hz,hs,vs,r,o,es,ep,e1,e2,e3,e4,e5,e6⟩:=dk_of I1.hok ha
 have I2:Inv X pins σ (upd H1 a (.frz o (.dK kvs))) s1:=I1.freeze ha True.intro e1
 refine wpAny_pyIter_dict hs ⟨o,es,e1,e2,e3,e4,e5,e6⟩ ?_
 refine ⟨s1.heap.objs.size,[s1.heap.objs.size],_,_,_,rfl,I2.kept (t':=s1.toks) λ b o e=>ia _ e,turn_dict a _ o kvs e3,⟨_,iA _ rfl,rfl,by rw [r.length];rfl⟩,λ b hb=>?_,q o⟩
 have e:b=s1.heap.objs.size:=by simpa using hb
 subst e
 exact I2.fpOk (ic _) (I2.hok.fresh (ic _))
end
theorem gj {a:Addr} {o:Obj} {kvs:List (Key × V)} {g:TG} {tb:TS} {D:Ends} {σ:St} {H:Hp} (Pv:Nat->St->Hp->Prop) (h0:Pv 0 σ H) (hl:∀ i σ H,i<=kvs.length->Pv i σ H->H a=some (.frz o (.dK kvs)))
  (hs:∀ i kv σ H,kvs[i]?=some kv->Pv i σ H->g (kV kv.1) σ H λ σ2 H2=>tb { D with nx:=Pv (i+1),ct:=Pv (i+1),bk:=D.nx } σ2 H2) (hd:∀ σ H,Pv kvs.length σ H->D.nx σ H) :
  ∃ W:Nat->Nat->St->Hp->Prop,(∃ m,W 0 m σ H)/\∀ i m σ H,W i m σ H->
   ((Itd a o kvs).stop i H/\D.nx σ H)∨((Itd a o kvs).go i H/\∃ N:St->Hp->Prop,(∀ σ' H',N σ' H'->∃ m',m'<m/\W (i+1) m' σ' H')/\∀ x H',(Itd a o kvs).yld i H x H'->g x σ H' λ σ2 H2=>tb { D with nx:=N,ct:=N,bk:=D.nx } σ2 H2):=by
 refine ⟨λ i m σ H=>m=kvs.length-i/\i<=kvs.length/\Pv i σ H,⟨kvs.length,by simp,im _,h0⟩,?_⟩
 rintro i m σ H ⟨rfl,hi,p⟩
 have q:=hl i σ H hi p
 by_cases hlt:i<kvs.length
 ·refine .inr ⟨⟨q,hlt⟩,Pv (i+1),λ σ' H' p'=>⟨kvs.length-(i+1),by omega,rfl,hlt,p'⟩,λ x H' y=>?_⟩
  obtain ⟨e,kv,hkv,ex⟩:=y
  subst e ex
  exact hs i kv σ _ hkv p
 ·have e:i=kvs.length:=by omega
  subst e
  exact .inl ⟨⟨q,ic _⟩,hd σ H p⟩
end L2
namespace L2
open PySem PySem.Spec PyProof.Rows
noncomputable def gm (n:Nat) (Pv:Nat->Hp->Prop) (i:Nat) (H:Hp):Prop:=∃ m',m'<n-i/\m'=n-(i+1)/\i+1<=n/\Pv (i+1) H
theorem dj {n i:Nat} {Pv:Nat->Hp->Prop} {H:Hp} (hi:i<n) (h:Pv (i+1) H):gm n Pv i H:=⟨n-(i+1),by omega,rfl,hi,h⟩
section
variable {l:Addr} {k:Nat} {g:TG} {tc:TT} {te:TE} {ρ:St} {R:Hp->Prop} {H₀:Hp}
theorem g9 {J:It} {n:Nat} (Pv:Nat->Hp->Prop) (h0:Pv 0 (upd H₀ l (.lst []))) (hgo:∀ i H,i<n->Pv i H->J.go i H) (hst:∀ H,Pv n H->J.stop n H)
  (hs:∀ i x H H',i<n->J.yld i H x H'->Pv i H->∀ zs:St,zs.length=k->g x (zs ++ ρ) H' λ σ2 H2=>(∃ zs':St,zs'.length=k/\σ2=zs' ++ ρ)/\tc σ2 H2 λ b H3=>if b=true then te σ2 H3 λ y H4=>∃ ys,H4 l=some (.lst ys)/\ys.length<sizeLine/\gm n Pv i (upd H4 l (.lst (ys++[y]))) else gm n Pv i H3)
  (hd:∀ H,Pv n H->R H) :
  ∃ W:Nat->Nat->Hp->Prop,(∃ m,W 0 m (upd H₀ l (.lst [])))/\∀ i m H,W i m H->
   (J.stop i H/\R H)∨(J.go i H/\∀ x H',J.yld i H x H'->∀ zs:St,zs.length=k->g x (zs ++ ρ) H' λ σ2 H2=>(∃ zs':St,zs'.length=k/\σ2=zs' ++ ρ)/\tc σ2 H2 λ b H3=>if b=true then te σ2 H3 λ y H4=>∃ ys,H4 l=some (.lst ys)/\ys.length<sizeLine/\∃ m',m'<m/\W (i+1) m' (upd H4 l (.lst (ys++[y]))) else ∃ m',m'<m/\W (i+1) m' H3):=by
 refine ⟨λ i m H=>m=n-i/\i<=n/\Pv i H,⟨n,by simp,im _,h0⟩,?_⟩
 rintro i m H ⟨rfl,hi,p⟩
 by_cases hlt:i<n
 ·exact .inr ⟨hgo i H hlt p,λ x H' y=>hs i x H H' hlt y p⟩
 ·have e:i=n:=by omega
  subst e
  exact .inl ⟨hst H p,hd H p⟩
theorem bB {K:W.Frag} {a:Addr} {xs:List V} (Pv:Nat->Hp->Prop) (h0:Pv 0 (upd H₀ l (.lst []))) (hl:∀ i H,Pv i H->SqL K H a xs)
  (hs:∀ i x H,xs[i]?=some x->Pv i H->∀ zs:St,zs.length=k->g x (zs ++ ρ) H λ σ2 H2=>(∃ zs':St,zs'.length=k/\σ2=zs' ++ ρ)/\tc σ2 H2 λ b H3=>if b=true then te σ2 H3 λ y H4=>∃ ys,H4 l=some (.lst ys)/\ys.length<sizeLine/\gm xs.length Pv i (upd H4 l (.lst (ys++[y]))) else gm xs.length Pv i H3)
  (hd:∀ H,Pv xs.length H->R H) :
  ∃ W:Nat->Nat->Hp->Prop,(∃ m,W 0 m (upd H₀ l (.lst [])))/\∀ i m H,W i m H->
   ((Itl K a).stop i H/\R H)∨((Itl K a).go i H/\∀ x H',(Itl K a).yld i H x H'->∀ zs:St,zs.length=k->g x (zs ++ ρ) H' λ σ2 H2=>(∃ zs':St,zs'.length=k/\σ2=zs' ++ ρ)/\tc σ2 H2 λ b H3=>if b=true then te σ2 H3 λ y H4=>∃ ys,H4 l=some (.lst ys)/\ys.length<sizeLine/\∃ m',m'<m/\W (i+1) m' (upd H4 l (.lst (ys++[y]))) else ∃ m',m'<m/\W (i+1) m' H3):=
 g9 (n:=xs.length) Pv h0 (λ i H hi p=>⟨xs,xs[i],hl i H p,ii hi⟩) (λ H p=>⟨xs,hl _ H p,ic _⟩) (λ i x H H' hi y p=>by
  obtain ⟨e,y⟩:=y
  subst e
  exact hs i x _ (y xs (hl i _ p)) p) hd
theorem compG_range {lo:Int} {n:Nat} (Pv:Nat->Hp->Prop) (h0:Pv 0 (upd H₀ l (.lst [])))
  (hs:∀ i H,i<n->Pv i H->∀ zs:St,zs.length=k->g (.int (lo+i)) (zs ++ ρ) H λ σ2 H2=>(∃ zs':St,zs'.length=k/\σ2=zs' ++ ρ)/\tc σ2 H2 λ b H3=>if b=true then te σ2 H3 λ y H4=>∃ ys,H4 l=some (.lst ys)/\ys.length<sizeLine/\gm n Pv i (upd H4 l (.lst (ys++[y]))) else gm n Pv i H3)
  (hd:∀ H,Pv n H->R H) :
  ∃ W:Nat->Nat->Hp->Prop,(∃ m,W 0 m (upd H₀ l (.lst [])))/\∀ i m H,W i m H->
   ((Itr lo n).stop i H/\R H)∨((Itr lo n).go i H/\∀ x H',(Itr lo n).yld i H x H'->∀ zs:St,zs.length=k->g x (zs ++ ρ) H' λ σ2 H2=>(∃ zs':St,zs'.length=k/\σ2=zs' ++ ρ)/\tc σ2 H2 λ b H3=>if b=true then te σ2 H3 λ y H4=>∃ ys,H4 l=some (.lst ys)/\ys.length<sizeLine/\∃ m',m'<m/\W (i+1) m' (upd H4 l (.lst (ys++[y]))) else ∃ m',m'<m/\W (i+1) m' H3):=
 g9 (n:=n) Pv h0 (λ i H hi p=>hi) (λ H p=>ic _) (λ i x H H' hi y p=>by
  obtain ⟨e,y⟩:=y
  subst e y
  exact hs i _ hi p) hd
theorem gN {a:Addr} {o:Obj} {kvs:List (Key × V)} (Pv:Nat->Hp->Prop) (h0:Pv 0 (upd H₀ l (.lst []))) (hl:∀ i H,Pv i H->H a=some (.frz o (.dK kvs)))
  (hs:∀ i kv H,kvs[i]?=some kv->Pv i H->∀ zs:St,zs.length=k->g (kV kv.1) (zs ++ ρ) H λ σ2 H2=>(∃ zs':St,zs'.length=k/\σ2=zs' ++ ρ)/\tc σ2 H2 λ b H3=>if b=true then te σ2 H3 λ y H4=>∃ ys,H4 l=some (.lst ys)/\ys.length<sizeLine/\gm kvs.length Pv i (upd H4 l (.lst (ys++[y]))) else gm kvs.length Pv i H3)
  (hd:∀ H,Pv kvs.length H->R H) :
  ∃ W:Nat->Nat->Hp->Prop,(∃ m,W 0 m (upd H₀ l (.lst [])))/\∀ i m H,W i m H->
   ((Itd a o kvs).stop i H/\R H)∨((Itd a o kvs).go i H/\∀ x H',(Itd a o kvs).yld i H x H'->∀ zs:St,zs.length=k->g x (zs ++ ρ) H' λ σ2 H2=>(∃ zs':St,zs'.length=k/\σ2=zs' ++ ρ)/\tc σ2 H2 λ b H3=>if b=true then te σ2 H3 λ y H4=>∃ ys,H4 l=some (.lst ys)/\ys.length<sizeLine/\∃ m',m'<m/\W (i+1) m' (upd H4 l (.lst (ys++[y]))) else ∃ m',m'<m/\W (i+1) m' H3):=
 g9 (n:=kvs.length) Pv h0 (λ i H hi p=>⟨hl i H p,hi⟩) (λ H p=>⟨hl _ H p,ic _⟩) (λ i x H H' hi y p=>by
  obtain ⟨e,kv,hkv,ex⟩:=y
  subst e ex
  exact hs i kv _ hkv p) hd
end
theorem g1 {v:V} {ρ:St} {H:Hp} {Q:St->Hp->Prop} (h:Q (some v :: ρ) H):∀ zs:St,zs.length=1->gName 0 v (zs ++ ρ) H Q:=λ zs hz=>by
 match zs,hz with
 | [z],_=>exact h
theorem yes {σ:St} {H:Hp} {A B:Hp->Prop} (h:A H):tYes σ H (λ b H3=>if b=true then A H3 else B H3):=by
 show if true=true then A H else B H
 rw [if_pos rfl]
 exact h
end L2
namespace L2
open PySem PySem.Spec PyProof.Rows
section
variable {X:Cx}
noncomputable def Iti (a:Addr) (o:Obj) (kvs:List (Key × V)):It:=
 ⟨λ i H=>H a=some (.frz o (.dK kvs))/\i<kvs.length,λ i H x H'=>∃ kv t,kvs[i]?=some kv/\H t=none/\x=.ref t/\H'=upd H t (.tup [kV kv.1,kv.2]),λ i H=>H a=some (.frz o (.dK kvs))/\kvs.length<=i⟩
theorem gB:entryFor table "dict_itemiterator.__iter__"=some Builtin.«dict_keyiterator.__iter__»:=entryFor_alias (id':="dict_keyiterator.__iter__") (by kernel_rfl) rfl (by decide +kernel) (by kernel_rfl)
theorem Inv.trackI {pins:List (Addr × Obj)} {σ:St} {H:Hp} {s:Shared} {t:Addr} {o:HO} (I:Inv X pins σ H s) (h0:X.s₀.heap.objs.size<=t) (hn:H t=none) (hL:t≠X.env.locals) (hc:∀ x c,X.env.cells.lookup x=some c->c≠t) (hp:∀ p∈X.pn++pins,p.1≠t) (hok:HOk X.prog X.w (upd H t o) s.heap):Inv X pins σ (upd H t o) s:=by
 have up:∀ c,c≠t->H c=none->upd H t o c=none:=λ c n r=>by rw [ai n];exact r
 refine ⟨I.ok,I.os,I.bare,⟨I.base.keep,I.base.slot,λ b ob e n hx=>up b (iI (iL (ik e) h0)) (I.base.free b ob e n hx),I.base.there,λ b xs e=>?_,λ b ob z e=>?_,λ b ps e=>?_⟩,I.loc,I.cell,up _ hL.symm I.free,λ x c e=>up _ (hc x c e) (I.freeC x c e),λ p hp'=>?_,hok,I.len⟩
 ·have q:=I.base.tups b xs e
  rw [ai (av q hn)]
  exact q
 ·have q:=I.base.frzs b ob z e
  rw [ai (av q hn)]
  exact q
 ·obtain ⟨m,q⟩:=I.base.tbls b ps e
  exact ⟨m,by rw [ai (av q hn)];exact q⟩
 ·obtain ⟨e,n,r⟩:=I.pin p hp'
  exact ⟨e,up _ (hp p hp') n,r⟩
theorem turn_items {P:Program} {w:World} {K:W.Frag} {elts:List Expr} {x1} {tpos:Pos} (a it:Addr) (o:Obj) (kvs:List (Key × V)) {es:Array DictEntry} {ep:Nat} (hd:o.data=.dict es ep) :
  Turn P w K (.Tuple elts x1 tpos) (Iti a o kvs) [it] it (λ i h=>∃ ok ov,IsItemIter h it a i kvs.length ep ok ov) where
 mem:=by simp
 obj:=λ i h st b hb=>by
  have e:b=it:=by simpa using hb
  subst e
  obtain ⟨ok,ov,e⟩:=st
  exact ⟨_,e,λ v z=>by
   have z':Data.fields _=Data.cell v:=z
   cases z'⟩
 keep:=λ i h h' st k=>let ⟨ok,ov,e⟩:=st;⟨ok,ov,k it (by simp) _ e⟩
 item:=by
  intro X hP hw hK hc i pins s σ H E I hf st hg
  subst hP hw hK
  obtain ⟨ha,hi⟩:=hg
  obtain ⟨ho,hz,hs,vs,r,o',es',ep',e1,e2,e3,e4,e5,e6⟩:=I.hok a _ ha
  rw [ho] at e1;cases e1
  rw [hd] at e3;cases e3
  have hx:kvs[i]?=some kvs[i]:=ii hi
  obtain ⟨v,hv,rv⟩:=KV.get r hx
  obtain ⟨f0,f1,f2,f3,f4,f5⟩:=hf it (by simp)
  obtain ⟨ok,ov,st⟩:=st
  have st0:IsItemIter s.heap it a i vs.length ep ok ov:=by rw [<- r.length];exact st
  refine wpAny_pyNext_items_item st0 ⟨o,es,ho,e2,hd,e4,e5,e6⟩ hv λ key h' hk st' ht hz' kk=>?_
  rw [<- r.length] at st'
  refine ⟨_,rfl,?_⟩
  refine wpAny_letOwnedTupleGo_items (s:={ s with heap:=h' }) st' λ h2 st2 sb=>?_
  have nt:s.heap.objs.size≠it:=jg (ik st0)
  have I1:Inv X pins σ H { s with heap:=h2,toks:=s.toks }:=I.turned (t':=s.toks) (λ b o hb e=>(sb.2 b hb).trans (kk b o hb e)) f0 f1 f3 f4 f5
  have hn:H s.heap.objs.size=none:=I.hok.fresh (ic _)
  have ht2:h2.get? s.heap.objs.size=some { cls:=.type "tuple",data:=.seq #[key,v] }:=(sb.2 _ nt).trans ht
  have hok:HOk X.prog X.w (upd H s.heap.objs.size (.tup [kV (kvs[i]).1,(kvs[i]).2])) h2:=λ b u e=>by
   by_cases hb:b=s.heap.objs.size
   ·subst hb
    rw [ac] at e
    cases e
    exact ⟨by show 2<=sizeLine;decide,[key,v],.cons (is_kV hk) (.cons rv .nil),_,ht2,rfl,_,rfl⟩
   ·rw [ai hb] at e
    exact (I1.hok b u e).stay (λ _ _ _ q=>q) (λ c q=>by rw [ai (av q hn)];exact q) λ c xs q=>by rw [ai (av q hn)];exact q
  have I2:=I1.trackI (t:=s.heap.objs.size) I.sz hn (jg I.lt) (λ x c e z=>by
   obtain ⟨v,q⟩:=I.cell x c e
   exact absurd q.lt (by rw [z];exact iP _)) (λ p hp z=>absurd (ik (I.pin p hp).1) (by rw [z];exact iP _)) hok
  refine ⟨.ref s.heap.objs.size,_,I2,rfl,⟨_,_,hx,hn,rfl,rfl⟩,⟨_,_,st2⟩,λ b hb=>?_⟩
  have e:b=it:=by simpa using hb
  subst e
  rw [ai nt.symm]
  exact f0
 done:=by
  intro X hP hw hK hc i pins s σ H E I hf st hg
  subst hP hw hK
  obtain ⟨ha,hi⟩:=hg
  obtain ⟨ho,hz,hs,vs,r,o',es',ep',e1,e2,e3,e4,e5,e6⟩:=I.hok a _ ha
  rw [ho] at e1;cases e1
  rw [hd] at e3;cases e3
  obtain ⟨f0,f1,f2,f3,f4,f5⟩:=hf it (by simp)
  obtain ⟨ok,ov,st⟩:=st
  have st0:IsItemIter s.heap it a i vs.length ep ok ov:=by rw [<- r.length];exact st
  exact wpAny_pyNext_items_end (I.ok.hd hc) st0 ⟨o,es,ho,e2,hd,e4,e5,e6⟩ (List.getElem?_eq_none (by rw [<- r.length];exact hi)) λ h' eb=>⟨rfl,I.turned (t':=s.toks) (λ b o hb e=>eb b o hb e) f0 f1 f3 f4 f5⟩
 self:=λ _ _ _ _ _ st h=>by
  obtain ⟨ok,ov,st⟩:=st
  have hT:Shared.TypeIs _ (.ref it) "dict_itemiterator":=⟨_,st,rfl⟩
  refine wpAny_pyIter_slot hT F.slot_dict_itemiterator_iter (jH F.slot_dict_itemiterator_iter hT gB ?_ (F.args_dict_itemiterator_iter_1 _))
  show wpAny _ _ (ret (.ref it)) _ _ _
  exact ip ⟨_,rfl,"dict_itemiterator",_,hT,F.slot_dict_itemiterator_next.lookup,h⟩
noncomputable def iItems (to:TE):TI:=λ σ H R=>to σ H λ x H1=>∃ a kvs,x=.ref a/\H1 a=some (.dK kvs)/\∀ o,R (Iti a o kvs) (upd H1 a (.frz o (.dK kvs)))
theorem pi_items {elts:List Expr} {x1} {tpos apos cpos:Pos} {o:Expr} {to:TE} (ho:PE X o to) (hbase:attributeBase o "items" X.env (eval o X.env)=eval o X.env:=by rfl) (hline:(apos.endLine == cpos.line)=true:=by rfl) :
  PI X (.Tuple elts x1 tpos) (.Call (.Attribute o "items" apos) [] [] cpos) (iItems to):=by
 intro pins s σ H R I h
 refine wpAny_Call_method0_late hbase hline (thn (ho pins s σ H _ I h) λ v s1 ⟨x,H1,I1,r1,a,kvs,e,ha,q⟩=>?_)
 subst e
 cases r1
 obtain ⟨hz,hs,vs,r,o,es,ep,e1,e2,e3,e4,e5,e6⟩:=dk_of I1.hok ha
 have hm:s1.heap.DictOf (bb X.prog X.w) a vs:=⟨o,es,ep,e1,e2,e3,e4,e5,e6⟩
 obtain ⟨h1,h2⟩:=tyV_is (T:="dict") I1 (x:=.ref a) rfl (.inr (.inr (.inl ⟨rfl,.inl ⟨kvs,ha⟩⟩)))
 refine ⟨"dict","dict.items",F.plainAttrs_dict,F.slot_dict_items,F.type_dict_items,h1,h2,?_⟩
 have I2:Inv X pins σ (upd H1 a (.frz o (.dK kvs))) s1:=I1.freeze ha True.intro e1
 refine method_meetsIn F.slot_dict_items F.entry_dict_items rfl (PySem.evalArgs_none ⟨rfl,hm.typeIs,F.args_dict_items_1 _,_,meets_dict_items (bb X.prog X.w) a hs,⟨vs,hm⟩,?_⟩)
 have I3:Inv X pins σ (upd H1 a (.frz o (.dK kvs))) { s1 with heap:=s1.heap.push { cls:=.type "dict_items",data:=.fields #[.ref a] } }:=I2.kept (t':=s1.toks) λ b o e=>ia _ e
 refine wpAny_pyIter_items (knd:=bb X.prog X.w) (d:=a) (kvs:=vs) (ep:=ep) ⟨_,iA _ rfl,rfl,rfl⟩ ⟨o,es,ia _ e1,e2,e3,e4,e5,e6⟩ ?_
 refine ⟨_,[_],_,_,_,rfl,I3.kept (t':=s1.toks) λ b o e=>ia _ e,turn_items a _ o kvs e3,⟨.none,.none,?_⟩,λ b hb=>?_,q o⟩
 ·rw [r.length]
  exact iA _ rfl
 ·have e:=i5.mp hb
  subst e
  exact I3.fpOk (ic _) (I3.hok.fresh (ic _))
end
theorem for_items {a:Addr} {o:Obj} {kvs:List (Key × V)} {g:TG} {tb:TS} {D:Ends} {σ:St} {H:Hp} (Pv:Nat->St->Hp->Prop) (h0:Pv 0 σ H) (hl:∀ i σ H,i<=kvs.length->Pv i σ H->H a=some (.frz o (.dK kvs)))
  (hs:∀ i kv t σ H,kvs[i]?=some kv->H t=none->Pv i σ H->g (.ref t) σ (upd H t (.tup [kV kv.1,kv.2])) λ σ2 H2=>tb { D with nx:=Pv (i+1),ct:=Pv (i+1),bk:=D.nx } σ2 H2) (hd:∀ σ H,Pv kvs.length σ H->D.nx σ H) :
  ∃ W:Nat->Nat->St->Hp->Prop,(∃ m,W 0 m σ H)/\∀ i m σ H,W i m σ H->
   ((Iti a o kvs).stop i H/\D.nx σ H)∨((Iti a o kvs).go i H/\∃ N:St->Hp->Prop,(∀ σ' H',N σ' H'->∃ m',m'<m/\W (i+1) m' σ' H')/\∀ x H',(Iti a o kvs).yld i H x H'->g x σ H' λ σ2 H2=>tb { D with nx:=N,ct:=N,bk:=D.nx } σ2 H2):=by
 refine ⟨λ i m σ H=>m=kvs.length-i/\i<=kvs.length/\Pv i σ H,⟨kvs.length,by simp,im _,h0⟩,?_⟩
 rintro i m σ H ⟨rfl,hi,p⟩
 have q:=hl i σ H hi p
 by_cases hlt:i<kvs.length
 ·refine .inr ⟨⟨q,hlt⟩,Pv (i+1),λ σ' H' p'=>⟨kvs.length-(i+1),by omega,rfl,hlt,p'⟩,λ x H' y=>?_⟩
  obtain ⟨kv,t,hkv,ht,ex,eh⟩:=y
  subst ex eh
  exact hs i kv t σ _ hkv ht p
 ·have e:i=kvs.length:=by omega
  subst e
  exact .inl ⟨⟨q,ic _⟩,hd σ H p⟩
end L2
namespace L2
open PySem PySem.Spec PyProof.Rows
theorem vals_idx:∀ {xs:List V} {us:List Value},xs.length=us.length->(∀ (j:Nat) (x:V) (u:Value),xs[j]?=some x->us[j]?=some u->RelV x u)->Vals xs us
 | [],[],_,_=>.nil
 | [],_::_,h,_=>by cases h
 | _::_,[],h,_=>by cases h
 | x::xs,u::us,h,k=>.cons (k 0 x u rfl rfl) (vals_idx (Nat.succ.inj h) λ j y w a b=>k (j+1) y w (by simpa using a) (by simpa using b))
section
variable {X:Cx}
theorem eQ (hh:X.A.handled=none):fF X (.type "list") (λ xs H Q=>∃ p kvs,xs=[.ref p]/\Rd H p (.dK kvs)/\∀ l,H l=none->Q (.ref l) (upd H l (.lst (kvs.map λ kv=>kV kv.1)))):=by
 intro pins s σ H xs us Q I r h
 obtain ⟨p,kvs,rfl,hp,q⟩:=h
 obtain ⟨u,rfl,rx⟩:=vals1 r
 cases rx
 obtain ⟨hz,hs,vs,kv,hD⟩:=fS I.hok hp
 obtain ⟨ep,hat⟩:=hD.dictAt
 have el:=kv.length
 refine PySem.W.kdl_call (PySem.W.kdl_dict (knd:=bb X.prog X.w) (kvs:=vs) (ep:=ep) hs) hh hat (by rw [<- el];exact hz) λ h' tk acc c hk hD' hacc=>?_
 obtain ⟨e1,e2⟩:=hacc
 refine ⟨.ref s.heap.objs.size,_,I.laid (t':=tk) hk (ic _) (show ObjOk X.prog X.w _ h' _ (.lst (kvs.map λ kv=>kV kv.1)) from ⟨by rw [hZ];exact hz,acc.toList,c,vals_idx (by rw [hZ,el,<- e1];simp) λ j x w a b=>?_,by simpa using hD'⟩),rfl,q _ (I.hok.fresh (ic _))⟩
 rw [iq] at a
 cases e:kvs[j]? with
 | none=>rw [e] at a;cases a
 | some z=>
  rw [e] at a
  cases a
  obtain ⟨v,hv,_⟩:=KV.get kv e
  obtain ⟨k,y,hk,hi⟩:=e2 j w (by simpa using b)
  rw [hv] at hk
  cases hk
  exact is_kV hi
noncomputable def ViewO (v d:Addr):HO:=.ext λ h=>h.IsValuesView v d
noncomputable def rValues:V->List V->Hp->VK->Prop:=λ x vs H Q=>∃ a kvs,x=.ref a/\vs=[]/\Rd H a (.dK kvs)/\∀ v,H v=none->Q (.ref v) (upd H v (ViewO v a))
theorem mt_values:MtM X "dict.values" rValues:=by
 intro pins s σ H x vs v us Q I rx rv h
 obtain ⟨a,kvs,rfl,rfl,ha,q⟩:=h
 cases rx
 cases rv
 obtain ⟨hz,hs,ws,kv,hD⟩:=fS I.hok ha
 refine call_meetsIn PySem.F.slot_dict_values hD.typeIs PySem.F.entry_dict_values (PySem.F.args_dict_values_1 _) (meets_dict_values (bb X.prog X.w) a hs) ⟨⟨ws,hD⟩,?_⟩
 have e:(s.heap.push { cls:=.type "dict_values",data:=.fields #[.ref a] }).get? s.heap.objs.size=some { cls:=.type "dict_values",data:=.fields #[.ref a] }:=iA _ rfl
 refine ⟨.ref s.heap.objs.size,_,I.laid (t':=s.toks) (λ b o e=>ia _ e) (ic _) (show ObjOk X.prog X.w _ _ _ (ViewO _ a) from ⟨⟨_,e,rfl,rfl⟩,⟨_,e⟩,λ h1 h2 z k=>?_⟩),rfl,q _ (I.hok.fresh (ic _))⟩
 obtain ⟨o,ho,c⟩:=z
 exact ⟨o,k _ ho,c⟩
theorem call_list_vals (hh:X.A.handled=none):fF X (.type "list") (λ xs H Q=>∃ v a kvs,xs=[.ref v]/\H v=some (ViewO v a)/\Rd H a (.dK kvs)/\∀ l,H l=none->Q (.ref l) (upd H l (.lst (kvs.map (·.2))))):=by
 intro pins s σ H xs us Q I r h
 obtain ⟨v,p,kvs,rfl,hv,hp,q⟩:=h
 obtain ⟨u,rfl,rx⟩:=vals1 r
 cases rx
 obtain ⟨hz,hs,vs,kv,hD⟩:=fS I.hok hp
 obtain ⟨ep,hat⟩:=hD.dictAt
 obtain ⟨hview,_⟩:=(show ObjOk X.prog X.w H s.heap v (ViewO v p) from I.hok v _ hv)
 have el:=kv.length
 refine PySem.W.kdl_call (PySem.W.kdl_values (knd:=bb X.prog X.w) (kvs:=vs) (ep:=ep)) hh ⟨hview,hat⟩ (by rw [<- el];exact hz) λ h' tk acc c hk hD' hacc=>?_
 obtain ⟨e1,e2⟩:=hacc
 refine ⟨.ref s.heap.objs.size,_,I.laid (t':=tk) hk (ic _) (show ObjOk X.prog X.w _ h' _ (.lst (kvs.map (·.2))) from ⟨by rw [hZ];exact hz,acc.toList,c,vals_idx (by rw [hZ,el,<- e1];simp) λ j x w a b=>?_,by simpa using hD'⟩),rfl,q _ (I.hok.fresh (ic _))⟩
 rw [iq] at a
 cases e:kvs[j]? with
 | none=>rw [e] at a;cases a
 | some z=>
  rw [e] at a
  cases a
  obtain ⟨y,hy,ry⟩:=KV.get kv e
  obtain ⟨k,hk⟩:=e2 j w (by simpa using b)
  rw [hy] at hk
  cases hk
  exact ry
end
end L2
namespace L2
open PySem PySem.Spec PyProof.Rows
section
variable {X:Cx}
noncomputable def rDClear:V->List V->Hp->VK->Prop:=λ x vs H Q=>∃ a kvs,x=.ref a/\vs=[]/\H a=some (.dK kvs)/\Q .non (upd H a (.dK []))
theorem mt_dclear:MtM X "dict.clear" rDClear:=by
 intro pins s σ H x vs v us Q I rx rv h
 obtain ⟨a,kvs,rfl,rfl,ha,q⟩:=h
 cases rx
 cases rv
 exact d_clear I ha λ s' I'=>⟨.non,_,I',rfl,q⟩
end
section
variable {l:Addr} {k:Nat} {g:TG} {tc:TT} {te:TE} {ρ:St} {R:Hp->Prop} {H₀:Hp}
end
section
variable {X:Cx} {CX:CXT} {j:Nat} {E:XK} {m:Str} {pos apos:Pos} {e o:Expr} {es:List Expr} {ta:TE} {t:TA}
theorem pe_mtDK {pl:Sem Bool} {P:Program} {w:World} {K:W.Frag} {mg:Str->Option Value} {base:Heap} (hP:X.prog=P) (hw:X.w=w) (hK:X.K=K) (hmg:X.mg=mg) (hb:X.base=base) (he:PE X o ta) (hr:Room j X.A) (hx:cX CX X E) (ha:PA X (e::es) t)
  (hst:starEach (e::es) X.env=(false,eval e X.env)::starEach es X.env:=by rfl) (hpl:(backTo pos (starEach es X.env)).any (·.1)=false:=by rfl)
  (ht:eval (.Call (.Attribute o m apos) (e::es) [] pos) X.env=(do
   let ov <- eval o X.env
   standAt apos.atName
   let (f,first) <- holding [ov] (getMethod ov m pl)
   callWith pos f first (backTo pos (starEach (e::es) X.env)) (backToKw pos (keywordEach [] X.env))):=by rfl):PE X (.Call (.Attribute o m apos) (e::es) [] pos) (tMethD P w K mg base CX m j E ta t):=by
 subst hP hw hK hmg hb
 exact pe_mtD he hr hx ha hst hpl ht
theorem pg_tupK {K:W.Frag} {es:List Expr} {k:Nat} {t:TGs} {n:Nat} (hK:X.K=K) (hc:X.calm=true) (h:PGs X es t)
  (hn:(assignEach es X.env).length=n:=by rfl) (hst:(assignEach es X.env).findIdx? (·.1)=none:=by rfl):PG X (.Tuple es k pos) (gTup K n t):=by
 subst hK
 exact dm hc h hn hst
end
section
variable {X:Cx}
end
end L2
namespace L2
open PySem PySem.Spec PyProof.Rows
section
variable {X:Cx}
theorem Inv.turnedL {pins:List (Addr × Obj)} {σ:St} {H:Hp} {s:Shared} {h':Heap} {t':Nat} {its:List Addr} (I:Inv X pins σ H s) (k:∀ b o,b ∉ its->s.heap.get? b=some o->h'.get? b=some o) (hf:∀ b∈its,FpOk X pins H b):Inv X pins σ H { s with heap:=h',toks:=t' }:=by
 have nit:∀ b u,H b=some u->b ∉ its:=λ b u e z=>by rw [(hf b z).1] at e;cases e
 have hL:X.env.locals ∉ its:=λ z=>(hf _ z).2.1 rfl
 refine I.step (g':=s.gens) (d':=s.drawn) (ch:=its) (λ b hb=>?_) (λ b o _ _ hc e _=>k b o hc e) (λ b o _ _ hc e _=>⟨o.slots,k b o hc e⟩) (λ _ _ _ _ n=>n)
  (λ b o hc e=>⟨o,k b o hc e⟩) (λ _ _ e=>e) (λ _ _ _ e=>e) (λ b ps e=>⟨#[],by rw [e];simp⟩) (λ m hm=>?_) (λ b u e=>?_) I.bare
 ·obtain ⟨_,h1,_,h3,h4,h5⟩:=hf b hb
  exact ⟨h3,h1,h4,h5⟩
 ·obtain ⟨o,es,ep,ho,r⟩:=hm
  exact ⟨o,es,ep,k _ o hL ho,r⟩
 ·refine (I.hok b u e).stay (λ c v hc q=>k c v ?_ q) (λ _ q=>q) λ _ _ q=>q
  rcases hc with z | z
  ·rw [z];exact nit b u e
  ·exact nit c _ z
noncomputable def Itz (K:W.Frag) (a b:Addr) (xs ys:List V):It:=
 ⟨λ i H=>SqL K H a xs/\SqL K H b ys/\i<xs.length/\i<ys.length,λ i H v H'=>∃ x y t,xs[i]?=some x/\ys[i]?=some y/\H t=none/\v=.ref t/\H'=upd H t (.tup [x,y]),λ i H=>SqL K H a xs/\SqL K H b ys/\(xs.length<=i∨ys.length<=i)⟩
theorem eJ:∀ {xs:List V} {us:List Value},Vals xs us->∀ {i:Nat} {x:V},xs[i]?=some x->∃ u,us[i]?=some u/\RelV x u
 | _,_,.nil,i,x,e=>by simp at e
 | _,_,.cons r t,0,x,e=>by
  simp at e
  subst e
  exact ⟨_,rfl,r⟩
 | _,_,.cons r t,i+1,x,e=>by
  obtain ⟨u,h1,h2⟩:=eJ t (i:=i) (x:=x) (by simpa using e)
  exact ⟨u,by simpa using h1,h2⟩
theorem turn_zip {P:Program} {w:World} {K:W.Frag} {elts:List Expr} {x1} {tpos:Pos} {z TI TO i1 i2 a b:Addr} (D:ZipApart z TI TO i1 i2 a b) (xs ys:List V) :
  Turn P w K (.Tuple elts x1 tpos) (Itz K a b xs ys) [z,TI,TO,i1,i2] z (λ i h=>∃ p q,IsZip h z TI TO .none/\IsPair h TI (.ref i1) (.ref i2)/\IsPair h TO p q/\h.IsListIter i1 a i/\h.IsListIter i2 b i) where
 mem:=by simp
 obj:=λ i h st c hc=>by
  obtain ⟨p,q,h1,h2,h3,⟨o4,e4,_,d4⟩,⟨o5,e5,_,d5⟩⟩:=st
  simp only [iw,ib,i3] at hc
  rcases hc with rfl | rfl | rfl | rfl | rfl
  ·exact ⟨_,h1,λ v z=>by have z':Data.fields _=Data.cell v:=z;cases z'⟩
  ·exact ⟨_,h2,λ v z=>by have z':Data.seq _=Data.cell v:=z;cases z'⟩
  ·exact ⟨_,h3,λ v z=>by have z':Data.seq _=Data.cell v:=z;cases z'⟩
  ·exact ⟨_,e4,λ v z=>by rw [d4] at z;cases z⟩
  ·exact ⟨_,e5,λ v z=>by rw [d5] at z;cases z⟩
 keep:=λ i h h' st k=>by
  obtain ⟨p,q,h1,h2,h3,⟨o4,e4,r4⟩,⟨o5,e5,r5⟩⟩:=st
  exact ⟨p,q,k z (by simp) _ h1,k TI (by simp) _ h2,k TO (by simp) _ h3,⟨o4,k i1 (by simp) _ e4,r4⟩,⟨o5,k i2 (by simp) _ e5,r5⟩⟩
 item:=by
  intro X hP hw hK hc i pins s σ H E I hf st hg
  subst hP hw hK
  obtain ⟨ha,hb,hx,hy⟩:=hg
  obtain ⟨p,q,h1,h2,h3,h4,h5⟩:=st
  obtain ⟨us,ru,pu,_⟩:=I.list ha
  obtain ⟨ws,rw',pw,_⟩:=I.list hb
  have ex:xs[i]?=some xs[i]:=ii hx
  have ey:ys[i]?=some ys[i]:=ii hy
  obtain ⟨u,eu,rux⟩:=eJ ru ex
  obtain ⟨v,ev,rvy⟩:=eJ rw' ey
  refine wpAny_pyNext_zip_item D h1 h2 h3 h4 h5 pu.isList pw.isList (by simpa using eu) (by simpa using ev) λ h' a1 a2 a3 a4 a5 a6 a7=>?_
  refine ⟨_,rfl,?_⟩
  refine wpAny_letOwnedTupleGo_zip (s:={ s with heap:=h' }) a1 λ h2' z2 sb=>?_
  have nt:s.heap.objs.size≠z:=jg (ik h1)
  have I1:Inv X pins σ H { s with heap:=h2',toks:=s.toks }:=I.turnedL (its:=[z,TI,TO,i1,i2]) (t':=s.toks) (λ c o hc e=>by
   simp only [iw,ib,i3,not_or] at hc
   exact (sb.2 c hc.1).trans (a7 c o hc.1 hc.2.2.1 hc.2.2.2.1 hc.2.2.2.2 e)) hf
  have hn:H s.heap.objs.size=none:=I.hok.fresh (ic _)
  have ht2:h2'.get? s.heap.objs.size=some { cls:=.type "tuple",data:=.seq #[u,v] }:=(sb.2 _ nt).trans a5
  have hok:HOk X.prog X.w (upd H s.heap.objs.size (.tup [xs[i],ys[i]])) h2':=λ c o e=>by
   by_cases hb:c=s.heap.objs.size
   ·subst hb
    rw [ac] at e
    cases e
    exact ⟨by show 2<=sizeLine;decide,[u,v],.cons rux (.cons rvy .nil),_,ht2,rfl,_,rfl⟩
   ·rw [ai hb] at e
    exact (I1.hok c o e).stay (λ _ _ _ q=>q) (λ c q=>by rw [ai (av q hn)];exact q) λ c xs q=>by rw [ai (av q hn)];exact q
  have I2:=I1.trackI (t:=s.heap.objs.size) I.sz hn (jg I.lt) (λ x c e z=>by
   obtain ⟨v,q⟩:=I.cell x c e
   exact absurd q.lt (by rw [z];exact iP _)) (λ p hp z=>absurd (ik (I.pin p hp).1) (by rw [z];exact iP _)) hok
  refine ⟨.ref s.heap.objs.size,_,I2,rfl,⟨_,_,_,ex,ey,hn,rfl,rfl⟩,⟨u,v,z2,(sb.2 _ D.TIz).trans (a7 _ _ D.TIz D.TITO D.TIi1 D.TIi2 h2),(sb.2 _ D.TOz).trans a2,?_,?_⟩,λ c hc=>?_⟩
  ·obtain ⟨o,e,r⟩:=a3
   exact ⟨o,(sb.2 _ D.i1z).trans e,r⟩
  ·obtain ⟨o,e,r⟩:=a4
   exact ⟨o,(sb.2 _ D.i2z).trans e,r⟩
  ·have:c≠s.heap.objs.size:=by
    obtain ⟨o4,e4,_⟩:=h4
    obtain ⟨o5,e5,_⟩:=h5
    simp only [iw,ib,i3] at hc
    rcases hc with rfl | rfl | rfl | rfl | rfl
    ·exact iI (ik h1)
    ·exact iI (ik h2)
    ·exact iI (ik h3)
    ·exact iI (ik e4)
    ·exact iI (ik e5)
   rw [ai this]
   exact (hf c hc).1
 done:=by
  intro X hP hw hK hc i pins s σ H E I hf st hg
  subst hP hw hK
  obtain ⟨ha,hb,hend⟩:=hg
  obtain ⟨p,q,h1,h2,h3,h4,h5⟩:=st
  obtain ⟨us,ru,pu,_⟩:=I.list ha
  obtain ⟨ws,rw',pw,_⟩:=I.list hb
  have lu:=ru.length
  have lw:=rw'.length
  refine wpAny_pyNext_zip_end (I.ok.hd hc) D h1 h2 h3 h4 h5 pu.isList pw.isList (hend.imp (λ h=>by simp;omega) (λ h=>by simp;omega)) λ h' a7=>⟨rfl,I.turnedL (its:=[z,TI,TO,i1,i2]) (t':=s.toks) (λ c o hc e=>by
   simp only [iw,ib,i3,not_or] at hc
   exact a7 c o hc.1 hc.2.2.1 hc.2.2.2.1 hc.2.2.2.2 e) hf⟩
 self:=λ _ _ _ _ _ st h=>by
  obtain ⟨p,q,h1,_⟩:=st
  exact wpAny_pyIter_zip h1 h
noncomputable def iZip (K:W.Frag) (ta:TA):TI:=λ σ H R=>ta σ H λ vs H1=>∃ a b xs ys,vs=[.ref a,.ref b]/\SqL K H1 a xs/\SqL K H1 b ys/\R (Itz K a b xs ys) H1
theorem pi_zip {elts:List Expr} {x1} {tpos:Pos} {a b:Expr} {ta:TA} {p pos:Pos} (hg:Gl X "zip") (hm:X.mg "zip"=none) (ha:PA X [a,b] ta) (hs:starEach [a,b] X.env=[(false,eval a X.env),(false,eval b X.env)]:=by rfl) (hs2:starEach [b] X.env=[(false,eval b X.env)]:=by rfl) :
  PI X (.Tuple elts x1 tpos) (.Call (.Name "zip" p) [a,b] [] pos) (iZip X.K ta):=by
 intro pins s σ H R I h
 refine Call_ (fe I hg hm boot_zip (jh (thn (ha pos pins s σ H _ I h) λ us s1 ⟨vs,H1,I1,r1,q1⟩=>?_) (by rw [hs,hs2]) (by rw [hs2];rfl)))
 obtain ⟨l1,l2,xs,ys,e,h1,h2,q⟩:=q1
 subst e
 cases r1 with
 | cons r rr=>
  cases rr with
  | cons r' rr=>
   cases rr
   cases r
   cases r'
   obtain ⟨us,ru,pu,_⟩:=I1.list h1
   obtain ⟨ws,rw',pw,_⟩:=I1.list h2
   have t1:l1<s1.heap.objs.size:=by obtain ⟨o,n,e,_⟩:=pu;exact ik e
   have t2:l2<s1.heap.objs.size:=by obtain ⟨o,n,e,_⟩:=pw;exact ik e
   refine call_zip_2 pu.isList pw.isList λ h' z1 z2 z3 z4 z5 z6 z7=>?_
   have I2:Inv X pins σ H1 { s1 with heap:=h' }:=I1.kept (t':=s1.toks) z7
   refine wpAny_pyIter_zip z1 ⟨_,[s1.heap.objs.size+4,s1.heap.objs.size+2,s1.heap.objs.size+3,s1.heap.objs.size,s1.heap.objs.size+1],_,_,_,rfl,I2,turn_zip (PySem.W.ktu_apart s1.heap.objs.size l1 l2 t1 t2) xs ys,⟨.none,.none,z1,z2,z3,z4,z5⟩,λ c hc=>?_,q⟩
   have hb:s1.heap.objs.size<=c:=by
    simp only [iw,ib,i3] at hc
    rcases hc with rfl | rfl | rfl | rfl | rfl
    ·exact jQ _ _
    ·exact jQ _ _
    ·exact jQ _ _
    ·exact ic _
    ·exact jQ _ _
   exact I1.fpOk hb (I1.hok.fresh hb)
end
theorem for_zip {K:W.Frag} {a b:Addr} {xs ys:List V} {g:TG} {tb:TS} {D:Ends} {σ:St} {H:Hp} (Pv:Nat->St->Hp->Prop) (h0:Pv 0 σ H) (hl:∀ i σ H,Pv i σ H->SqL K H a xs/\SqL K H b ys)
  (hs:∀ i x y t σ H,xs[i]?=some x->ys[i]?=some y->H t=none->Pv i σ H->g (.ref t) σ (upd H t (.tup [x,y])) λ σ2 H2=>tb { D with nx:=Pv (i+1),ct:=Pv (i+1),bk:=D.nx } σ2 H2) (hd:∀ σ H,Pv (min xs.length ys.length) σ H->D.nx σ H) :
  ∃ W:Nat->Nat->St->Hp->Prop,(∃ m,W 0 m σ H)/\∀ i m σ H,W i m σ H->
   ((Itz K a b xs ys).stop i H/\D.nx σ H)∨((Itz K a b xs ys).go i H/\∃ N:St->Hp->Prop,(∀ σ' H',N σ' H'->∃ m',m'<m/\W (i+1) m' σ' H')/\∀ x H',(Itz K a b xs ys).yld i H x H'->g x σ H' λ σ2 H2=>tb { D with nx:=N,ct:=N,bk:=D.nx } σ2 H2):=by
 refine ⟨λ i m σ H=>m=min xs.length ys.length-i/\i<=min xs.length ys.length/\Pv i σ H,⟨min xs.length ys.length,by simp,im _,h0⟩,?_⟩
 rintro i m σ H ⟨rfl,hi,p⟩
 obtain ⟨q1,q2⟩:=hl i σ H p
 by_cases hlt:i<min xs.length ys.length
 ·refine .inr ⟨⟨q1,q2,by omega,by omega⟩,Pv (i+1),λ σ' H' p'=>⟨min xs.length ys.length-(i+1),by omega,rfl,hlt,p'⟩,λ v H' y=>?_⟩
  obtain ⟨x,y,t,hx,hy,ht,ev,eh⟩:=y
  subst ev eh
  exact hs i x y t σ _ hx hy ht p
 ·have e:i=min xs.length ys.length:=by omega
  subst e
  exact .inl ⟨⟨q1,q2,by omega⟩,hd σ H p⟩
section
variable {l:Addr} {k:Nat} {g:TG} {tc:TT} {te:TE} {ρ:St} {R:Hp->Prop} {H₀:Hp}
end
end L2
namespace L2
open PySem PySem.Spec PyProof.Rows
theorem eqV_str (x y:Str):eqV (.str x) (.str y)=decide (x=y):=by
 unfold eqV
 by_cases h:x=y
 ·subst h;simp
 ·simp [h]
theorem fA (ts:List Str):(ts.map V.str).all gk=true:=by
 rw [List.all_eq_true]
 intro v hv
 obtain ⟨t,_,rfl⟩:=iy.mp hv
 rfl
section
variable {X:Cx}
end
section
variable {prog:Program} {w:World} {A:Around}
variable {E:Value->Shared->Prop} {s:Shared}
end
section
variable {X:Cx}
noncomputable def rNeL (K:W.Frag):R2:=λ x y H Q=>∃ p q xs ys,x=.ref p/\y=.ref q/\SqL K H p xs/\SqL K H q ys/\xs.all gk=true/\ys.all gk=true/\Q (.bl (!eqVs xs ys)) H
theorem op_neL (hu:X.A.units<cLine):OpR X (compareOp .NotEq) (rNeL X.K):=by
 intro pins s σ H x y v u Q I rx ry h
 obtain ⟨p,q,xs,ys,rfl,rfl,hp,hq,fx,fy,k⟩:=h
 cases rx
 cases ry
 obtain ⟨us,r,pl,_⟩:=I.list hp
 obtain ⟨ws,r',pl',_⟩:=I.list hq
 have e1:=r.length
 have e2:=r'.length
 by_cases hl:xs.length=ys.length
 ·refine SeqAt.RcNeAt.lists (e:=eqAtJ xs ys) pl.isList pl'.isList (by simp;omega) hu (λ j h1 h2=>?_) X.prog X.w X.xe _ ⟨.bl _,H,I,rfl,?_⟩
  ·have j1:j<us.length:=by simpa using h1
   have j2:j<ws.length:=by simpa using h2
   have a1:xs[j]?=some (xs[j]'(by omega)):=ii _
   have a2:ys[j]?=some (ys[j]'(by omega)):=ii _
   have:eqAtJ xs ys j=eqV (xs[j]'(by omega)) (ys[j]'(by omega)):=by unfold eqAtJ;rw [a1,a2]
   rw [this,List.getElem_toArray,List.getElem_toArray]
   exact eqAt_V (vals_at r a1 (ii j1)) (vals_at r' a2 (ii j2)) (List.all_eq_true.mp fx _ (List.getElem_mem _)) (List.all_eq_true.mp fy _ (List.getElem_mem _))
  ·rw [iW,<- e1,eqVs_all hl]
   exact k
 ·refine SeqAt.RcNeAt.lists_lengths pl.isList pl'.isList (by simp;omega) hu X.prog X.w X.xe _ ⟨.bl _,H,I,rfl,?_⟩
  rw [eqVs_len hl] at k
  exact k
theorem eqVs_strs:∀ ts:List Str,eqVs (ts.map V.str) (ts.map V.str)=true
 | []=>rfl
 | t::ts=>by
  show (eqV (.str t) (.str t) && eqVs (ts.map V.str) (ts.map V.str))=true
  rw [eqVs_strs ts,eqV_str,iM rfl]
  rfl
end
end L2
namespace L2
open PySem PySem.Spec PyProof.Rows
section
variable {X:Cx}
end
end L2
namespace L2
open PySem PySem.Spec PyProof.Rows
section
variable {X:Cx}
end
end L2
namespace L2
open PySem PySem.Spec PyProof.Rows
section
variable {X:Cx}
theorem call_allK {K:W.Frag} (hK:X.K=K) (hh:X.A.handled=none):fF X (.builtin "all") (λ xs H Q=>∃ p bs,xs=[.ref p]/\SqL K H p ((bs:List Bool).map V.bl)/\Q (.bl (bs.all id)) H):=by
 subst hK
 intro pins s σ H xs us Q I r h
 obtain ⟨p,bs,rfl,hp,q⟩:=h
 obtain ⟨u,rfl,rx⟩:=vals1 r
 cases rx
 obtain ⟨its,rv,pl,hz⟩:=I.list hp
 have hl:=rv.length
 rw [hZ] at hl
 have lt:p<s.heap.objs.size:=by obtain ⟨o,n,e,_⟩:=pl;exact ik e
 refine call_all_walk (wpAny_pyIter_list pl.isList ?_)
 refine ⟨s.heap.objs.size,_,_,_,_,_,λ i=>bs.getD i true,rfl,Walks.list (A:=X.A.in1) hh s.heap.objs.size p (iI lt) its.toArray,⟨⟨_,iA _ rfl,rfl,rfl⟩,pl.isList.push _⟩,λ i v s' Q' E' hP hQ=>?_,λ h' tk hk=>?_⟩
 ·have hP:its.toArray[i]?=some v:=hP
  have hi:its[i]?=some v:=by simpa using hP
  have hb:bs[i]?=some (bs[i]'(by have:=(hV.mp hi).1;omega)):=ii _
  have ev:=vals_at rv (x:=.bl _) (by rw [iq,hb];rfl) hi
  have ev:v=Value.bool _:=ev
  rw [ev]
  refine wpAny_truthy_bool ?_
  have e:bs.getD i true=bs[i]'(by have:=(hV.mp hi).1;omega):=by rw [iR,hb];rfl
  rw [<- e]
  exact hQ
 ·have e:(List.range its.toArray.size).all (λ i=>bs.getD i true)=bs.all id:=by
   rw [iW,<- hl]
   rw [Bool.eq_iff_iff,List.all_eq_true,List.all_eq_true]
   constructor
   ·intro h b hb
    obtain ⟨i,hi⟩:=jj.mp hb
    have:=h i (jT.mpr (hV.mp hi).1)
    rw [iR,hi] at this
    exact this
   ·intro h i hi
    rw [iR,ii (jT.mp hi)]
    exact h _ (List.getElem_mem _)
  rw [e]
  exact ⟨.bl _,H,I.kept (t':=tk) (λ b o hb=>hk b o (λ hm=>by
   have e:b=s.heap.objs.size:=by simpa using hm
   exact absurd (ik hb) (by rw [e];exact iP _)) (ia _ hb)),rfl,q⟩
end
section
variable {l:Addr} {k:Nat} {g:TG} {tc:TT} {te:TE} {ρ:St} {R:Hp->Prop} {H₀:Hp}
end
end L2
namespace L2
open PySem PySem.Spec PyProof.Rows
section
variable {X:Cx}
noncomputable def Ite (K:W.Frag) (a:Addr) (xs:List V):It:=
 ⟨λ i H=>SqL K H a xs/\i<xs.length,λ i H v H'=>∃ x t,xs[i]?=some x/\H t=none/\v=.ref t/\H'=upd H t (.tup [.int i,x]),λ i H=>SqL K H a xs/\xs.length<=i⟩
theorem turn_enum {P:Program} {w:World} {K:W.Frag} {elts:List Expr} {x1} {tpos:Pos} {e it a:Addr} (ne:e≠it) (xs:List V) :
  Turn P w K (.Tuple elts x1 tpos) (Ite K a xs) [e,it] e (λ i h=>(∃ old,IsEnum h e it i old)/\h.IsListIter it a i) where
 mem:=by simp
 obj:=λ i h st c hc=>by
  obtain ⟨⟨old,h1⟩,⟨o4,e4,_,d4⟩⟩:=st
  simp only [iw,ib,i3] at hc
  rcases hc with rfl | rfl
  ·exact ⟨_,h1,λ v z=>by have z':Data.fields _=Data.cell v:=z;cases z'⟩
  ·exact ⟨_,e4,λ v z=>by rw [d4] at z;cases z⟩
 keep:=λ i h h' st k=>by
  obtain ⟨⟨old,h1⟩,⟨o4,e4,r4⟩⟩:=st
  exact ⟨⟨old,k e (by simp) _ h1⟩,⟨o4,k it (by simp) _ e4,r4⟩⟩
 item:=by
  intro X hP hw hK hc i pins s σ H E I hf st hg
  subst hP hw hK
  obtain ⟨ha,hx⟩:=hg
  obtain ⟨⟨old,h1⟩,h4⟩:=st
  obtain ⟨us,ru,pu,_⟩:=I.list ha
  have ex:xs[i]?=some xs[i]:=ii hx
  obtain ⟨u,eu,rux⟩:=eJ ru ex
  refine wpAny_pyNext_enum_item h1 h4 pu.isList (by simpa using eu) ne λ h' a1 a2 a3 a4 a5=>?_
  refine ⟨_,rfl,?_⟩
  refine wpAny_letOwnedTupleGo_enum (s:={ s with heap:=h',toks:=s.toks+1 }) a1 λ h2' z2 sb=>?_
  have nt:s.heap.objs.size≠e:=jg (ik h1)
  have I1:Inv X pins σ H { s with heap:=h2',toks:=s.toks+1 }:=I.turnedL (its:=[e,it]) (t':=s.toks+1) (λ c o hc q=>by
   simp only [iw,ib,i3,not_or] at hc
   exact (sb.2 c hc.1).trans (a5 c o hc.1 hc.2 q)) hf
  have hn:H s.heap.objs.size=none:=I.hok.fresh (ic _)
  have ht2:h2'.get? s.heap.objs.size=some { cls:=.type "tuple",data:=.seq #[.int i s.toks,u] }:=(sb.2 _ nt).trans a3
  have hok:HOk X.prog X.w (upd H s.heap.objs.size (.tup [.int i,xs[i]])) h2':=λ c o q=>by
   by_cases hb:c=s.heap.objs.size
   ·subst hb
    rw [ac] at q
    cases q
    exact ⟨by show 2<=sizeLine;decide,[.int i s.toks,u],.cons ⟨_,rfl⟩ (.cons rux .nil),_,ht2,rfl,_,rfl⟩
   ·rw [ai hb] at q
    exact (I1.hok c o q).stay (λ _ _ _ q=>q) (λ c q=>by rw [ai (av q hn)];exact q) λ c xs q=>by rw [ai (av q hn)];exact q
  have I2:=I1.trackI (t:=s.heap.objs.size) I.sz hn (jg I.lt) (λ x c e z=>by
   obtain ⟨v,q⟩:=I.cell x c e
   exact absurd q.lt (by rw [z];exact iP _)) (λ p hp z=>absurd (ik (I.pin p hp).1) (by rw [z];exact iP _)) hok
  refine ⟨.ref s.heap.objs.size,_,I2,rfl,⟨_,_,ex,hn,rfl,rfl⟩,⟨⟨_,z2⟩,?_⟩,λ c hc=>?_⟩
  ·obtain ⟨o,q,r⟩:=a2
   exact ⟨o,(sb.2 _ ne.symm).trans q,r⟩
  ·have:c≠s.heap.objs.size:=by
    obtain ⟨o4,e4,_⟩:=h4
    simp only [iw,ib,i3] at hc
    rcases hc with rfl | rfl
    ·exact iI (ik h1)
    ·exact iI (ik e4)
   rw [ai this]
   exact (hf c hc).1
 done:=by
  intro X hP hw hK hc i pins s σ H E I hf st hg
  subst hP hw hK
  obtain ⟨ha,hend⟩:=hg
  obtain ⟨⟨old,h1⟩,h4⟩:=st
  obtain ⟨us,ru,pu,_⟩:=I.list ha
  have lu:=ru.length
  refine wpAny_pyNext_enum_end (I.ok.hd hc) h1 h4 pu.isList (by simp;omega) λ h' a7=>⟨rfl,I.turnedL (its:=[e,it]) (t':=s.toks) (λ c o hc q=>by
   simp only [iw,ib,i3,not_or] at hc
   exact a7 c o hc.2 q) hf⟩
 self:=λ _ _ _ _ _ st h=>by
  obtain ⟨⟨old,h1⟩,_⟩:=st
  exact wpAny_pyIter_enum h1 h
noncomputable def iEnum (K:W.Frag) (ta:TA):TI:=λ σ H R=>ta σ H λ vs H1=>∃ a xs,vs=[.ref a]/\SqL K H1 a xs/\R (Ite K a xs) H1
theorem pi_enum {elts:List Expr} {x1} {tpos:Pos} {a:Expr} {ta:TA} {p pos:Pos} (hg:Gl X "enumerate") (hm:X.mg "enumerate"=none) (ha:PA X [a] ta) (hs:starEach [a] X.env=[(false,eval a X.env)]:=by rfl):PI X (.Tuple elts x1 tpos) (.Call (.Name "enumerate" p) [a] [] pos) (iEnum X.K ta):=by
 intro pins s σ H R I h
 refine Call_ (fe I hg hm boot_enumerate (jh (thn (ha pos pins s σ H _ I h) λ us s1 ⟨vs,H1,I1,r1,q1⟩=>?_) hs rfl))
 obtain ⟨l1,xs,e,h1,q⟩:=q1
 subst e
 cases r1 with
 | cons r rr=>
  cases rr
  cases r
  obtain ⟨us,ru,pu,_⟩:=I1.list h1
  refine call_enumerate_list pu.isList λ h' z1 z2 z3 z7=>?_
  have I2:Inv X pins σ H1 { s1 with heap:=h' }:=I1.kept (t':=s1.toks) z7
  refine wpAny_pyIter_enum z1 ⟨_,[s1.heap.objs.size+1,s1.heap.objs.size],_,_,_,rfl,I2,turn_enum (Nat.succ_ne_self _) xs,⟨⟨_,z1⟩,z2⟩,λ c hc=>?_,q⟩
  have hb:s1.heap.objs.size<=c:=by
   simp only [iw,ib,i3] at hc
   rcases hc with rfl | rfl
   ·exact jQ _ _
   ·exact ic _
  exact I1.fpOk hb (I1.hok.fresh hb)
theorem for_enum {K:W.Frag} {a:Addr} {xs:List V} {g:TG} {tb:TS} {D:Ends} {σ:St} {H:Hp} (Pv:Nat->St->Hp->Prop) (h0:Pv 0 σ H) (hl:∀ i σ H,Pv i σ H->SqL K H a xs)
  (hs:∀ i x t σ H,xs[i]?=some x->H t=none->Pv i σ H->g (.ref t) σ (upd H t (.tup [.int i,x])) λ σ2 H2=>tb { D with nx:=Pv (i+1),ct:=Pv (i+1),bk:=D.nx } σ2 H2) (hd:∀ σ H,Pv xs.length σ H->D.nx σ H) :
  ∃ W:Nat->Nat->St->Hp->Prop,(∃ m,W 0 m σ H)/\∀ i m σ H,W i m σ H->
   ((Ite K a xs).stop i H/\D.nx σ H)∨((Ite K a xs).go i H/\∃ N:St->Hp->Prop,(∀ σ' H',N σ' H'->∃ m',m'<m/\W (i+1) m' σ' H')/\∀ x H',(Ite K a xs).yld i H x H'->g x σ H' λ σ2 H2=>tb { D with nx:=N,ct:=N,bk:=D.nx } σ2 H2):=by
 refine ⟨λ i m σ H=>m=xs.length-i/\i<=xs.length/\Pv i σ H,⟨xs.length,by simp,im _,h0⟩,?_⟩
 rintro i m σ H ⟨rfl,hi,p⟩
 have q1:=hl i σ H p
 by_cases hlt:i<xs.length
 ·refine .inr ⟨⟨q1,hlt⟩,Pv (i+1),λ σ' H' p'=>⟨xs.length-(i+1),by omega,rfl,hlt,p'⟩,λ v H' y=>?_⟩
  obtain ⟨x,t,hx,ht,ev,eh⟩:=y
  subst ev eh
  exact hs i x t σ _ hx ht p
 ·have e:i=xs.length:=by omega
  subst e
  exact .inl ⟨⟨q1,ic _⟩,hd σ H p⟩
end
end L2
namespace L2
open PySem PySem.Spec PyProof.Rows
section
variable {X:Cx}
theorem draws1 {P:Program} {w:World} {A:Around} (hh:A.handled=none) (it l:Addr) (hne:l≠it) (items:Array Value) :
  Draws P w A it [it,l] (items.size+1) (λ j v=>items[j-1]?=some v) (λ j h=>1<=j/\h.IsListIter it l (j-1)/\h.IsList l items) where
 live:=λ _ _ st=>st.2.1.imp λ o ho=>ho.1
 frame:=λ _ _ _ st hk=>⟨st.1,st.2.1.at λ o e=>hk it (by simp) o e,st.2.2.at λ o e=>hk l (by simp) o e⟩
 item:=λ j s Q E hj st hQ=>by
  obtain ⟨j,rfl⟩:∃ i,j=i+1:=⟨j-1,by have:=st.1;omega⟩
  have hi:j<items.size:=by omega
  exact wpAny_nextOf_list_item (i:=j) st.2.1 st.2.2 (x:=items[j]) (by simp [hi]) λ h' h1 h2=>hQ _ h' s.toks (by simp [hi]) ⟨by omega,h1,st.2.2.extBut h2.extBut hne⟩ h2
 done:=λ s Q E st hE=>wpAny_nextOf_list_end hh st.2.1 st.2.2 (by simp) hE
theorem li_ne {h:Heap} {it l:Addr} {i:Nat} {xs:Array Value} (h1:h.IsListIter it l i) {k:Addr} (h2:h.IsList k xs):k≠it:=λ e=>by
 obtain ⟨o,e1,c1,_⟩:=h1
 obtain ⟨o',e2,c2,_⟩:=h2
 rw [e,e1] at e2
 cases e2
 rw [c1] at c2
 exact absurd c2 (by decide)
theorem en_ne {h:Heap} {e it:Addr} {i:Int} {old:Value} {xs:Array Value} (h1:IsEnum h e it i old) {k:Addr} (h2:h.IsList k xs):k≠e:=λ z=>by
 obtain ⟨o',e2,c2,_⟩:=h2
 rw [z,show h.get? e=some _ from h1] at e2
 cases e2
 have c2:Value.type "enumerate"=Value.type "list":=c2
 exact absurd c2 (by decide)
theorem next1 {P:Program} {w:World} {A:Around} {E:Value->Shared->Prop} {s:Shared} {e it l:Addr} {i:Nat} {items:Array Value} {x old:Value} {Q:Option Value->Shared->Prop} (hh:A.handled=none)
  (he:IsEnum s.heap e it ((i+1:Nat):Int) old) (hit:s.heap.IsListIter it l i) (hl:s.heap.IsList l items) (hx:items[i]?=some x) (hne:e≠it)
  (hQ:∀ h' tk,IsEnumOut h' e it (((i+1:Nat):Int)+1) x s.heap.objs.size->h'.IsListIter it l (i+1)->h'.get? s.heap.objs.size=some { cls:=.type "tuple",data:=.seq #[.int ((i+1:Nat):Int) tk,x] }->(∀ b o,b≠e->b≠it->s.heap.get? b=some o->h'.get? b=some o)->Q (some (.ref s.heap.objs.size)) { s with heap:=h',toks:=tk+1 }) :
  wpAny (model P w) A (pyNext (.ref e)) Q E s:=by
 have ty:s.TypeIs (.ref e) "enumerate":=⟨_,he,rfl⟩
 have ln:=li_ne hit hl
 have le:=en_ne he hl
 have hi:i<items.size:=by
  rcases Nat.lt_or_ge i items.size with z | z
  ·exact z
  ·rw [Array.getElem?_eq_none z] at hx;cases hx
 unfold pyNext
 refine hU (wpAny_attempt (jz (name:=Str.ofString "__next__") ty F.slot_enumerate_next (jH F.slot_enumerate_next ty F.entry_enumerate_next ?_ (F.args_enumerate_next_1 _))))
 refine enumerate_next_itemD (draws1 (P:=P) (w:=w) (A:=A.in1) hh it l ln items) he ⟨by omega,hit,hl⟩ (by omega) hne ?_ λ y h' tk py o1 st t1 _ k1=>?_
 ·simp only [iw,ib,i3,not_or]
  exact ⟨hne,Ne.symm le⟩
 ·have e0:y=x:=by
   have:items[i]?=some y:=py
   rw [hx] at this
   exact (iG this).symm
  subst e0
  exact ip (hQ h' tk o1 st.2.1 t1 k1)
noncomputable def Ite1 (K:W.Frag) (a:Addr) (xs:List V):It:=
 ⟨λ i H=>SqL K H a xs/\i<xs.length,λ i H v H'=>∃ x t,xs[i]?=some x/\H t=none/\v=.ref t/\H'=upd H t (.tup [.int ((i+1:Nat):Int),x]),λ i H=>SqL K H a xs/\i=xs.length⟩
theorem turn_enum1 {P:Program} {w:World} {K:W.Frag} {elts:List Expr} {x1} {tpos:Pos} {e it a:Addr} (ne:e≠it) (xs:List V) :
  Turn P w K (.Tuple elts x1 tpos) (Ite1 K a xs) [e,it] e (λ i h=>(∃ old,IsEnum h e it ((i+1:Nat):Int) old)/\h.IsListIter it a i) where
 mem:=by simp
 obj:=λ i h st c hc=>by
  obtain ⟨⟨old,h1⟩,⟨o4,e4,_,d4⟩⟩:=st
  simp only [iw,ib,i3] at hc
  rcases hc with rfl | rfl
  ·exact ⟨_,h1,λ v z=>by have z':Data.fields _=Data.cell v:=z;cases z'⟩
  ·exact ⟨_,e4,λ v z=>by rw [d4] at z;cases z⟩
 keep:=λ i h h' st k=>by
  obtain ⟨⟨old,h1⟩,⟨o4,e4,r4⟩⟩:=st
  exact ⟨⟨old,k e (by simp) _ h1⟩,⟨o4,k it (by simp) _ e4,r4⟩⟩
 item:=by
  intro X hP hw hK hc i pins s σ H E I hf st hg
  subst hP hw hK
  obtain ⟨ha,hx⟩:=hg
  obtain ⟨⟨old,h1⟩,h4⟩:=st
  obtain ⟨us,ru,pu,_⟩:=I.list ha
  have ex:xs[i]?=some xs[i]:=ii hx
  obtain ⟨u,eu,rux⟩:=eJ ru ex
  refine next1 (I.ok.hd hc) h1 h4 pu.isList (by simpa using eu) ne λ h' tk a1 a2 a3 a5=>?_
  refine ⟨_,rfl,?_⟩
  refine wpAny_letOwnedTupleGo_enum (s:={ s with heap:=h',toks:=tk+1 }) a1 λ h2' z2 sb=>?_
  have nt:s.heap.objs.size≠e:=jg (ik h1)
  have I1:Inv X pins σ H { s with heap:=h2',toks:=tk+1 }:=I.turnedL (its:=[e,it]) (t':=tk+1) (λ c o hc q=>by
   simp only [iw,ib,i3,not_or] at hc
   exact (sb.2 c hc.1).trans (a5 c o hc.1 hc.2 q)) hf
  have hn:H s.heap.objs.size=none:=I.hok.fresh (ic _)
  have ht2:h2'.get? s.heap.objs.size=some { cls:=.type "tuple",data:=.seq #[.int ((i+1:Nat):Int) tk,u] }:=(sb.2 _ nt).trans a3
  have hok:HOk X.prog X.w (upd H s.heap.objs.size (.tup [.int ((i+1:Nat):Int),xs[i]])) h2':=λ c o q=>by
   by_cases hb:c=s.heap.objs.size
   ·subst hb
    rw [ac] at q
    cases q
    exact ⟨by show 2<=sizeLine;decide,[.int ((i+1:Nat):Int) tk,u],.cons ⟨_,rfl⟩ (.cons rux .nil),_,ht2,rfl,_,rfl⟩
   ·rw [ai hb] at q
    exact (I1.hok c o q).stay (λ _ _ _ q=>q) (λ c q=>by rw [ai (av q hn)];exact q) λ c xs q=>by rw [ai (av q hn)];exact q
  have I2:=I1.trackI (t:=s.heap.objs.size) I.sz hn (jg I.lt) (λ x c e z=>by
   obtain ⟨v,q⟩:=I.cell x c e
   exact absurd q.lt (by rw [z];exact iP _)) (λ p hp z=>absurd (ik (I.pin p hp).1) (by rw [z];exact iP _)) hok
  refine ⟨.ref s.heap.objs.size,_,I2,rfl,⟨_,_,ex,hn,rfl,rfl⟩,⟨⟨_,z2⟩,?_⟩,λ c hc=>?_⟩
  ·obtain ⟨o,q,r⟩:=a2
   exact ⟨o,(sb.2 _ ne.symm).trans q,r⟩
  ·have:c≠s.heap.objs.size:=by
    obtain ⟨o4,e4,_⟩:=h4
    simp only [iw,ib,i3] at hc
    rcases hc with rfl | rfl
    ·exact iI (ik h1)
    ·exact iI (ik e4)
   rw [ai this]
   exact (hf c hc).1
 done:=by
  intro X hP hw hK hc i pins s σ H E I hf st hg
  subst hP hw hK
  obtain ⟨ha,hend⟩:=hg
  obtain ⟨⟨old,h1⟩,h4⟩:=st
  obtain ⟨us,ru,pu,_⟩:=I.list ha
  have lu:=ru.length
  have ei:i=us.toArray.size:=by simp;omega
  subst ei
  exact wpAny_pyNext_enum_endD (draws1 (P:=X.prog) (w:=X.w) (A:=X.A.in1) (I.ok.hd hc) it a (li_ne h4 pu.isList) us.toArray) h1 ⟨by omega,h4,pu.isList⟩ λ h' a7=>⟨rfl,I.turnedL (its:=[e,it]) (t':=s.toks) (λ c o hc q=>by
   simp only [iw,ib,i3,not_or] at hc
   exact a7 c o hc.2 q) hf⟩
 self:=λ _ _ _ _ _ st h=>by
  obtain ⟨⟨old,h1⟩,_⟩:=st
  exact wpAny_pyIter_enum h1 h
theorem meets_enum1 (l:Addr) (items:Array Value) (n:Nat) (dct:Option Addr) (sl:Array (Option Value)) (t:Tok) :
  Meets (Builtin.«enumerate.__new__» ⟨[.type "enumerate",.ref l],[("start",.int 1 t)]⟩) (λ _ R s=>s.heap.get? l=some { cls:=.type "list",dict:=dct,data:=.seq items n,slots:=sl }/\∀ tk,
   R (.ok (.ret (.ref (s.heap.push { cls:=.type "list_iterator",data:=.fields #[.ref l,.int 0 0] }).objs.size))) { s with heap:=(s.heap.push { cls:=.type "list_iterator",data:=.fields #[.ref l,.int 0 0] }).push { cls:=.type "enumerate",data:=.fields #[.none,.bool false,.ref s.heap.objs.size,rawInt 1,.none,.none] },toks:=tk }):=
 .of_wp λ prog w A R s ⟨hl,h⟩=>by
  obtain ⟨hp,g,d,tk,os⟩:=s
  have sub:=sub_enumerate
  have il:Heap.IsList (Shared.heap ⟨hp,g,d,tk,os⟩) l items:=⟨_,hl,rfl,n,rfl⟩
  wp_walk using AutoSeq1.wpAny_loadPart' hl
  refine wpAny_stack_any λ st=>ip ?_
  split
  ·rename_i c _ _ _ _ _
   cases (c == Value.type "enumerate") <;> (wp_walk using AutoSeq1.wpAny_loadPart' hl,wpAny_pyIter_list il;exact ⟨_,rfl,h _⟩)
  ·wp_walk using AutoSeq1.wpAny_loadPart' hl,wpAny_pyIter_list il
   exact ⟨_,rfl,h _⟩
section
variable {prog:Program} {w:World} {A:Around} {E:Value->Shared->Prop} {s:Shared}
theorem typeCall_enum1 (a b:Value):checkTypeCall "enumerate" ⟨[a],[("start",b)]⟩=pure ():=by kernel_rfl
theorem newCall_enum1 (a b:Value):checkBuiltinCall "enumerate.__new__" ⟨[.type "enumerate",a],[("start",b)]⟩=pure ():=by kernel_rfl
theorem obj_args1 (a b c:Value):argsOk "object.__init__" ⟨[a,b],[("start",c)]⟩:=by
 have e:=signature?_of (id:="object.__init__") (n:="__tini__".toList) (o:="tcejbo".toList) (by kernel_rfl) F.owner_object
 unfold argsOk
 rw [e]
 kernel_rfl
theorem obj_init1 (self a b:Value):Meets (Builtin.«object.__init__» ⟨[self,a],[("start",b)]⟩) (λ _ R s=>s.TypeIs self "enumerate"/\R (.ok (.ret .none)) s):=.of_wp λ prog w A R s ⟨hT,hq⟩=>by
 have q1:=F.called_enumerate.init.lookup
 have q2:=F.called_enumerate.made
 have q3:(some "enumerate.__new__" != some "object.__new__")=true:=by decide
 repeat (any_goals (first | assumption | wp_step))
 exact ⟨_,rfl,hq⟩
theorem call_enum1 {l:Addr} {items:Array Value} {t:Tok} {Q:Value->Shared->Prop} (hL:s.heap.IsList l items)
  (h:∀ h' tk,IsEnum h' (s.heap.objs.size+1) s.heap.objs.size 1 .none->h'.IsListIter s.heap.objs.size l 0->(∀ b o,s.heap.get? b=some o->h'.get? b=some o)->Q (.ref (s.heap.objs.size+1)) { s with heap:=h',toks:=tk }) :
  wpAny (model prog w) A (call (.type "enumerate") [.ref l] [("start",.int 1 t)]) Q E s:=by
 obtain ⟨⟨c0,dct,dt,sl⟩,hl,hc0,n,hd0⟩:=hL
 obtain rfl:c0=.type "list":=hc0
 obtain rfl:dt=.seq items n:=hd0
 have ft:=F.called_enumerate
 obtain ⟨c,tl,hm⟩:=ft.mro
 have q1:=ft.notType
 have q2:=ft.canCreate
 have q3:=ft.made
 have q4:=ft.sub
 have q5:=typeCall_enum1 (.ref l) (.int 1 t)
 refine wpAny_call (codeAny_of_tree (show wpAny _ _ (callAny (.type "enumerate") _) _ _ _ from ip ⟨Code.quiet_builtin _ (by decide +kernel),codeAny_builtin F.entry_type_call ?_⟩))
 rw [Around.under_plain (weight_type_call_type "enumerate" [.ref l] [("start",.int 1 t)]) (units_type_call_type "enumerate" [.ref l] [("start",.int 1 t)])]
 repeat (any_goals (first | assumption | wp_step))
 have hz:(s.heap.push { cls:=.type "list_iterator",data:=.fields #[.ref l,.int 0 0] }).objs.size=s.heap.objs.size+1:=Heap.size_push ..
 have g:=meets_enum1 l items n dct sl t prog w A.in1 (wants (λ obj s₁=>s₁.TypeIs obj "enumerate"/\Q obj s₁) E) s ⟨hl,λ tk=>by
  show _/\_
  rw [hz]
  have e1:IsEnum ((s.heap.push { cls:=.type "list_iterator",data:=.fields #[.ref l,.int 0 0] }).push { cls:=.type "enumerate",data:=.fields #[.none,.bool false,.ref s.heap.objs.size,rawInt 1,.none,.none] }) (s.heap.objs.size+1) s.heap.objs.size 1 .none:=by rw [<- hz];exact iA _ rfl
  exact ⟨⟨_,e1,rfl⟩,h _ tk e1 ⟨_,ia _ (iA _ rfl),rfl,rfl⟩ λ b o x=>ia _ (ia _ x)⟩⟩
 refine codeAny_mono (codeAny_call_builtin ft.plain F.entry_enumerate_new (wpAny_of_eq (newCall_enum1 (.ref l) (.int 1 t)) g)) λ r s₁ hr=>?_
 match r,hr with
 | .error e,hr=>exact hr
 | .ok (.ret obj),⟨hT,hq⟩=>
  have i1:=ft.init.lookup
  have i2:=ft.init.bind obj
  repeat (any_goals (first | assumption | wp_step))
  have g2:=obj_init1 obj (.ref l) (.int 1 t) prog w A.in1 (wants (λ r s₂=>r=.none/\Q obj s₂) E) s₁ ⟨hT,rfl,hq⟩
  refine codeAny_mono (codeAny_call_builtin ft.init.plain F.entry_object_init (ft.init.check _ _ _ _ _ _ _ _ hT (obj_args1 obj (.ref l) (.int 1 t)) g2)) λ r₂ s₂ hr₂=>?_
  match r₂,hr₂ with
  | .error e,hr₂=>exact hr₂
  | .ok (.ret r),⟨e,hq⟩=>
   subst e
   repeat (any_goals (first | assumption | wp_step))
end
theorem callWith_type_kw {M:Model} {A:Around} {E:Value->Shared->Prop} {s:Shared} {env:Env} {pos:Pos} {T:String} {e:Expr} {kws:List Keyword} {Q:Value->Shared->Prop}
  (h:wpAny M A (spliced (backTo pos (starEach [e] env))) (λ vs s₁=>wpAny M A (evalAll ((backToKw pos (keywordEach kws env)).map (·.2))) (λ kvs s₂=>wpAny M A (call (.type T) vs (((backToKw pos (keywordEach kws env)).filterMap (·.1)).zip kvs)) Q E s₂) E s₁) E s)
  (he:backTo pos (starEach [e] env)=[(false,eval e env)]:=by rfl)
  (hall:(backToKw pos (keywordEach kws env)).all (·.1.isSome)=true:=by rfl) (hkw:(backToKw pos (keywordEach kws env)).any (·.1.isNone)=false:=by rfl) :
  wpAny M A (callWith pos (.type T) [] (backTo pos (starEach [e] env)) (backToKw pos (keywordEach kws env))) Q E s:=by
 unfold callWith
 rw [he] at h ⊢
 refine hU (wpAny_holding (iX (evalArgs_kwB (Q:=λ a s₁=>wpAny M A (call (.type T) a.pos a.kw) Q E s₁) hall h) (λ a s₁ h₁=>hU (jS ?_)) λ _ _ x=>x))
 simp only [hkw,List.any_cons,List.any_nil,Bool.or_false]
 refine hU (ip (hU (iX h₁ (λ r s₂ hr=>hU (wpAny_holding (wpAny_point (ip hr)))) λ _ _ x=>x)))
section
variable {X:Cx}
theorem Call_kw1 {M:Model} {A:Around} {E:Value->Shared->Prop} {s:Shared} {env:Env} {func e:Expr} {kws:List Keyword} {pos:Pos} {Q:Value->Shared->Prop}
  (h:wpAny M A (eval func env) (λ f s₁=>wpAny M A (callWith pos f [] (backTo pos (starEach [e] env)) (backToKw pos (keywordEach kws env))) Q E s₁) E s)
  (he:eval (.Call func [e] kws pos) env=(do callWith pos (<- eval func env) [] (backTo pos (starEach [e] env)) (backToKw pos (keywordEach kws env))):=by rfl):wpAny M A (eval (.Call func [e] kws pos) env) Q E s:=he ▸ hU h
noncomputable def iEnum1 (K:W.Frag) (ta:TA):TI:=λ σ H R=>ta σ H λ vs H1=>∃ a xs,vs=[.ref a]/\SqL K H1 a xs/\R (Ite1 K a xs) H1
theorem pi_enum1 {elts:List Expr} {x1} {tpos:Pos} {a:Expr} {ta:TA} {p pos kp cp:Pos} {j:Nat} (hg:Gl X "enumerate") (hm:X.mg "enumerate"=none) (ha:PA X [a] ta) (hs:backTo pos (starEach [a] X.env)=[(false,eval a X.env)]:=by rfl)
  (he:eval (.Call (.Name "enumerate" p) [a] [⟨some "start",.Constant (.int 1) j cp,kp⟩] pos) X.env=(do callWith pos (<- eval (.Name "enumerate" p) X.env) [] (backTo pos (starEach [a] X.env)) (backToKw pos (keywordEach [⟨some "start",.Constant (.int 1) j cp,kp⟩] X.env))):=by rfl):PI X (.Tuple elts x1 tpos) (.Call (.Name "enumerate" p) [a] [⟨some "start",.Constant (.int 1) j cp,kp⟩] pos) (iEnum1 X.K ta):=by
 intro pins s σ H R I h
 refine Call_kw1 (fe I hg hm boot_enumerate (callWith_type_kw (thn (ha pos pins s σ H _ I h) λ us s1 ⟨vs,H1,I1,r1,q1⟩=>?_) hs)) he
 obtain ⟨l1,xs,e,h1,q⟩:=q1
 subst e
 cases r1 with
 | cons r rr=>
  cases rr
  cases r
  refine kws_cons (wpAny_Constant_int (kws_nil ?_))
  have I1':=I1.tok (s1.toks+1)
  obtain ⟨us,ru,pu,_⟩:=I1'.list h1
  refine call_enum1 (t:=s1.toks) pu.isList λ h' tk z1 z2 z7=>?_
  have I2:Inv X pins σ H1 { s1 with heap:=h',toks:=tk }:=I1'.kept (t':=tk) z7
  refine wpAny_pyIter_enum z1 ⟨_,[s1.heap.objs.size+1,s1.heap.objs.size],_,_,_,rfl,I2,turn_enum1 (Nat.succ_ne_self _) xs,⟨⟨_,z1⟩,z2⟩,λ c hc=>?_,q⟩
  have hb:s1.heap.objs.size<=c:=by
   simp only [iw,ib,i3] at hc
   rcases hc with rfl | rfl
   ·exact jQ _ _
   ·exact ic _
  exact I1.fpOk hb (I1.hok.fresh hb)
theorem for_enum1 {K:W.Frag} {a:Addr} {xs:List V} {g:TG} {tb:TS} {D:Ends} {σ:St} {H:Hp} (Pv:Nat->St->Hp->Prop) (h0:Pv 0 σ H) (hl:∀ i σ H,Pv i σ H->SqL K H a xs)
  (hs:∀ i x t σ H,xs[i]?=some x->H t=none->Pv i σ H->g (.ref t) σ (upd H t (.tup [.int ((i+1:Nat):Int),x])) λ σ2 H2=>tb { D with nx:=Pv (i+1),ct:=Pv (i+1),bk:=D.nx } σ2 H2) (hd:∀ σ H,Pv xs.length σ H->D.nx σ H) :
  ∃ W:Nat->Nat->St->Hp->Prop,(∃ m,W 0 m σ H)/\∀ i m σ H,W i m σ H->
   ((Ite1 K a xs).stop i H/\D.nx σ H)∨((Ite1 K a xs).go i H/\∃ N:St->Hp->Prop,(∀ σ' H',N σ' H'->∃ m',m'<m/\W (i+1) m' σ' H')/\∀ x H',(Ite1 K a xs).yld i H x H'->g x σ H' λ σ2 H2=>tb { D with nx:=N,ct:=N,bk:=D.nx } σ2 H2):=by
 refine ⟨λ i m σ H=>m=xs.length-i/\i<=xs.length/\Pv i σ H,⟨xs.length,by simp,im _,h0⟩,?_⟩
 rintro i m σ H ⟨rfl,hi,p⟩
 have q1:=hl i σ H p
 by_cases hlt:i<xs.length
 ·refine .inr ⟨⟨q1,hlt⟩,Pv (i+1),λ σ' H' p'=>⟨xs.length-(i+1),by omega,rfl,hlt,p'⟩,λ v H' y=>?_⟩
  obtain ⟨x,t,hx,ht,ev,eh⟩:=y
  subst ev eh
  exact hs i x t σ _ hx ht p
 ·have e:i=xs.length:=by omega
  subst e
  exact .inl ⟨⟨q1,rfl⟩,hd σ H p⟩
end
end
end L2
namespace L2
open PySem PySem.Spec PyProof.Rows
section
variable {P:Program} {w:World} {K:W.Frag} {mg:Str->Option Value} {base:Heap}
end
section
variable {X:Cx} {CX:CXT} {k j:Nat} {f:Addr} {fd:FuncData} {ps:List Str} {sp:Sp} {dvs:List V} {ds:List Value} {E:XK} {x:Str} {p pos:Pos} {e:Expr} {es:List Expr} {t:TA}
end
end L2
namespace L2
open PySem PySem.Spec PyProof.Rows
section
variable {X:Cx}
theorem pe_xfldK {K:W.Frag} {e:Expr} {f:Str} {pos:Pos} {ta:TE} (hK:X.K=K) (he:PE X e ta) (hb:attributeBase e f X.env (eval e X.env)=eval e X.env):PE X (.Attribute e f pos) (tXf K ta f):=by
 subst hK
 exact pe_xfld he hb
end
end L2
namespace L2
open PySem PySem.Spec PyProof.Rows
section
variable {X:Cx}
theorem op_notInK {K:W.Frag} (hK:X.K=K):OpR X (compareOp .NotIn) (rIn K true):=by
 subst hK
 exact op_notIn_seq
variable {j:Nat} {m:Str} {pos apos:Pos} {e o:Expr} {es:List Expr} {ta:TE} {t:TA}
end
end L2
namespace L2
open PySem PySem.Spec PyProof.Rows
theorem strs_idx:∀ {xs:List Value} {ns:List Str},xs.length=ns.length->(∀ (j:Nat) (u:Value) (n:Str),xs[j]?=some u->ns[j]?=some n->∃ t,u=.str n t)->StrsAre xs ns
 | [],[],_,_=>.nil
 | [],_::_,h,_=>by cases h
 | _::_,[],h,_=>by cases h
 | x::xs,n::ns,h,k=>by
  obtain ⟨t,rfl⟩:=k 0 x n rfl rfl
  exact .cons n t (strs_idx (Nat.succ.inj h) λ j y w a b=>k (j+1) y w (by simpa using a) (by simpa using b))
theorem strs_vals:∀ {us:List Value} {ns:List Str},StrsAre us ns->Vals (ns.map V.str) us
 | _,_,.nil=>.nil
 | _,_,.cons x t h=>.cons ⟨t,rfl⟩ (strs_vals h)
theorem rise_ge:∀ (p:Str) (l:List Str),risingS p l=true->(∀ x∈l,p.cps.toList<=x.cps.toList)/\l.Pairwise (λ a b=>a.cps.toList<=b.cps.toList)
 | _,[],_=>⟨λ _ h=>absurd h ib,.nil⟩
 | p,x::r,h=>by
  have h':(!ltCps x.cps.toList p.cps.toList && risingS x r)=true:=h
  rw [Bool.and_eq_true] at h'
  obtain ⟨h1,h2⟩:=h'
  rw [ltCps_eq] at h1
  have h3:p.cps.toList<=x.cps.toList:=List.not_lt.mp (by simpa using h1)
  obtain ⟨i1,i2⟩:=rise_ge x r h2
  refine ⟨λ y hy=>?_,.cons (λ y hy=>i1 y hy) i2⟩
  rcases iw.mp hy with rfl | hy
  ·exact h3
  ·exact List.le_trans h3 (i1 y hy)
theorem sorted_pair {l:List Str} (h:sortedS l=true):l.Pairwise (λ a b=>a.cps.toList<=b.cps.toList):=by
 cases l with
 | nil=>exact .nil
 | cons x r=>exact .cons (rise_ge x r h).1 (rise_ge x r h).2
theorem sorted_uniq {l l' ks:List Str} (p:l.Perm ks) (p':l'.Perm ks) (h:sortedS l=true) (h':sortedS l'=true):l=l':=
 List.Perm.eq_of_pairwise (λ a b _ _ h1 h2=>by
  obtain ⟨a⟩:=a
  obtain ⟨b⟩:=b
  have e:a.toList=b.toList:=List.le_antisymm h1 h2
  rw [Array.toList_inj.mp e]) (sorted_pair h) (sorted_pair h') (p.trans p'.symm)
section
variable {X:Cx}
theorem fE (hh:X.A.handled=none):fF X (.builtin "sorted") (λ xs H Q=>∃ (p:Addr) (kvs:List (Key × V)) (ks:List Str),xs=[.ref p]/\Rd H p (.dK kvs)/\kvs.map (·.1)=ks.map (λ n=>(Sum.inr n:Key))/\kvs.length<64/\∀ l ss,H l=none->ss.Perm ks->sortedS ss=true->Q (.ref l) (upd H l (.lst (ss.map V.str)))):=by
 intro pins s σ H xs us Q I r h
 obtain ⟨p,kvs,ks,rfl,hp,hk,h64,q⟩:=h
 obtain ⟨u,rfl,rx⟩:=vals1 r
 cases rx
 obtain ⟨hz,hs,vs,kv,hD⟩:=fS I.hok hp
 obtain ⟨ep,hat⟩:=hD.dictAt
 have el:=kv.length
 refine Calls.call_function_entry kind_sorted plain_sorted entry_sorted (args_sorted1 _) ?_
 unfold Builtin.«sorted»
 refine hU (m:=checkCount "sorted" 1 1 _) (ip ?_)
 refine hU (PySem.W.kdu_collect (A:=X.A.in1) (PySem.W.kdl_dict (knd:=bb X.prog X.w) (kvs:=vs) (ep:=ep) hs) hh hat (by rw [<- el];exact hz) λ h' tk acc hk' hacc=>?_)
 obtain ⟨e1,e2⟩:=hacc
 have lks:kvs.length=ks.length:=by have:=i7 List.length hk;rwa [hZ,hZ] at this
 have hl:acc.toList.length=ks.length:=by rw [Array.length_toList,e1,<- el,lks]
 have hS:StrsAre acc.toList ks:=by
  refine strs_idx hl λ j u n a b=>?_
  obtain ⟨k,y,hk1,hi⟩:=e2 j u (by rw [<- Array.getElem?_toList];exact a)
  have g:=i7 (λ l=>l[j]?) hk
  simp only [iq,b,jm] at g
  cases e:kvs[j]? with
  | none=>rw [e] at g;cases g
  | some z=>
   rw [e] at g
   have g1:z.1=Sum.inr n:=iG g
   obtain ⟨v,hv,_⟩:=KV.get kv e
   rw [hv] at hk1
   cases hk1
   have r:=is_kV hi
   rw [g1] at r
   exact r
 refine hU (wpAny_newList ?_ (by rw [hl,<- lks];exact hz))
 have hoL:(h'.push (seqObj "list" acc.toList.toArray 0)).get? h'.objs.size=some (seqObj "list" acc.toList.toArray 0):=iA _ rfl
 refine hU (wpAny_holding (jH slot_list_sort ⟨_,hoL,rfl⟩ entry_list_sort (list_sort_treeK strKind_oneLt hoL hS.keysOf (λ v₁ v₂ rest e=>keyKind_strs (by rw [<- e];exact hS)) (by rw [hl,<- lks];exact h64) λ st' a1 a2=>⟨_,rfl,?_⟩) (args_list_sort _)))
 obtain ⟨ss',h1,h2,h3⟩:=sorted_out_str hS a1 a2
 obtain ⟨e,hat'⟩:=sortedHeap_at (out:=(arrOf st').map (·.2)) hoL
 refine ip ⟨_,rfl,?_⟩
 have old:∀ b o,s.heap.get? b=some o->b<h'.objs.size:=λ b o z=>ik (hk' b o z)
 have keep:∀ b o,s.heap.get? b=some o->(sortedHeap (h'.push (seqObj "list" acc.toList.toArray 0)) h'.objs.size acc.toList ((arrOf st').map (·.2))).get? b=some o:=λ b o z=>by
  have:=old b o z
  rw [sortedHeap_old (iI this) (by rw [size_push'];exact Nat.lt_succ_of_lt this)]
  exact ia _ (hk' b o z)
 have hn:H h'.objs.size=none:=by
  cases e:H h'.objs.size with
  | none=>rfl
  | some ob=>
   exact absurd (I.hok.kept hk' _ _ e).lt (iP _)
 have I1:=I.kept (t':=tk) keep
 have lss:ss'.length<=sizeLine:=by rw [h2.length_eq,<- lks];exact hz
 refine ⟨.ref h'.objs.size,_,I1.trackI (t:=h'.objs.size) (o:=.lst (ss'.map V.str)) ?_ hn ?_ (λ x c e z=>?_) (λ p hp z=>?_) (λ c o q=>?_),rfl,q _ ss' hn h2 h3⟩
 ·obtain ⟨_,hL,_⟩:=I.loc
  obtain ⟨_,_,_,z,_⟩:=hL
  exact ie I.ok.above (Nat.le_of_lt (old _ _ z))
 ·obtain ⟨_,hL,_⟩:=I.loc
  obtain ⟨_,_,_,z,_⟩:=hL
  exact jg (old _ _ z)
 ·obtain ⟨v,⟨o,q,_⟩⟩:=I.cell x c e
  exact absurd (old _ _ q) (by rw [z];exact iP _)
 ·exact absurd (old _ _ (I.pin p hp).1) (by rw [z];exact iP _)
 ·by_cases hb:c=h'.objs.size
  ·subst hb
   rw [ac] at q
   cases q
   exact ⟨by rw [hZ];exact lss,((arrOf st').map (·.2)).toList,e,strs_vals h1,by rw [Array.toArray_toList];exact hat'⟩
  ·rw [ai hb] at q
   exact (I1.hok c o q).stay (λ _ _ _ q=>q) (λ c q=>by rw [ai (av q hn)];exact q) λ c xs q=>by rw [ai (av q hn)];exact q
end
end L2
namespace L2
open PySem PySem.Spec PyProof.Rows
section
variable {prog:Program} {w:World} {A:Around} {E:Value->Shared->Prop} {s:Shared} {κ:Type} [DecidableEq κ] {knd:KeyKind prog w κ}
theorem dk_item {it d:Addr} {i ep:Nat} {kvs:List (κ × Value)} {k:κ} {v:Value} {Q:Value->Shared->Prop} (ji:s.heap.IsKeyIter it d i kvs.length ep) (jd:s.heap.DictAt knd d kvs ep) (jx:kvs[i]?=some (k,v))
  (jq:∀ u h',knd.is k u=true->h'.IsKeyIter it d (i+1) kvs.length ep->Heap.SameBut it s.heap h'->Q u { s with heap:=h' }):wpAny (model prog w) A (Builtin.SmallTypes.nextOf (.ref it)) Q E s:=by
 obtain ⟨oi,gi,ci,di⟩:=id ji
 obtain ⟨ob,es,gb,cb,db,kb,pb,nb⟩:=id jd
 have ty:=ji.typeIs
 have sz:es.size=kvs.length:=by rw [<- pb.length];simp
 have li:i<kvs.length:=(hV.mp jx).1
 have le:i<es.size:=by rw [sz];exact li
 have key:knd.is k es[i].key=true:=(pb.get? (e:=es[i]) (by simp [le]) jx).1
 unfold Builtin.SmallTypes.nextOf
 refine hU (jz (name:=Str.ofString "__next__") ty F.slot_dict_keyiterator_next (jH F.slot_dict_keyiterator_next ty F.entry_dict_keyiterator_next ?_ (F.args_dict_keyiterator_next_1 _)))
 refine hU (ip (hU (hU ?_)))
 first | refine hU (wpAny_typeNameOfWhole_keyiter ty (ip (hU (wpAny_fieldsOf gi di ?_)))) | refine hU (wpAny_typeNameOf_keyiter ty (ip (hU (wpAny_fieldsOf gi di ?_))))
 simp only [show Builtin.Dict_items.ownsTuple "dict_keyiterator"=false by decide,jF,if_false]
 show wpAny _ _ (ite ((Value.ref d == Value.none)=true) _ _) _ _ s
 rw [if_neg (λ z:(Value.ref d == Value.none)=true=>iC z)]
 refine hU (ip (hU (wpAny_dictEntries gb db ?_)))
 rw [if_neg (by rw [sz];simp)]
 refine hU (ip (hU (wpAny_dictEpoch gb db ?_)))
 rw [if_neg (by simp)]
 refine ip ?_
 simp only [if_neg (show ¬ ((i:Int)<0) by omega),Int.toNat_natCast,Array.getElem?_eq_getElem le]
 refine hU ?_
 first | refine hU (wpAny_typeNameOfWhole_keyiter ty (ip (hU (wpAny_isOneOf_keyiter ty ?_)))) | refine hU (wpAny_typeNameOf_keyiter ty (ip (hU (wpAny_isOneOf_keyiter ty ?_))))
 show wpAny _ _ (setField (.ref it) 1 (rawInt (Int.ofNat i+1)) >>= _) _ _ s
 refine hU (wpAny_setField gi di (by simp) ?_)
 have jn:(s.heap.update it (Obj.mapFields (·.setIfInBounds 1 (rawInt (Int.ofNat i+1))))).IsKeyIter it d (i+1) kvs.length ep:=by
  refine ⟨_,jM _ gi (Obj.isFreed_of_fields (jP di _)),(Obj.cls_mapFields ..).trans ci,?_⟩
  rw [jP di]
  simp [rawInt]
 refine hU (wpAny_holding (hU (wpAny_isOneOf_keyiter (s:={ s with heap:=s.heap.update it (Obj.mapFields (·.setIfInBounds 1 (rawInt (Int.ofNat i+1)))) }) jn.typeIs ?_)))
 show wpAny _ _ (pure (es[i]'le).key) _ _ _
 exact ip (ip ⟨_,rfl,ip (jq _ _ key jn (Heap.SameBut.update ..))⟩)
theorem dk_end {it d:Addr} {i ep:Nat} {kvs:List (κ × Value)} {Q:Value->Shared->Prop} (hh:A.handled=none) (ji:s.heap.IsKeyIter it d i kvs.length ep) (jd:s.heap.DictAt knd d kvs ep) (jx:kvs.length<=i)
  (je:∀ h' e,Heap.ExtBut it s.heap h'->(∃ o,h'.get? e=some o/\o.cls=.type "StopIteration")->E (.ref e) { s with heap:=h' }):wpAny (model prog w) A (Builtin.SmallTypes.nextOf (.ref it)) Q E s:=by
 obtain ⟨oi,gi,ci,di⟩:=id ji
 obtain ⟨ob,es,gb,cb,db,kb,pb,nb⟩:=id jd
 have ty:=ji.typeIs
 have sz:es.size=kvs.length:=by rw [<- pb.length];simp
 have ge:es.size<=i:=by rw [sz];exact jx
 unfold Builtin.SmallTypes.nextOf
 refine hU (jz (name:=Str.ofString "__next__") ty F.slot_dict_keyiterator_next (jH F.slot_dict_keyiterator_next ty F.entry_dict_keyiterator_next ?_ (F.args_dict_keyiterator_next_1 _)))
 refine hU (ip (hU (hU ?_)))
 first | refine hU (wpAny_typeNameOfWhole_keyiter ty (ip (hU (wpAny_fieldsOf gi di ?_)))) | refine hU (wpAny_typeNameOf_keyiter ty (ip (hU (wpAny_fieldsOf gi di ?_))))
 simp only [show Builtin.Dict_items.ownsTuple "dict_keyiterator"=false by decide,jF,if_false]
 show wpAny _ _ (ite ((Value.ref d == Value.none)=true) _ _) _ _ s
 rw [if_neg (λ z:(Value.ref d == Value.none)=true=>iC z)]
 refine hU (ip (hU (wpAny_dictEntries gb db ?_)))
 rw [if_neg (by rw [sz];simp)]
 refine hU (ip (hU (wpAny_dictEpoch gb db ?_)))
 rw [if_neg (by simp)]
 refine ip ?_
 simp only [if_neg (show ¬ ((i:Int)<0) by omega),Int.toNat_natCast,Array.getElem?_eq_none ge]
 refine hU ?_
 first | refine hU (wpAny_typeNameOfWhole_keyiter ty (ip ?_)) | refine hU (wpAny_typeNameOf_keyiter ty (ip ?_))
 refine hU (m:=setField (.ref it) 0 .none) (wpAny_setField gi di (by simp) ?_)
 refine hU (m:=newExc (.type "StopIteration") []) ?_
 simp only [newExc,newTuple]
 refine hU (wpAny_newObj_type (hU (m:=firstArgMember _ _) (wpAny_of_eq (a:=Value.none) (by first | rfl | (simp only [firstArgMember];rfl)) (wpAny_newObj_type ?_ (by size_fits)))) (by size_fits))
 simp only [raiseNew]
 refine hU (wpAny_handled ?_)
 first | rw [show A.in1.handled=none from hh] | rw [hh]
 refine hU (ip (wpAny_throw ?_))
 exact je _ _ (((Heap.SameBut.update ..).extBut.push _).push _) ⟨_,iA _ rfl,rfl⟩
open AutoSeq1 (wpAny_loadPart')
theorem enum_newD {d:Addr} {kvs:List (κ × Value)} {ep:Nat} (hs:(d == sysModules)=false) :
  MeetsIn prog w (Builtin.«enumerate.__new__» ⟨[.type "enumerate",.ref d],[]⟩) (λ _ R s=>s.heap.DictAt knd d kvs ep/\
   R (.ok (.ret (.ref (s.heap.push { cls:=.type "dict_keyiterator",data:=.fields #[.ref d,.int 0 0,.int kvs.length 0,.int ep 0] }).objs.size)))
    { s with heap:=(s.heap.push { cls:=.type "dict_keyiterator",data:=.fields #[.ref d,.int 0 0,.int kvs.length 0,.int ep 0] }).push { cls:=.type "enumerate",data:=.fields #[.none,.bool false,.ref s.heap.objs.size,rawInt 0,.none,.none] } }):=
 .of_wp λ A R s h=>by
  obtain ⟨hp,g,dd,tk,os⟩:=s
  obtain ⟨jd,h⟩:=h
  have hsub:=sub_enumerate
  have jd':Heap.DictAt knd (Shared.heap ⟨hp,g,dd,tk,os⟩) d kvs ep:=jd
  obtain ⟨ob,es,gb,cb,db,kb,pb,nb⟩:=id jd
  wp_walk using wpAny_loadPart' gb
  refine wpAny_stack_any λ st=>ip ?_
  split
  ·rename_i c _ _ _ _ _
   cases (c == Value.type "enumerate") <;> (wp_walk using wpAny_loadPart' gb,wpAny_pyIter_dict hs jd';exact ⟨_,rfl,h⟩)
  ·wp_walk using wpAny_loadPart' gb,wpAny_pyIter_dict hs jd'
   exact ⟨_,rfl,h⟩
theorem call_enumD {d:Addr} {kvs:List (κ × Value)} {ep:Nat} {Q:Value->Shared->Prop} (hs:(d == sysModules)=false) (jd:s.heap.DictAt knd d kvs ep)
  (h:∀ h',IsEnum h' (s.heap.objs.size+1) s.heap.objs.size 0 .none->h'.IsKeyIter s.heap.objs.size d 0 kvs.length ep->(∀ b o,s.heap.get? b=some o->h'.get? b=some o)->Q (.ref (s.heap.objs.size+1)) { s with heap:=h' }) :
  wpAny (model prog w) A (call (.type "enumerate") [.ref d]) Q E s:=by
 refine callType_newIn F.called_enumerate (by decide) (F.typeCall_enumerate_1 _) (F.newCall_enumerate_1 _) (λ obj=>F.args_object_init_2 obj _) F.entry_enumerate_new (enum_newD (knd:=knd) (kvs:=kvs) (ep:=ep) hs) ⟨jd,?_⟩
 have hz:(s.heap.push { cls:=.type "dict_keyiterator",data:=.fields #[.ref d,.int 0 0,.int kvs.length 0,.int ep 0] }).objs.size=s.heap.objs.size+1:=Heap.size_push ..
 show _/\_
 rw [hz]
 have he:=iA (s.heap.push { cls:=.type "dict_keyiterator",data:=.fields #[.ref d,.int 0 0,.int kvs.length 0,.int ep 0] }) (o:={ cls:=.type "enumerate",data:=.fields #[.none,.bool false,.ref s.heap.objs.size,rawInt 0,.none,.none] }) rfl
 rw [hz] at he
 exact ⟨⟨_,he,rfl⟩,h _ he ⟨_,ia _ (iA _ rfl),rfl,rfl⟩ λ b o x=>ia _ (ia _ x)⟩
theorem draws_dk {it d:Addr} {kvs:List (κ × Value)} {ep:Nat} (hh:A.handled=none):Draws prog w A it [it,d] kvs.length (λ i u=>∃ k v,kvs[i]?=some (k,v)/\knd.is k u=true) (λ i h=>h.IsKeyIter it d i kvs.length ep/\h.DictAt knd d kvs ep/\d≠it) where
 live:=λ i h st=>let ⟨⟨o,e,_⟩,_⟩:=st;⟨o,e⟩
 frame:=λ i h h' st k=>by
  obtain ⟨⟨o,e,r⟩,⟨ob,es,gb,r'⟩,n⟩:=st
  exact ⟨⟨o,k it (by simp) _ e,r⟩,⟨ob,es,k d (by simp) _ gb,r'⟩,n⟩
 item:=λ i s Q E hi st hQ=>by
  obtain ⟨ji,jd,n⟩:=st
  have ex:kvs[i]?=some (kvs[i].1,kvs[i].2):=ii hi
  refine dk_item ji jd ex λ u h' hu ji' sb=>hQ u h' s.toks ⟨_,_,ex,hu⟩ ⟨ji',?_,n⟩ sb
  obtain ⟨ob,es,gb,r'⟩:=jd
  exact ⟨ob,es,(sb.2 d n).trans gb,r'⟩
 done:=λ s Q E st hE=>dk_end hh st.1 st.2.1 (ic _) hE
theorem draws_none {it d:Addr} {kvs:List (κ × Value)} {ep n:Nat} (hn:kvs.length<=n) (hh:A.handled=none):Draws prog w A it [it,d] n (λ _ _=>False) (λ i h=>i=n/\h.IsKeyIter it d n kvs.length ep/\h.DictAt knd d kvs ep) where
 live:=λ i h st=>let ⟨_,⟨o,e,_⟩,_⟩:=st;⟨o,e⟩
 frame:=λ i h h' st k=>by
  obtain ⟨z,⟨o,e,r⟩,⟨ob,es,gb,r'⟩⟩:=st
  exact ⟨z,⟨o,k it (by simp) _ e,r⟩,⟨ob,es,k d (by simp) _ gb,r'⟩⟩
 item:=λ i s Q E hi st hQ=>absurd st.1 (iI hi)
 done:=λ s Q E st hE=>dk_end hh st.2.1 st.2.2 hn hE
end
section
variable {X:Cx}
noncomputable def Itde (a:Addr) (o:Obj) (kvs:List (Key × V)):It:=
 ⟨λ i H=>H a=some (.frz o (.dK kvs))/\i<kvs.length,λ i H v H'=>∃ kv t,kvs[i]?=some kv/\H t=none/\v=.ref t/\H'=upd H t (.tup [.int i,kV kv.1]),λ i H=>H a=some (.frz o (.dK kvs))/\kvs.length<=i⟩
theorem turn_enumD {P:Program} {w:World} {K:W.Frag} {elts:List Expr} {x1} {tpos:Pos} {e it a:Addr} (ne:e≠it) (o:Obj) (kvs:List (Key × V)) {es:Array DictEntry} {ep:Nat} (hd:o.data=.dict es ep) :
  Turn P w K (.Tuple elts x1 tpos) (Itde a o kvs) [e,it] e (λ i h=>(∃ old,IsEnum h e it i old)/\h.IsKeyIter it a i kvs.length ep) where
 mem:=by simp
 obj:=λ i h st c hc=>by
  obtain ⟨⟨old,h1⟩,⟨o4,e4,_,d4⟩⟩:=st
  simp only [iw,ib,i3] at hc
  rcases hc with rfl | rfl
  ·exact ⟨_,h1,λ v z=>by have z':Data.fields _=Data.cell v:=z;cases z'⟩
  ·exact ⟨_,e4,λ v z=>by rw [d4] at z;cases z⟩
 keep:=λ i h h' st k=>by
  obtain ⟨⟨old,h1⟩,⟨o4,e4,r4⟩⟩:=st
  exact ⟨⟨old,k e (by simp) _ h1⟩,⟨o4,k it (by simp) _ e4,r4⟩⟩
 item:=by
  intro X hP hw hK hc i pins s σ H E I hf st hg
  subst hP hw hK
  obtain ⟨ha,hx⟩:=hg
  obtain ⟨⟨old,h1⟩,h4⟩:=st
  obtain ⟨ho,hz,hs,vs,r,o',es',ep',e1,e2,e3,e4,e5,e6⟩:=I.hok a _ ha
  rw [ho] at e1;cases e1
  rw [hd] at e3;cases e3
  have ex:kvs[i]?=some kvs[i]:=ii hx
  obtain ⟨v,hv,rv⟩:=KV.get r ex
  have st0:s.heap.IsKeyIter it a i vs.length ep:=by rw [<- r.length];exact h4
  have na:∀ c∈[e,it],a≠c:=λ c hc z=>by have:=(hf c hc).1;rw [<- z,ha] at this;cases this
  refine wpAny_pyNext_enum_itemD (draws_dk (knd:=bb X.prog X.w) (it:=it) (d:=a) (kvs:=vs) (ep:=ep) (A:=X.A.in1) (I.ok.hd hc)) h1 ⟨st0,⟨o,es,ho,e2,hd,e4,e5,e6⟩,na it (by simp)⟩ (by rw [<- r.length];exact hx) ne (by
   simp only [iw,ib,i3,not_or]
   exact ⟨ne,(na e (by simp)).symm⟩) λ u h' tk hu a1 a2 a3 a4 a5=>?_
  obtain ⟨ku,vu,eu,hk⟩:=hu
  rw [hv] at eu
  cases eu
  refine ⟨_,rfl,?_⟩
  refine wpAny_letOwnedTupleGo_enum (s:={ s with heap:=h',toks:=tk+1 }) a1 λ h2' z2 sb=>?_
  have nt:s.heap.objs.size≠e:=jg (ik h1)
  have I1:Inv X pins σ H { s with heap:=h2',toks:=tk+1 }:=I.turnedL (its:=[e,it]) (t':=tk+1) (λ c o hc q=>by
   simp only [iw,ib,i3,not_or] at hc
   exact (sb.2 c hc.1).trans (a5 c o hc.1 hc.2 q)) hf
  have hn:H s.heap.objs.size=none:=I.hok.fresh (ic _)
  have ht2:h2'.get? s.heap.objs.size=some { cls:=.type "tuple",data:=.seq #[.int i tk,u] }:=(sb.2 _ nt).trans a3
  have hok:HOk X.prog X.w (upd H s.heap.objs.size (.tup [.int i,kV (kvs[i]).1])) h2':=λ c o q=>by
   by_cases hb:c=s.heap.objs.size
   ·subst hb
    rw [ac] at q
    cases q
    exact ⟨by show 2<=sizeLine;decide,[.int i tk,u],.cons ⟨_,rfl⟩ (.cons (is_kV hk) .nil),_,ht2,rfl,_,rfl⟩
   ·rw [ai hb] at q
    exact (I1.hok c o q).stay (λ _ _ _ q=>q) (λ c q=>by rw [ai (av q hn)];exact q) λ c xs q=>by rw [ai (av q hn)];exact q
  have I2:=I1.trackI (t:=s.heap.objs.size) I.sz hn (jg I.lt) (λ x c e z=>by
   obtain ⟨v,q⟩:=I.cell x c e
   exact absurd q.lt (by rw [z];exact iP _)) (λ p hp z=>absurd (ik (I.pin p hp).1) (by rw [z];exact iP _)) hok
  refine ⟨.ref s.heap.objs.size,_,I2,rfl,⟨_,_,ex,hn,rfl,rfl⟩,⟨⟨_,z2⟩,?_⟩,λ c hc=>?_⟩
  ·obtain ⟨⟨o,q,rr⟩,_⟩:=a2
   rw [r.length]
   exact ⟨o,(sb.2 _ ne.symm).trans q,rr⟩
  ·have:c≠s.heap.objs.size:=by
    obtain ⟨o4,q4,_⟩:=h4
    simp only [iw,ib,i3] at hc
    rcases hc with rfl | rfl
    ·exact iI (ik h1)
    ·exact iI (ik q4)
   rw [ai this]
   exact (hf c hc).1
 done:=by
  intro X hP hw hK hc i pins s σ H E I hf st hg
  subst hP hw hK
  obtain ⟨ha,hend⟩:=hg
  obtain ⟨⟨old,h1⟩,h4⟩:=st
  obtain ⟨ho,hz,hs,vs,r,o',es',ep',e1,e2,e3,e4,e5,e6⟩:=I.hok a _ ha
  rw [ho] at e1;cases e1
  rw [hd] at e3;cases e3
  have st0:s.heap.IsKeyIter it a i vs.length ep:=by rw [<- r.length];exact h4
  refine wpAny_pyNext_enum_endD (draws_none (knd:=bb X.prog X.w) (it:=it) (d:=a) (kvs:=vs) (ep:=ep) (n:=i) (A:=X.A.in1) (by rw [<- r.length];exact hend) (I.ok.hd hc)) h1 ⟨rfl,st0,⟨o,es,ho,e2,hd,e4,e5,e6⟩⟩ λ h' a7=>⟨rfl,I.turnedL (its:=[e,it]) (t':=s.toks) (λ c o hc q=>by
   simp only [iw,ib,i3,not_or] at hc
   exact a7 c o hc.2 q) hf⟩
 self:=λ _ _ _ _ _ st h=>by
  obtain ⟨⟨old,h1⟩,_⟩:=st
  exact wpAny_pyIter_enum h1 h
noncomputable def iEnumD (ta:TA):TI:=λ σ H R=>ta σ H λ vs H1=>∃ a kvs,vs=[.ref a]/\H1 a=some (.dK kvs)/\∀ o,R (Itde a o kvs) (upd H1 a (.frz o (.dK kvs)))
theorem pi_enumD {elts:List Expr} {x1} {tpos:Pos} {a:Expr} {ta:TA} {p pos:Pos} (hg:Gl X "enumerate") (hm:X.mg "enumerate"=none) (ha:PA X [a] ta) (hs:starEach [a] X.env=[(false,eval a X.env)]:=by rfl):PI X (.Tuple elts x1 tpos) (.Call (.Name "enumerate" p) [a] [] pos) (iEnumD ta):=by
 intro pins s σ H R I h
 refine Call_ (fe I hg hm boot_enumerate (jh (thn (ha pos pins s σ H _ I h) λ us s1 ⟨vs,H1,I1,r1,q1⟩=>?_) hs rfl))
 obtain ⟨d,kvs,e,h1,q⟩:=q1
 subst e
 cases r1 with
 | cons r rr=>
  cases rr
  cases r
  obtain ⟨hz,hs,ws,r,o,es,ep,e1,e2,e3,e4,e5,e6⟩:=dk_of I1.hok h1
  have I2:Inv X pins σ (upd H1 d (.frz o (.dK kvs))) s1:=I1.freeze h1 True.intro e1
  refine call_enumD hs ⟨o,es,e1,e2,e3,e4,e5,e6⟩ λ h' z1 z2 z7=>?_
  have I3:Inv X pins σ (upd H1 d (.frz o (.dK kvs))) { s1 with heap:=h' }:=I2.kept (t':=s1.toks) z7
  refine wpAny_pyIter_enum z1 ⟨_,[s1.heap.objs.size+1,s1.heap.objs.size],_,_,_,rfl,I3,turn_enumD (Nat.succ_ne_self _) o kvs e3,⟨⟨_,z1⟩,by rw [r.length];exact z2⟩,λ c hc=>?_,q o⟩
  have hb:s1.heap.objs.size<=c:=by
   simp only [iw,ib,i3] at hc
   rcases hc with rfl | rfl
   ·exact jQ _ _
   ·exact ic _
  exact I2.fpOk hb (I2.hok.fresh hb)
end
theorem for_enumD {a:Addr} {o:Obj} {kvs:List (Key × V)} {g:TG} {tb:TS} {D:Ends} {σ:St} {H:Hp} (Pv:Nat->St->Hp->Prop) (h0:Pv 0 σ H) (hl:∀ i σ H,i<=kvs.length->Pv i σ H->H a=some (.frz o (.dK kvs)))
  (hs:∀ i kv t σ H,kvs[i]?=some kv->H t=none->Pv i σ H->g (.ref t) σ (upd H t (.tup [.int i,kV kv.1])) λ σ2 H2=>tb { D with nx:=Pv (i+1),ct:=Pv (i+1),bk:=D.nx } σ2 H2) (hd:∀ σ H,Pv kvs.length σ H->D.nx σ H) :
  ∃ W:Nat->Nat->St->Hp->Prop,(∃ m,W 0 m σ H)/\∀ i m σ H,W i m σ H->
   ((Itde a o kvs).stop i H/\D.nx σ H)∨((Itde a o kvs).go i H/\∃ N:St->Hp->Prop,(∀ σ' H',N σ' H'->∃ m',m'<m/\W (i+1) m' σ' H')/\∀ x H',(Itde a o kvs).yld i H x H'->g x σ H' λ σ2 H2=>tb { D with nx:=N,ct:=N,bk:=D.nx } σ2 H2):=by
 refine ⟨λ i m σ H=>m=kvs.length-i/\i<=kvs.length/\Pv i σ H,⟨kvs.length,by simp,im _,h0⟩,?_⟩
 rintro i m σ H ⟨rfl,hi,p⟩
 have q:=hl i σ H hi p
 by_cases hlt:i<kvs.length
 ·refine .inr ⟨⟨q,hlt⟩,Pv (i+1),λ σ' H' p'=>⟨kvs.length-(i+1),by omega,rfl,hlt,p'⟩,λ v H' y=>?_⟩
  obtain ⟨kv,t,hx,ht,ev,eh⟩:=y
  subst ev eh
  exact hs i kv t σ _ hx ht p
 ·have e:i=kvs.length:=by omega
  subst e
  exact .inl ⟨⟨q,ic _⟩,hd σ H p⟩
end L2
namespace L2
open PySem PySem.Spec PyProof.Rows
theorem nb {x y:Nat} (h:x<y∨y<x):@Ne Addr x y:=λ e=>by have e:x=y:=e;omega
section
variable {prog:Program} {w:World} {A:Around} {E:Value->Shared->Prop} {s:Shared}
theorem tp_item {it t:Addr} {i:Nat} {us:Array Value} {x:Value} {Q:Value->Shared->Prop} (ji:s.heap.IsTupleIter it t i) (jt:s.heap.IsTuple t us) (jx:us[i]?=some x)
  (jq:∀ h',h'.IsTupleIter it t (i+1)->Heap.SameBut it s.heap h'->Q x { s with heap:=h' }):wpAny (model prog w) A (Builtin.SmallTypes.nextOf (.ref it)) Q E s:=by
 obtain ⟨oi,gi,ci,di⟩:=id ji
 obtain ⟨ot,gt,_,nt,dt⟩:=jt
 have ty:=ji.typeIs
 unfold Builtin.SmallTypes.nextOf
 refine hU (jz (name:=Str.ofString "__next__") ty F.slot_tuple_iterator_next (jH F.slot_tuple_iterator_next ty F.entry_tuple_iterator_next ?_ (F.args_tuple_iterator_next_1 _)))
 refine hU (m:=field (.ref it) 0) (jA gi di (x:=.ref t) rfl ?_)
 show wpAny _ _ (ite ((Value.ref t == Value.none)=true) _ _) _ _ s
 rw [if_neg (λ z:(Value.ref t == Value.none)=true=>iC z)]
 refine hU (m:=field (.ref it) 1) (jA gi di (x:=.int i 0) rfl (hU (m:=seqItems? (.ref t)) (wpAny_seqItems gt dt ?_)))
 simp only [Int.toNat_natCast,jx]
 refine hU (wpAny_setField gi di (by simp) (ip ⟨x,rfl,ip (jq _ ⟨_,jM _ gi (Obj.isFreed_of_fields (jP di _)),(Obj.cls_mapFields ..).trans ci,?_⟩ (Heap.SameBut.update ..))⟩))
 rw [jP di]
 simp [rawInt]
theorem tp_end {it t:Addr} {i:Nat} {us:Array Value} {Q:Value->Shared->Prop} (hh:A.handled=none) (ji:s.heap.IsTupleIter it t i) (jt:s.heap.IsTuple t us) (jx:us[i]?=none)
  (je:∀ h' e,Heap.ExtBut it s.heap h'->(∃ o,h'.get? e=some o/\o.cls=.type "StopIteration")->E (.ref e) { s with heap:=h' }):wpAny (model prog w) A (Builtin.SmallTypes.nextOf (.ref it)) Q E s:=by
 obtain ⟨oi,gi,ci,di⟩:=id ji
 obtain ⟨ot,gt,_,nt,dt⟩:=jt
 have ty:=ji.typeIs
 unfold Builtin.SmallTypes.nextOf
 refine hU (jz (name:=Str.ofString "__next__") ty F.slot_tuple_iterator_next (jH F.slot_tuple_iterator_next ty F.entry_tuple_iterator_next ?_ (F.args_tuple_iterator_next_1 _)))
 refine hU (m:=field (.ref it) 0) (jA gi di (x:=.ref t) rfl ?_)
 show wpAny _ _ (ite ((Value.ref t == Value.none)=true) _ _) _ _ s
 rw [if_neg (λ z:(Value.ref t == Value.none)=true=>iC z)]
 refine hU (m:=field (.ref it) 1) (jA gi di (x:=.int i 0) rfl (hU (m:=seqItems? (.ref t)) (wpAny_seqItems gt dt ?_)))
 simp only [Int.toNat_natCast,jx]
 refine hU (wpAny_rule (hU (wpAny_setField gi di (by simp) (hU (m:=newExc (.type "StopIteration") []) ?_))))
 simp only [newExc,newTuple]
 refine hU (wpAny_newObj_type (hU (m:=firstArgMember _ _) (wpAny_of_eq (a:=Value.none) (by first | rfl | (simp only [firstArgMember];rfl)) (wpAny_newObj_type ?_ (by size_fits)))) (by size_fits))
 simp only [raiseNew]
 refine hU (wpAny_handled ?_)
 first | rw [show A.in1.handled=none from hh] | rw [hh]
 refine hU (ip (wpAny_throw ?_))
 exact je _ _ (((Heap.SameBut.update ..).extBut.push _).push _) ⟨_,iA _ rfl,rfl⟩
theorem IsTI.but {h h':Heap} {b it t:Addr} {i:Nat} (z:h.IsTupleIter it t i) (k:Heap.ExtBut b h h') (ne:it≠b):h'.IsTupleIter it t i:=by
 obtain ⟨o,e,r⟩:=z
 exact ⟨o,k _ _ ne e,r⟩
theorem IsT.but {h h':Heap} {b t:Addr} {us:Array Value} (z:h.IsTuple t us) (k:Heap.ExtBut b h h') (ne:t≠b):h'.IsTuple t us:=by
 obtain ⟨o,e,r⟩:=z
 exact ⟨o,k _ _ ne e,r⟩
theorem zt_item {n l1 l2 k:Nat} {xs ys:Array Value} {x y a b:Value} {Q:Value->Shared->Prop} (m1:l1<n) (m2:l2<n)
  (e0:IsZip s.heap (n+4) (n+2) (n+3) .none) (e1:IsPair s.heap (n+2) (.ref n) (.ref (n+1))) (e2:IsPair s.heap (n+3) a b)
  (i1:s.heap.IsTupleIter n l1 k) (i2:s.heap.IsTupleIter (n+1) l2 k) (L1:s.heap.IsTuple l1 xs) (L2:s.heap.IsTuple l2 ys) (hx:xs[k]?=some x) (hy:ys[k]?=some y)
  (hQ:∀ h',IsZip h' (n+4) (n+2) (n+3) (rawInt s.heap.objs.size)->IsPair h' (n+3) x y->h'.IsTupleIter n l1 (k+1)->h'.IsTupleIter (n+1) l2 (k+1)->IsPair h' s.heap.objs.size x y->
   (∀ c o,c≠n+4->c≠n+3->c≠n->c≠n+1->s.heap.get? c=some o->h'.get? c=some o)->Q (.ref s.heap.objs.size) { s with heap:=h' }) :
  wpAny (model prog w) A (Builtin.«zip.__next__» ⟨[.ref (n+4)],[]⟩) (λ fin s'=>∃ v,fin=.done (.ret v)/\Q v s') E s:=by
 show wpAny _ _ (field (.ref (n+4)) 2 >>= _) _ _ _
 refine hU (jA e0 rfl (x:=.bool false) rfl ?_)
 show wpAny _ _ (field (.ref (n+4)) 3 >>= _) _ _ _
 refine hU (jA e0 rfl (x:=.ref (n+2)) rfl (hU (wpAny_seqItems e1 rfl ?_)))
 show wpAny _ _ (Builtin.SmallTypes.ownedTupleIsFree (.ref (n+4)) >>= _) _ _ _
 refine hU ?_;unfold Builtin.SmallTypes.ownedTupleIsFree
 refine hU (jA e0 rfl (x:=.none) rfl (ip ?_))
 simp only [if_true]
 refine hU (wpAny_rule (hU (jA e0 rfl (x:=.ref (n+3)) rfl ?_)))
 refine hU (wpAny_setField_rec e0 (by simp) λ h₁ z₁ s₁=>hU ?_)
 replace z₁:IsZip h₁ (n+4) (n+2) (n+3) .ellipsis:=z₁
 simp only [List.zipIdx_cons,List.zipIdx_nil,List.forIn_cons,List.forIn_nil];skip
 refine hU (hU (wpAny_onRaise ?_))
 show wpAny _ _ (Builtin.SmallTypes.nextOf (.ref n) >>= _) _ _ _
 refine hU (tp_item (IsTI.but i1 s₁.extBut (nb (by omega))) (IsT.but L1 s₁.extBut (nb (by omega))) hx λ h₂ j1 s₂=>ip ?_)
 have t₂:IsPair h₂ (n+3) a b:=s₂.extBut _ _ (nb (by omega)) (s₁.extBut _ _ (nb (by omega)) e2)
 refine hU (wpAny_seqItems t₂ rfl (hU (wpAny_updateSeq_pair t₂ λ h₃ t₃ s₃=>hU (wpAny_letGo (ip ?_)))))
 replace t₃:IsPair h₃ (n+3) x b:=t₃
 refine hU (hU (wpAny_onRaise ?_))
 show wpAny _ _ (Builtin.SmallTypes.nextOf (.ref (n+1)) >>= _) _ _ _
 refine hU (tp_item (IsTI.but (IsTI.but (IsTI.but i2 s₁.extBut (nb (by omega))) s₂.extBut (nb (by omega))) s₃.extBut (nb (by omega))) (IsT.but (IsT.but (IsT.but L2 s₁.extBut (nb (by omega))) s₂.extBut (nb (by omega))) s₃.extBut (nb (by omega))) hy λ h₄ j2 s₄=>ip ?_)
 have t₄:IsPair h₄ (n+3) x b:=s₄.extBut _ _ (nb (by omega)) t₃
 refine hU (wpAny_seqItems t₄ rfl (hU (wpAny_updateSeq_pair t₄ λ h₅ t₅ s₅=>hU (wpAny_letGo (ip (ip ?_))))))
 replace t₅:IsPair h₅ (n+3) x y:=t₅
 refine hU (wpAny_seqItems t₅ rfl (hU (wpAny_newTuple ?_)))
 have sz:h₅.objs.size=s.heap.objs.size:=by rw [s₅.1,s₄.1,s₃.1,s₂.1,s₁.1]
 have z₅:IsZip h₅ (n+4) (n+2) (n+3) .ellipsis:=s₅.extBut _ _ (nb (by omega)) (s₄.extBut _ _ (nb (by omega)) (s₃.extBut _ _ (nb (by omega)) (s₂.extBut _ _ (nb (by omega)) z₁)))
 have kp:∀ c o,c≠n+4->c≠n+3->c≠n->c≠n+1->s.heap.get? c=some o->h₅.get? c=some o:=λ c o c1 c2 c3 c4 e=>
  s₅.extBut _ _ c2 (s₄.extBut _ _ c4 (s₃.extBut _ _ c2 (s₂.extBut _ _ c3 (s₁.extBut _ _ c1 e))))
 have g1:h₅.IsTupleIter n l1 (k+1):=IsTI.but (IsTI.but (IsTI.but j1 s₃.extBut (nb (by omega))) s₄.extBut (nb (by omega))) s₅.extBut (nb (by omega))
 have g2:h₅.IsTupleIter (n+1) l2 (k+1):=IsTI.but j2 s₅.extBut (nb (by omega))
 have lt:n+4<h₅.objs.size:=ik z₅
 show wpAny _ _ (Builtin.SmallTypes.ownedTupleHandOut (.ref (n+4)) (.ref h₅.objs.size) >>= _) _ _ _
 refine hU ?_;unfold Builtin.SmallTypes.ownedTupleHandOut
 have z₆:IsZip (h₅.push { cls:=.type "tuple",data:=.seq #[x,y] }) (n+4) (n+2) (n+3) .ellipsis:=ia _ z₅
 refine hU (wpAny_setField_rec z₆ (by simp) λ h₉ z₉ s₉=>?_)
 replace z₉:IsZip h₉ (n+4) (n+2) (n+3) (rawInt h₅.objs.size):=z₉
 refine wpAny_setField_rec z₉ (by simp) λ h₀ z₀ s₀=>?_
 replace z₀:IsZip h₀ (n+4) (n+2) (n+3) (rawInt h₅.objs.size):=z₀
 have up:∀ c o,c≠n+4->h₅.get? c=some o->h₀.get? c=some o:=λ c o c1 e=>s₀.extBut _ _ c1 (s₉.extBut _ _ c1 (ia _ e))
 have tt:IsPair h₀ h₅.objs.size x y:=s₀.extBut _ _ (jg lt) (s₉.extBut _ _ (jg lt) (iA _ rfl))
 rw [sz] at z₀ tt
 refine ip ⟨_,rfl,?_⟩
 show Q (.ref h₅.objs.size) _
 rw [sz]
 exact hQ h₀ z₀ (up _ _ (nb (by omega)) t₅) (let ⟨o,e,r⟩:=g1;⟨o,up _ o (nb (by omega)) e,r⟩) (let ⟨o,e,r⟩:=g2;⟨o,up _ o (nb (by omega)) e,r⟩) tt λ c o c1 c2 c3 c4 e=>up c o c1 (kp c o c1 c2 c3 c4 e)
theorem zt_end {n l1 l2 k:Nat} {xs ys:Array Value} {a b:Value} {Q:Fin->Shared->Prop} (hh:A.handled=none) (m1:l1<n) (m2:l2<n)
  (e0:IsZip s.heap (n+4) (n+2) (n+3) .none) (e1:IsPair s.heap (n+2) (.ref n) (.ref (n+1))) (e2:IsPair s.heap (n+3) a b)
  (i1:s.heap.IsTupleIter n l1 k) (i2:s.heap.IsTupleIter (n+1) l2 k) (L1:s.heap.IsTuple l1 xs) (L2:s.heap.IsTuple l2 ys) (hend:xs[k]?=none∨ys[k]?=none)
  (hE:∀ h' e,(∀ c o,c≠n+4->c≠n+3->c≠n->c≠n+1->s.heap.get? c=some o->h'.get? c=some o)->(∃ o,h'.get? e=some o/\o.cls=.type "StopIteration")->E (.ref e) { s with heap:=h' }) :
  wpAny (model prog w) A (Builtin.«zip.__next__» ⟨[.ref (n+4)],[]⟩) Q E s:=by
 show wpAny _ _ (field (.ref (n+4)) 2 >>= _) _ _ _
 refine hU (jA e0 rfl (x:=.bool false) rfl ?_)
 show wpAny _ _ (field (.ref (n+4)) 3 >>= _) _ _ _
 refine hU (jA e0 rfl (x:=.ref (n+2)) rfl (hU (wpAny_seqItems e1 rfl ?_)))
 show wpAny _ _ (Builtin.SmallTypes.ownedTupleIsFree (.ref (n+4)) >>= _) _ _ _
 refine hU ?_;unfold Builtin.SmallTypes.ownedTupleIsFree
 refine hU (jA e0 rfl (x:=.none) rfl (ip ?_))
 simp only [if_true]
 refine hU (wpAny_rule (hU (jA e0 rfl (x:=.ref (n+3)) rfl ?_)))
 refine hU (wpAny_setField_rec e0 (by simp) λ h₁ z₁ s₁=>hU ?_)
 replace z₁:IsZip h₁ (n+4) (n+2) (n+3) .ellipsis:=z₁
 simp only [List.zipIdx_cons,List.zipIdx_nil,List.forIn_cons,List.forIn_nil];skip
 refine hU (hU (wpAny_onRaise ?_))
 show wpAny _ _ (Builtin.SmallTypes.nextOf (.ref n) >>= _) _ _ _
 cases hx:xs[k]? with
 | none=>
  refine hU (tp_end hh (IsTI.but i1 s₁.extBut (nb (by omega))) (IsT.but L1 s₁.extBut (nb (by omega))) hx λ h₂ e s₂ ⟨oe,hoe,hce⟩=>?_)
  have z₂:IsZip h₂ (n+4) (n+2) (n+3) .ellipsis:=s₂ _ _ (nb (by omega)) z₁
  have ne:e≠n+4:=λ x=>by subst x;rw [z₂] at hoe;cases hoe;simp at hce
  exact wpAny_setField_rec z₂ (by simp) λ h₃ _ s₃=>hE h₃ e (λ c o c1 _ c3 _ x=>s₃.extBut _ _ c1 (s₂ _ _ c3 (s₁.extBut _ _ c1 x))) ⟨oe,s₃.extBut _ _ ne hoe,hce⟩
 | some x=>
  have hy:ys[k]?=none:=by rcases hend with h | h;rw [hx] at h;cases h;exact h
  refine hU (tp_item (IsTI.but i1 s₁.extBut (nb (by omega))) (IsT.but L1 s₁.extBut (nb (by omega))) hx λ h₂ j1 s₂=>ip ?_)
  have t₂:IsPair h₂ (n+3) a b:=s₂.extBut _ _ (nb (by omega)) (s₁.extBut _ _ (nb (by omega)) e2)
  refine hU (wpAny_seqItems t₂ rfl (hU (wpAny_updateSeq_pair t₂ λ h₃ t₃ s₃=>hU (wpAny_letGo (ip ?_)))))
  replace t₃:IsPair h₃ (n+3) x b:=t₃
  refine hU (hU (wpAny_onRaise ?_))
  show wpAny _ _ (Builtin.SmallTypes.nextOf (.ref (n+1)) >>= _) _ _ _
  refine hU (tp_end hh (IsTI.but (IsTI.but (IsTI.but i2 s₁.extBut (nb (by omega))) s₂.extBut (nb (by omega))) s₃.extBut (nb (by omega))) (IsT.but (IsT.but (IsT.but L2 s₁.extBut (nb (by omega))) s₂.extBut (nb (by omega))) s₃.extBut (nb (by omega))) hy λ h₄ e s₄ ⟨oe,hoe,hce⟩=>?_)
  have z₄:IsZip h₄ (n+4) (n+2) (n+3) .ellipsis:=s₄ _ _ (nb (by omega)) (s₃.extBut _ _ (nb (by omega)) (s₂.extBut _ _ (nb (by omega)) z₁))
  have ne:e≠n+4:=λ x=>by subst x;rw [z₄] at hoe;cases hoe;simp at hce
  exact wpAny_setField_rec z₄ (by simp) λ h₅ _ s₅=>hE h₅ e (λ c o c1 c2 c3 c4 x=>s₅.extBut _ _ c1 (s₄ _ _ c4 (s₃.extBut _ _ c2 (s₂.extBut _ _ c3 (s₁.extBut _ _ c1 x))))) ⟨oe,s₅.extBut _ _ ne hoe,hce⟩
end
noncomputable abbrev zth1 (h:Heap) (l1:Addr):Heap:=h.push { cls:=.type "tuple_iterator",data:=.fields #[.ref l1,.int 0 0] }
noncomputable abbrev zth2 (h:Heap) (l1 l2:Addr):Heap:=zth1 (zth1 h l1) l2
noncomputable abbrev zth3 (h:Heap) (l1 l2:Addr):Heap:=(zth2 h l1 l2).push { cls:=.type "tuple",data:=.seq #[.ref h.objs.size,.ref (zth1 h l1).objs.size] }
noncomputable abbrev zth4 (h:Heap) (l1 l2:Addr):Heap:=(zth3 h l1 l2).push { cls:=.type "tuple",data:=.seq #[.none,.none] }
noncomputable abbrev zth5 (h:Heap) (l1 l2:Addr):Heap:=(zth4 h l1 l2).push { cls:=.type "zip",data:=.fields #[.none,.bool false,.bool false,.ref (zth2 h l1 l2).objs.size,.ref (zth3 h l1 l2).objs.size] }
theorem zt_new (l1 l2:Addr) (xs ys:Array Value) :
  Meets (Builtin.«zip.__new__» ⟨[.type "zip",.ref l1,.ref l2],[]⟩) (λ _ R s=>s.heap.IsTuple l1 xs/\s.heap.IsTuple l2 ys/\
   R (.ok (.ret (.ref (zth4 s.heap l1 l2).objs.size))) { s with heap:=zth5 s.heap l1 l2 }):=
 .of_wp λ prog w A R s h=>by
  obtain ⟨hp,g,d,tk,os⟩:=s
  obtain ⟨m1,m2,h⟩:=h
  have hsub:=sub_zip
  have M1:Heap.IsTuple (Shared.heap ⟨hp,g,d,tk,os⟩) l1 xs:=m1
  have M2:Heap.IsTuple (Shared.heap ⟨zth1 hp l1,g,d,tk,os⟩) l2 ys:=let ⟨o,e,r⟩:=m2;⟨o,ia _ e,r⟩
  wp_walk using wpAny_pyIter_tuple M1,wpAny_pyIter_tuple M2
  exact ⟨_,rfl,h⟩
theorem zt_call {prog:Program} {w:World} {A:Around} {E:Value->Shared->Prop} {s:Shared} {l1 l2 n:Nat} {xs ys:Array Value} {Q:Value->Shared->Prop} (hn:n=s.heap.objs.size) (hl1:s.heap.IsTuple l1 xs) (hl2:s.heap.IsTuple l2 ys)
  (h:∀ h',IsZip h' (n+4) (n+2) (n+3) .none->IsPair h' (n+2) (.ref n) (.ref (n+1))->IsPair h' (n+3) .none .none->h'.IsTupleIter n l1 0->h'.IsTupleIter (n+1) l2 0->
   (∀ c o,s.heap.get? c=some o->h'.get? c=some o)->Q (.ref (n+4)) { s with heap:=h' }) :
  wpAny (model prog w) A (call (.type "zip") [.ref l1,.ref l2]) Q E s:=by
 refine callType_new F.called_zip (by decide) (F.typeCall_zip_2 _ _) (F.newCall_zip_2 _ _) (λ obj=>F.args_object_init_3 obj _ _) F.entry_zip_new (zt_new l1 l2 xs ys) ⟨hl1,hl2,?_⟩
 have q1:(zth1 s.heap l1).objs.size=n+1:=by rw [hn];exact Heap.size_push ..
 have q2:(zth2 s.heap l1 l2).objs.size=n+2:=by rw [Heap.size_push,q1]
 have q3:(zth3 s.heap l1 l2).objs.size=n+3:=by rw [Heap.size_push,q2]
 have q4:(zth4 s.heap l1 l2).objs.size=n+4:=by rw [Heap.size_push,q3]
 have pu:∀ {h:Heap} {o o':Obj} {c},h.get? c=some o->(h.push o').get? c=some o:=λ e=>ia _ e
 have g5:(zth5 s.heap l1 l2).get? (zth4 s.heap l1 l2).objs.size=some _:=iA _ rfl
 have g4:(zth5 s.heap l1 l2).get? (zth3 s.heap l1 l2).objs.size=some _:=pu (iA _ rfl)
 have g3:(zth5 s.heap l1 l2).get? (zth2 s.heap l1 l2).objs.size=some _:=pu (pu (iA _ rfl))
 have g2:(zth5 s.heap l1 l2).get? (zth1 s.heap l1).objs.size=some _:=pu (pu (pu (iA _ rfl)))
 have g1:(zth5 s.heap l1 l2).get? s.heap.objs.size=some _:=pu (pu (pu (pu (iA _ rfl))))
 show _/\_
 rw [q2,q3,q4] at g5
 rw [q3] at g4
 rw [q1,q2,<- hn] at g3
 rw [q1] at g2
 rw [<- hn] at g1
 rw [q4]
 exact ⟨⟨_,g5,rfl⟩,h _ g5 g3 g4 ⟨_,g1,rfl,rfl⟩ ⟨_,g2,rfl,rfl⟩ λ c o x=>pu (pu (pu (pu (pu x))))⟩
section
variable {X:Cx}
noncomputable def Itzt (K:W.Frag) (a b:Addr) (xs ys:List V):It:=
 ⟨λ i H=>SqT K H a xs/\SqT K H b ys/\i<xs.length/\i<ys.length,λ i H v H'=>∃ x y t,xs[i]?=some x/\ys[i]?=some y/\H t=none/\v=.ref t/\H'=upd H t (.tup [x,y]),λ i H=>SqT K H a xs/\SqT K H b ys/\(xs.length<=i∨ys.length<=i)⟩
theorem turn_zt {P:Program} {w:World} {K:W.Frag} {elts:List Expr} {x1} {tpos:Pos} {n a b:Nat} (m1:a<n) (m2:b<n) (xs ys:List V) :
  Turn P w K (.Tuple elts x1 tpos) (Itzt K a b xs ys) [n+4,n+2,n+3,n,n+1] (n+4) (λ i h=>∃ p q,IsZip h (n+4) (n+2) (n+3) .none/\IsPair h (n+2) (.ref n) (.ref (n+1))/\IsPair h (n+3) p q/\h.IsTupleIter n a i/\h.IsTupleIter (n+1) b i) where
 mem:=by simp
 obj:=λ i h st d hd=>by
  obtain ⟨p,q,h1,h2,h3,⟨o4,e4,_,d4⟩,⟨o5,e5,_,d5⟩⟩:=st
  simp only [iw,ib,i3] at hd
  rcases hd with rfl | rfl | rfl | rfl | rfl
  ·exact ⟨_,h1,λ v z=>by have z':Data.fields _=Data.cell v:=z;cases z'⟩
  ·exact ⟨_,h2,λ v z=>by have z':Data.seq _=Data.cell v:=z;cases z'⟩
  ·exact ⟨_,h3,λ v z=>by have z':Data.seq _=Data.cell v:=z;cases z'⟩
  ·exact ⟨_,e4,λ v z=>by rw [d4] at z;cases z⟩
  ·exact ⟨_,e5,λ v z=>by rw [d5] at z;cases z⟩
 keep:=λ i h h' st k=>by
  obtain ⟨p,q,h1,h2,h3,⟨o4,e4,r4⟩,⟨o5,e5,r5⟩⟩:=st
  exact ⟨p,q,k _ (by simp) _ h1,k _ (by simp) _ h2,k _ (by simp) _ h3,⟨o4,k _ (by simp) _ e4,r4⟩,⟨o5,k _ (by simp) _ e5,r5⟩⟩
 item:=by
  intro X hP hw hK hc i pins s σ H E I hf st hg
  subst hP hw hK
  obtain ⟨ha,hb,hx,hy⟩:=hg
  obtain ⟨p,q,h1,h2,h3,h4,h5⟩:=st
  obtain ⟨us,ru,pu,_⟩:=I.tuple ha
  obtain ⟨ws,rw',pw,_⟩:=I.tuple hb
  have ex:xs[i]?=some xs[i]:=ii hx
  have ey:ys[i]?=some ys[i]:=ii hy
  obtain ⟨u,eu,rux⟩:=eJ ru ex
  obtain ⟨v,ev,rvy⟩:=eJ rw' ey
  have hT:s.TypeIs (.ref (n+4)) "zip":=⟨_,h1,rfl⟩
  unfold pyNext
  refine hU (wpAny_attempt (jz (name:=Str.ofString "__next__") hT F.slot_zip_next (jH F.slot_zip_next hT F.entry_zip_next (zt_item m1 m2 h1 h2 h3 h4 h5 (show s.heap.IsTuple a us.toArray from pu) (show s.heap.IsTuple b ws.toArray from pw) (by simpa using eu) (by simpa using ev) λ h' a1 a2 a3 a4 a6 a7=>ip ?_) (F.args_zip_next_1 _))))
  refine ⟨_,rfl,?_⟩
  refine wpAny_letOwnedTupleGo_zip (s:={ s with heap:=h' }) a1 λ h2' z2 sb=>?_
  have nt:s.heap.objs.size≠n+4:=jg (ik h1)
  have I1:Inv X pins σ H { s with heap:=h2',toks:=s.toks }:=I.turnedL (its:=[n+4,n+2,n+3,n,n+1]) (t':=s.toks) (λ c o hc e=>by
   simp only [iw,ib,i3,not_or] at hc
   exact (sb.2 c hc.1).trans (a7 c o hc.1 hc.2.2.1 hc.2.2.2.1 hc.2.2.2.2 e)) hf
  have hn:H s.heap.objs.size=none:=I.hok.fresh (ic _)
  have ht2:h2'.get? s.heap.objs.size=some { cls:=.type "tuple",data:=.seq #[u,v] }:=(sb.2 _ nt).trans a6
  have hok:HOk X.prog X.w (upd H s.heap.objs.size (.tup [xs[i],ys[i]])) h2':=λ c o e=>by
   by_cases hb:c=s.heap.objs.size
   ·subst hb
    rw [ac] at e
    cases e
    exact ⟨by show 2<=sizeLine;decide,[u,v],.cons rux (.cons rvy .nil),_,ht2,rfl,_,rfl⟩
   ·rw [ai hb] at e
    exact (I1.hok c o e).stay (λ _ _ _ q=>q) (λ c q=>by rw [ai (av q hn)];exact q) λ c xs q=>by rw [ai (av q hn)];exact q
  have I2:=I1.trackI (t:=s.heap.objs.size) I.sz hn (jg I.lt) (λ x c e z=>by
   obtain ⟨v,q⟩:=I.cell x c e
   exact absurd q.lt (by rw [z];exact iP _)) (λ p hp z=>absurd (ik (I.pin p hp).1) (by rw [z];exact iP _)) hok
  have si:=λ {d l k} (z:h'.IsTupleIter d l k) (nz:d≠n+4)=>show h2'.IsTupleIter d l k by
   obtain ⟨o,e,r⟩:=z
   exact ⟨o,(sb.2 _ nz).trans e,r⟩
  refine ⟨.ref s.heap.objs.size,_,I2,rfl,⟨_,_,_,ex,ey,hn,rfl,rfl⟩,⟨u,v,z2,(sb.2 _ (nb (by omega))).trans (a7 _ _ (nb (by omega)) (nb (by omega)) (nb (by omega)) (nb (by omega)) h2),(sb.2 _ (nb (by omega))).trans a2,si a3 (nb (by omega)),si a4 (nb (by omega))⟩,λ c hc=>?_⟩
  have:c≠s.heap.objs.size:=by
   have lt:(n+4:Nat)<s.heap.objs.size:=ik h1
   simp only [iw,ib,i3] at hc
   rcases hc with rfl | rfl | rfl | rfl | rfl <;> exact nb (by omega)
  rw [ai this]
  exact (hf c hc).1
 done:=by
  intro X hP hw hK hc i pins s σ H E I hf st hg
  subst hP hw hK
  obtain ⟨ha,hb,hend⟩:=hg
  obtain ⟨p,q,h1,h2,h3,h4,h5⟩:=st
  obtain ⟨us,ru,pu,_⟩:=I.tuple ha
  obtain ⟨ws,rw',pw,_⟩:=I.tuple hb
  have lu:=ru.length
  have lw:=rw'.length
  have hT:s.TypeIs (.ref (n+4)) "zip":=⟨_,h1,rfl⟩
  unfold pyNext
  refine hU (wpAny_attempt (jz (name:=Str.ofString "__next__") hT F.slot_zip_next (jH F.slot_zip_next hT F.entry_zip_next (zt_end (I.ok.hd hc) m1 m2 h1 h2 h3 h4 h5 (show s.heap.IsTuple a us.toArray from pu) (show s.heap.IsTuple b ws.toArray from pw) (hend.imp (λ h=>by simp;omega) (λ h=>by simp;omega)) λ h' e hk ⟨o,ho,hc⟩=>?_) (F.args_zip_next_1 _))))
  exact hU (wpAny_isInstance (T:="StopIteration") (b:=true) ⟨o,ho,hc⟩ isSubtype_stop (ip ⟨rfl,I.turnedL (its:=[n+4,n+2,n+3,n,n+1]) (t':=s.toks) (λ c o hc e=>by
   simp only [iw,ib,i3,not_or] at hc
   exact hk c o hc.1 hc.2.2.1 hc.2.2.2.1 hc.2.2.2.2 e) hf⟩))
 self:=λ _ _ _ _ _ st h=>by
  obtain ⟨p,q,h1,_⟩:=st
  exact wpAny_pyIter_zip h1 h
noncomputable def iZipT (K:W.Frag) (ta:TA):TI:=λ σ H R=>ta σ H λ vs H1=>∃ a b xs ys,vs=[.ref a,.ref b]/\SqT K H1 a xs/\SqT K H1 b ys/\R (Itzt K a b xs ys) H1
theorem pi_zipT {elts:List Expr} {x1} {tpos:Pos} {a b:Expr} {ta:TA} {p pos:Pos} (hg:Gl X "zip") (hm:X.mg "zip"=none) (ha:PA X [a,b] ta) (hs:starEach [a,b] X.env=[(false,eval a X.env),(false,eval b X.env)]:=by rfl) (hs2:starEach [b] X.env=[(false,eval b X.env)]:=by rfl) :
  PI X (.Tuple elts x1 tpos) (.Call (.Name "zip" p) [a,b] [] pos) (iZipT X.K ta):=by
 intro pins s σ H R I h
 refine Call_ (fe I hg hm boot_zip (jh (thn (ha pos pins s σ H _ I h) λ us s1 ⟨vs,H1,I1,r1,q1⟩=>?_) (by rw [hs,hs2]) (by rw [hs2];rfl)))
 obtain ⟨l1,l2,xs,ys,e,h1,h2,q⟩:=q1
 subst e
 cases r1 with
 | cons r rr=>
  cases rr with
  | cons r' rr=>
   cases rr
   cases r
   cases r'
   obtain ⟨us,ru,pu,_⟩:=I1.tuple h1
   obtain ⟨ws,rw',pw,_⟩:=I1.tuple h2
   have t1:l1<s1.heap.objs.size:=by obtain ⟨o,e,_⟩:=pu;exact ik e
   have t2:l2<s1.heap.objs.size:=by obtain ⟨o,e,_⟩:=pw;exact ik e
   refine zt_call rfl (show s1.heap.IsTuple l1 us.toArray from pu) (show s1.heap.IsTuple l2 ws.toArray from pw) λ h' z1 z2 z3 z4 z5 z7=>?_
   have I2:Inv X pins σ H1 { s1 with heap:=h' }:=I1.kept (t':=s1.toks) z7
   refine wpAny_pyIter_zip z1 ⟨_,_,_,_,_,rfl,I2,turn_zt t1 t2 xs ys,⟨.none,.none,z1,z2,z3,z4,z5⟩,λ c hc=>?_,q⟩
   have hb:s1.heap.objs.size<=c:=by
    simp only [iw,ib,i3] at hc
    rcases hc with rfl | rfl | rfl | rfl | rfl <;> first | exact jQ _ _ | exact ic _
   exact I1.fpOk hb (I1.hok.fresh hb)
end
section
variable {l:Addr} {k:Nat} {g:TG} {tc:TT} {te:TE} {ρ:St} {R:Hp->Prop} {H₀:Hp}
theorem compG_zipT {K:W.Frag} {a b:Addr} {xs ys:List V} (Pv:Nat->Hp->Prop) (h0:Pv 0 (upd H₀ l (.lst []))) (hl:∀ i H,Pv i H->SqT K H a xs/\SqT K H b ys)
  (hs:∀ i x y t H,xs[i]?=some x->ys[i]?=some y->H t=none->Pv i H->∀ zs:St,zs.length=k->g (.ref t) (zs ++ ρ) (upd H t (.tup [x,y])) λ σ2 H2=>(∃ zs':St,zs'.length=k/\σ2=zs' ++ ρ)/\tc σ2 H2 λ b H3=>if b=true then te σ2 H3 λ y H4=>∃ ys',H4 l=some (.lst ys')/\ys'.length<sizeLine/\gm (min xs.length ys.length) Pv i (upd H4 l (.lst (ys'++[y]))) else gm (min xs.length ys.length) Pv i H3)
  (hd:∀ H,Pv (min xs.length ys.length) H->R H) :
  ∃ W:Nat->Nat->Hp->Prop,(∃ m,W 0 m (upd H₀ l (.lst [])))/\∀ i m H,W i m H->
   ((Itzt K a b xs ys).stop i H/\R H)∨((Itzt K a b xs ys).go i H/\∀ x H',(Itzt K a b xs ys).yld i H x H'->∀ zs:St,zs.length=k->g x (zs ++ ρ) H' λ σ2 H2=>(∃ zs':St,zs'.length=k/\σ2=zs' ++ ρ)/\tc σ2 H2 λ b H3=>if b=true then te σ2 H3 λ y H4=>∃ ys,H4 l=some (.lst ys)/\ys.length<sizeLine/\∃ m',m'<m/\W (i+1) m' (upd H4 l (.lst (ys++[y]))) else ∃ m',m'<m/\W (i+1) m' H3):=
 g9 (n:=min xs.length ys.length) Pv h0 (λ i H hi p=>⟨(hl i H p).1,(hl i H p).2,by omega,by omega⟩) (λ H p=>⟨(hl _ H p).1,(hl _ H p).2,by omega⟩) (λ i x H H' hi y p=>by
  obtain ⟨x',y',t,hx,hy,ht,ev,eh⟩:=y
  subst ev eh
  exact hs i x' y' t _ hx hy ht p) hd
end
end L2
namespace L2
open PySem PySem.Spec PyProof.Rows
section
variable {X:Cx}
end
end L2
namespace G
noncomputable def gcd (a b:Int):Int:=(Int.gcd a b:Int)
theorem gcd_nonneg (a b:Int):0<=gcd a b:=Int.natCast_nonneg _
theorem gcd_zero (a:Int) (h:0<=a):gcd a 0=a:=by
 unfold gcd;rw [Int.gcd_zero_right];omega
theorem gcd_abs (a b:Int):gcd (if a<0 then -a else a) (if b<0 then -b else b)=gcd a b:=by
 unfold gcd;congr 1
 split <;> split <;> simp [Int.neg_gcd,Int.gcd_neg]
theorem gcd_step (a b:Int) (hb:0<b):gcd b (a % b)=gcd a b:=by
 unfold gcd;congr 1
 rw [Int.gcd_comm b]
 have e:a=a % b+(a / b)*b:=by have:=Int.emod_add_mul_ediv a b;rw [ju] at this;omega
 have h:=Int.gcd_add_mul_right_left b (a % b) (a / b)
 rw [<- e] at h
 exact h.symm
theorem fB (a b:Nat):(a:Int).fdiv (b:Int)=((a / b:Nat):Int):=by
 rw [Int.fdiv_eq_ediv_of_nonneg _ (Int.natCast_nonneg _)];rfl
theorem e7 (x:Rat):(0:Int)<(x.den:Int):=by have:=x.den_nz;omega
theorem gcd_den (x:Rat):gcd x.num x.den=1:=by
 have h:=x.reduced
 have e:Int.gcd x.num x.den=1:=h
 unfold gcd;rw [e];rfl
theorem init_spec (a b:Int) (hb:b≠0):a.fdiv (if b<0 then -(gcd a b) else gcd a b)=(Rat.divInt a b).num/\b.fdiv (if b<0 then -(gcd a b) else gcd a b)=((Rat.divInt a b).den:Int):=by
 have gp:0<Int.gcd a b:=Int.gcd_pos_of_ne_zero_right a hb
 obtain ⟨k,hk⟩:=jR a b
 obtain ⟨m,hm⟩:=Int.gcd_dvd_right a b
 have gz:(Int.gcd a b:Int)≠0:=by omega
 rw [Rat.num_divInt,Rat.den_divInt,if_neg hb,Int.gcd_comm b a]
 unfold gcd
 generalize hgg:Int.gcd a b=g at *
 have e1:∀ z:Int,(g*z).fdiv g=z:=λ z=>by rw [ju,Int.mul_fdiv_cancel _ gz]
 have e2:∀ z:Int,(g*z).fdiv (-(g:Int)) = -z:=λ z=>by
  have:(g:Int)*z=(-z)*(-(g:Int)):=by rw [Int.neg_mul_neg,ju]
  rw [this,Int.mul_fdiv_cancel _ (by omega)]
 by_cases hs:b<0
 ·rw [if_pos hs,Int.sign_eq_neg_one_of_neg hs]
  constructor
  ·conv=>lhs;rw [hk,e2]
   have:-1*a = -k*g:=by rw [hk,ju (g:Int) k,Int.neg_mul,Int.neg_mul,Int.one_mul]
   rw [this,Int.mul_ediv_cancel _ gz]
  ·conv=>lhs;rw [hm,e2]
   have mneg:m<0:=by
    rcases Int.lt_trichotomy m 0 with h | h | h
    ·exact h
    ·rw [h] at hm;omega
    ·have:=Int.mul_pos (show (0:Int)<g by omega) h;omega
   have:b.natAbs=m.natAbs*g:=by rw [hm,jo,Int.natAbs_natCast,Nat.mul_comm]
   rw [this,Nat.mul_div_cancel _ gp];omega
 ·rw [if_neg hs,Int.sign_eq_one_of_pos (by omega)]
  constructor
  ·conv=>lhs;rw [hk,e1]
   have:1*a=k*g:=by rw [hk,ju (g:Int) k,Int.one_mul]
   rw [this,Int.mul_ediv_cancel _ gz]
  ·conv=>lhs;rw [hm,e1]
   have mpos:0<m:=by
    rcases Int.lt_trichotomy m 0 with h | h | h
    ·have:=Int.mul_neg_of_pos_of_neg (show (0:Int)<g by omega) h;omega
    ·rw [h] at hm;omega
    ·exact h
   have:b.natAbs=m.natAbs*g:=by rw [hm,jo,Int.natAbs_natCast,Nat.mul_comm]
   rw [this,Nat.mul_div_cancel _ gp];omega
theorem gM {a:Int} {g:Nat} (h:(g:Int)∣a):a.fdiv (g:Int)=a.tdiv g:=by
 rw [Int.fdiv_eq_ediv_of_nonneg _ (Int.natCast_nonneg _),Int.tdiv_eq_ediv_of_dvd h]
theorem add_spec (x y:Rat) :
  let g:=gcd x.den y.den
  let own:=(x.den:Int).fdiv g
  let top:=x.num*((y.den:Int).fdiv g)+y.num*own
  let left:=gcd top g
  top.fdiv left=(x+y).num/\own*((y.den:Int).fdiv left)=((x+y).den:Int):=by
 have hx:=x.den_nz
 have hy:=y.den_nz
 have eg:gcd x.den y.den=((x.den.gcd y.den:Nat):Int):=by unfold gcd;rw [Int.gcd_natCast_natCast]
 have gpos:0<x.den.gcd y.den:=Nat.gcd_pos_of_pos_left _ (by omega)
 intro g own top left
 have hown:own=((x.den / x.den.gcd y.den:Nat):Int):=by show (x.den:Int).fdiv (gcd x.den y.den)=_;rw [eg,fB]
 have htop:top=x.num*((y.den / x.den.gcd y.den:Nat):Int)+y.num*((x.den / x.den.gcd y.den:Nat):Int):=by
  show x.num*((y.den:Int).fdiv (gcd x.den y.den))+y.num*own=_
  rw [hown,eg,fB]
 have hleft:left=((top.natAbs.gcd (x.den.gcd y.den):Nat):Int):=by
  show ((Int.gcd top (gcd x.den y.den):Nat):Int)=_
  rw [eg];rfl
 have e1:x+y=Rat.add x y:=rfl
 rw [e1];delta Rat.add;dsimp only
 rw [hleft,hown]
 split
 ·rename_i h1
  rw [htop]
  simp only [h1,Nat.div_one,Nat.gcd_one_right,fB]
  simp
 ·rename_i h1
  rw [Rat.maybeNormalize_eq]
  dsimp only
  simp only [Int.divExact_eq_tdiv]
  rw [<- htop]
  have d1:((top.natAbs.gcd (x.den.gcd y.den):Nat):Int)∣top:=Int.ofNat_dvd_left.2 (Nat.gcd_dvd_left _ _)
  have d2:(top.natAbs.gcd (x.den.gcd y.den):Nat)∣y.den:=Nat.dvd_trans (Nat.gcd_dvd_right _ _) (Nat.gcd_dvd_right _ _)
  refine ⟨?_,?_⟩
  ·rw [gM d1]
  ·rw [fB,<- Int.natCast_mul,Nat.mul_div_assoc _ d2]
theorem mul_spec (x y:Rat) :
  let first:=gcd x.num y.den
  let second:=gcd y.num x.den
  x.num.fdiv first*y.num.fdiv second=(x*y).num/\(x.den:Int).fdiv second*(y.den:Int).fdiv first=((x*y).den:Int):=by
 intro first second
 have e1:x*y=Rat.mul x y:=rfl
 rw [e1];delta Rat.mul;dsimp only
 have h1:first=((x.num.natAbs.gcd y.den:Nat):Int):=rfl
 have h2:second=((y.num.natAbs.gcd x.den:Nat):Int):=rfl
 rw [h1,h2]
 simp only [Int.divExact_eq_tdiv,Nat.divExact_eq_div]
 rw [gM (Int.ofNat_dvd_left.2 (Nat.gcd_dvd_left _ _)),gM (Int.ofNat_dvd_left.2 (Nat.gcd_dvd_left _ _)),fB,fB]
 exact ⟨rfl,by rw [Int.natCast_mul]⟩
end G
namespace G
noncomputable def Bd (n:Nat) (x:Rat):Prop:=x.num.natAbs<=2 ^ n/\x.den<=2 ^ n
theorem pow_le {m n:Nat} (h:m<=n):2 ^ m<=2 ^ n:=jB (by decide) h
theorem Bd.mono {m n:Nat} {x:Rat} (b:Bd m x) (h:m<=n):Bd n x:=⟨ie b.1 (pow_le h),ie b.2 (pow_le h)⟩
theorem gf (a:Int) (d:Nat):(a / (d:Int)).natAbs<=a.natAbs:=by
 rcases Nat.eq_zero_or_pos d with h | h
 ·subst h;simp
 ·have hd:(0:Int)<d:=by omega
  rcases Int.le_total 0 a with ha | ha
  ·have h1:=Int.ediv_nonneg ha (Int.le_of_lt hd)
   have h2:=Int.ediv_le_self (d:Int) ha
   omega
  ·have h1:a / (d:Int)<=0:=Int.ediv_nonpos_of_nonpos_of_neg ha hd
   have h2:a<=a / (d:Int):=by
    rw [Int.le_ediv_iff_mul_le hd]
    have h3:0<=(-a)*((d:Int)-1):=Int.mul_nonneg (by omega) (by omega)
    rw [Int.neg_mul,Int.mul_sub,Int.mul_one] at h3
    omega
   omega
theorem Bd.divInt {n:Nat} {a b:Int} (ha:a.natAbs<=2 ^ n) (hb:b.natAbs<=2 ^ n):Bd n (Rat.divInt a b):=by
 constructor
 ·rw [Rat.num_divInt]
  refine ie (gf _ _) ?_
  rw [jo]
  have:b.sign.natAbs<=1:=by
   rcases Int.lt_trichotomy b 0 with h | h | h
   ·rw [Int.sign_eq_neg_one_of_neg h];decide
   ·rw [h];decide
   ·rw [Int.sign_eq_one_of_pos h];decide
  calc b.sign.natAbs*a.natAbs<=1*a.natAbs:=Nat.mul_le_mul_right _ this
   _<=2 ^ n:=by omega
 ·rw [Rat.den_divInt]
  split
  ·exact Nat.one_le_two_pow
  ·exact ie (Nat.div_le_self _ _) hb
theorem eM {a b m n:Nat} (ha:a<=2 ^ m) (hb:b<=2 ^ n):a*b<=2 ^ (m+n):=by
 rw [Nat.pow_add];exact i4 ha hb
theorem Bd.mul {m n:Nat} {x y:Rat} (hx:Bd m x) (hy:Bd n y):Bd (m+n) (x*y):=by
 constructor
 ·rw [Rat.num_mul]
  refine ie (gf _ _) ?_
  rw [jo]
  exact eM hx.1 hy.1
 ·rw [Rat.den_mul]
  exact ie (Nat.div_le_self _ _) (eM hx.2 hy.2)
end G
namespace G
theorem divInt_nn (n:Int) {d:Int} (h:0<d):0<=Rat.divInt n d↔0<=n:=Rat.divInt_nonneg_iff_of_pos_right h
theorem lt_div {a b c d:Int} (hb:0<b) (hd:0<d):Rat.divInt a b<Rat.divInt c d↔a*d<c*b:=by
 rw [<- Rat.not_le,Rat.le_iff_sub_nonneg,Rat.divInt_sub_divInt _ _ (by omega) (by omega),divInt_nn _ (Int.mul_pos hb hd)]
 omega
end G
namespace G
open PySem
theorem str_ext {x y:Str} (h:x.cps.toList=y.cps.toList):x=y:=by
 cases x;cases y
 exact i7 Str.mk (Array.toList_inj.mp h)
theorem cps_app (x y:Str):(x++y).cps.toList=x.cps.toList++y.cps.toList:=by
 show (x.cps++y.cps).toList=_
 exact Array.toList_append
theorem app_left {x y z:Str} (h:x++y=x++z):y=z:=by
 have:=i7 (λ u:Str=>u.cps.toList) h
 simp only [cps_app] at this
 exact str_ext (List.append_cancel_left this)
theorem app_right {x y z:Str} (h:x++y=z++y):x=z:=by
 have:=i7 (λ u:Str=>u.cps.toList) h
 simp only [cps_app] at this
 exact str_ext (List.append_cancel_right this)
theorem text_next {n:Nat} (h:Str.ofString (toString (n:Int))=Str.ofString (toString ((n:Int)+1))):False:=by
 rw [Str.ofString_eq_toList,Str.ofString_eq_toList] at h
 have h1:=i7 (λ u:Str=>u.cps.toList) h
 have h2:(toString (n:Int)).toList=(toString ((n:Int)+1)).toList:=List.map_inj_right (λ a b e=>Char.toNat_inj.mp e) |>.mp h1
 have h3:∀ m:Nat,(toString (m:Int)).toList=Nat.toDigits 10 m:=λ m=>Nat.toList_repr
 rw [h3 n,show ((n:Int)+1)=((n+1:Nat):Int) from rfl,h3 (n+1)] at h2
 have h4:=i7 (λ l=>Nat.ofDigitChars 10 l 0) h2
 simp only [Nat.ofDigitChars_ten_toDigits] at h4
 omega
theorem rep_cps (c n:Nat):((List.replicate n #[c]).foldl (· ++ ·) (#[]:Array Nat)).toList=List.replicate n c:=by
 have:∀ (n:Nat) (a:Array Nat),((List.replicate n #[c]).foldl (· ++ ·) a).toList=a.toList++List.replicate n c:=by
  intro n
  induction n with
  | zero=>intro a;simp
  | succ n ih=>
   intro a
   rw [List.replicate_succ,List.foldl_cons,ih]
   simp [List.replicate_succ]
 simpa using this n #[]
theorem mul_cps (c:Nat) (n:Int):(Txt.mul ⟨#[c]⟩ n).cps.toList=List.replicate n.toNat c:=by
 unfold Txt.mul
 by_cases h1:n<1
 ·rw [if_pos h1,show n.toNat=0 by omega]
  rfl
 ·rw [if_neg h1]
  by_cases h2:n=1
  ·subst h2
   rfl
  ·rw [if_neg (by simp [h2,Str.length])]
   exact rep_cps c n.toNat
theorem len_cps (x:Str):x.length=x.cps.toList.length:=by show x.cps.size=_;rw [Array.length_toList]
noncomputable def sgs:Str:="abcdefghijklmnopqrstuvwxyz0123456789."
noncomputable def sgAt (i:Int):Nat:=sgs.cps.toList.getD i.toNat 0
theorem sgs_list:sgs.cps.toList=[97,98,99,100,101,102,103,104,105,106,107,108,109,110,111,112,113,114,115,116,117,118,119,120,121,122,48,49,50,51,52,53,54,55,56,57,46]:=by decide +kernel
theorem sgAt_some {i:Int} (h0:0<=i) (h1:i<37):L2.atI sgs.cps.toList i=some (sgAt i):=by
 obtain ⟨n,rfl⟩:=iT h0
 have hn:n<37:=by omega
 refine L2.atI_nat ?_
 unfold sgAt
 rw [sgs_list,iR,Int.toNat_natCast]
 rw [ii (by simpa using hn)]
 rfl
theorem sgAt_inj:∀ i<37,∀ j<37,sgs.cps.toList.getD i 0=sgs.cps.toList.getD j 0->i=j:=by
 rw [sgs_list]
 decide +kernel
end G
namespace G
noncomputable def Cop (a b:Int):Prop:=∀ d:Int,d∣a->d∣b->d∣1
theorem Cop.one {a b:Int} (h:gcd a b=1):Cop a b:=λ d h1 h2=>by
 have:=Int.dvd_coe_gcd h1 h2
 rw [show ((Int.gcd a b:Nat):Int)=1 from h] at this
 exact this
theorem Cop.gcd {a b:Int} (h:Cop a b):Int.gcd a b=1:=by
 have h1:=Int.eq_one_of_dvd_one (Int.natCast_nonneg _) (h _ (jR a b) (Int.gcd_dvd_right a b))
 omega
theorem Cop.gauss {d m n:Int} (h:Cop d m) (hd:d∣m*n):d∣n:=by
 have e:=h.gcd
 rw [<- Int.natAbs_dvd_natAbs] at hd ⊢
 rw [jo] at hd
 exact Nat.Coprime.dvd_of_dvd_mul_left e hd
theorem Cop.quot {B b c u v:Int} (hc:c=G.gcd B b) (c0:c≠0) (hB:B=c*u) (hb:b=c*v):Cop u v:=λ d h1 h2=>by
 have k:c*d∣c:=by
  have:=Int.dvd_coe_gcd (a:=B) (b:=b) (c:=c*d) (by rw [hB];exact Int.mul_dvd_mul_left c h1) (by rw [hb];exact Int.mul_dvd_mul_left c h2)
  rw [show ((Int.gcd B b:Nat):Int)=c from hc.symm] at this
  exact this
 obtain ⟨z,hz⟩:=k
 refine ⟨z,?_⟩
 have:c*(d*z)=c*1:=by rw [<- Int.mul_assoc,<- hz,Int.mul_one]
 exact (Int.eq_of_mul_eq_mul_left c0 this).symm
theorem den_ne' (x:Rat):(x.den:Int)≠0:=by have:=x.den_nz;omega
structure TInv (x:Rat) (T B s:Int):Prop where
 pB:0<B
 ps:0<s
 r:∃ r,B=s*r/\Cop T r
 v:Rat.divInt T B=x
theorem TInv.zero:TInv 0 0 1 1:=⟨by decide,by decide,⟨1,by decide,λ d _ h=>h⟩,by rw [Rat.zero_divInt]⟩
theorem fdiv_mul {c k:Int} (h:c≠0):(c*k).fdiv c=k:=by rw [ju,Int.mul_fdiv_cancel _ h]
theorem TInv.step {x y:Rat} {T B s:Int} (I:TInv x T B s) :
  TInv (x+y) (T*(y.den:Int).fdiv (gcd B y.den)+y.num*B.fdiv (gcd B y.den)) (B*(y.den:Int).fdiv (gcd B y.den)) (s*(gcd B y.den).fdiv (gcd s (gcd B y.den))):=by
 obtain ⟨pB,ps,⟨r,hr,cr⟩,hv⟩:=I
 have yp:=e7 y
 have cp:0<gcd B y.den:=by
  have:=Int.gcd_pos_of_ne_zero_left (y.den:Int) (show B≠0 by omega)
  unfold gcd;omega
 generalize hc':gcd B y.den=c at cp ⊢
 have hc:=hc'.symm
 have dB:c∣B:=by rw [hc];exact jR _ _
 have db:c∣(y.den:Int):=by rw [hc];exact Int.gcd_dvd_right _ _
 obtain ⟨u,hu⟩:=dB
 obtain ⟨v,hv'⟩:=db
 have c0:c≠0:=by omega
 have cuv:Cop u v:=Cop.quot hc c0 hu hv'
 have ey:(y.den:Int).fdiv c=v:=by rw [hv',fdiv_mul c0]
 have eB:B.fdiv c=u:=by rw [hu,fdiv_mul c0]
 have up:0<u:=Int.pos_of_mul_pos_left (by rw [ju,<- hu];exact pB) cp
 have vp:0<v:=Int.pos_of_mul_pos_left (by rw [ju,<- hv'];exact yp) cp
 rw [ey,eB]
 have gp:0<gcd s c:=by
  have:=Int.gcd_pos_of_ne_zero_left c (show s≠0 by omega)
  unfold gcd;omega
 generalize hg':gcd s c=g at gp ⊢
 have hg:=hg'.symm
 have d1:g∣s:=by rw [hg];exact jR _ _
 have d2:g∣c:=by rw [hg];exact Int.gcd_dvd_right _ _
 obtain ⟨s1,hs1⟩:=d1
 obtain ⟨c1,hc1⟩:=d2
 have g0:g≠0:=by omega
 have cs:Cop s1 c1:=Cop.quot hg g0 hs1 hc1
 have ec:c.fdiv g=c1:=by rw [hc1,fdiv_mul g0]
 rw [ec]
 have c1p:0<c1:=Int.pos_of_mul_pos_left (by rw [ju,<- hc1];exact cp) gp
 have s1p:0<s1:=Int.pos_of_mul_pos_left (by rw [ju,<- hs1];exact ps) gp
 have e1:c1*u=s1*r:=by
  apply Int.eq_of_mul_eq_mul_left g0
  rw [<- Int.mul_assoc,<- Int.mul_assoc,<- hc1,<- hs1,<- hu,hr]
 have k1:c1∣r:=Cop.gauss (d:=c1) (m:=s1) (λ d a b=>cs d b a) ⟨u,e1.symm⟩
 obtain ⟨r1,hr1⟩:=k1
 have e2:u=s1*r1:=by
  apply Int.eq_of_mul_eq_mul_left (show c1≠0 by omega)
  rw [e1,hr1,<- Int.mul_assoc,<- Int.mul_assoc,ju s1 c1]
 refine ⟨Int.mul_pos pB vp,Int.mul_pos ps c1p,⟨r1*v,?_,?_⟩,?_⟩
 ·rw [hr,hr1]
  simp only [Int.mul_assoc]
 ·intro d h1 h2
  have cdv:Cop d v:=λ e he hev=>by
   have z1:e∣y.num*u:=by
    have:=Int.dvd_sub (Int.dvd_trans he h1) (Int.dvd_trans hev (Int.dvd_mul_left T v))
    rw [Int.add_comm,Int.add_sub_cancel] at this
    exact this
   rw [ju] at z1
   have z2:e∣y.num:=Cop.gauss (λ f h3 h4=>cuv f h4 (Int.dvd_trans h3 hev)) z1
   exact Cop.one (gcd_den y) e z2 (by rw [hv'];exact Int.dvd_trans hev (Int.dvd_mul_left c v))
  have z3:d∣r1:=Cop.gauss cdv (by rw [ju];exact h2)
  have z4:d∣u:=by rw [e2];exact Int.dvd_trans z3 (Int.dvd_mul_left s1 r1)
  have z5:d∣v*T:=by
   have:=Int.dvd_sub h1 (Int.dvd_trans z4 (Int.dvd_mul_left y.num u))
   rw [Int.add_sub_cancel,ju] at this
   exact this
  exact cr d (Cop.gauss cdv z5) (by rw [hr1];exact Int.dvd_trans z3 (Int.dvd_mul_left c1 r1))
 ·rw [<- hv]
  conv=>rhs;rw [<- Rat.num_divInt_den y]
  rw [Rat.divInt_add_divInt _ _ (show B≠0 by omega) (den_ne' y),Rat.divInt_eq_divInt_iff (show B*v≠0 by have:=Int.mul_pos pB vp;omega) (Int.mul_ne_zero (by omega) (den_ne' y)),hv',hu]
  grind
theorem TInv.fin {x:Rat} {T B s:Int} (I:TInv x T B s):T.fdiv (gcd T s)=x.num/\B.fdiv (gcd T s)=(x.den:Int):=by
 obtain ⟨pB,ps,⟨r,hr,cr⟩,hv⟩:=I
 have e:gcd T s=gcd T B:=by
  refine Int.dvd_antisymm (gcd_nonneg _ _) (gcd_nonneg _ _) (Int.dvd_coe_gcd (jR _ _) (Int.dvd_trans (Int.gcd_dvd_right _ _) ⟨r,hr⟩)) (Int.dvd_coe_gcd (jR _ _) ?_)
  refine Cop.gauss (m:=r) (λ d h1 h2=>cr d (Int.dvd_trans h1 (jR _ _)) h2) ?_
  rw [ju,<- hr]
  exact Int.gcd_dvd_right _ _
 obtain ⟨i1,i2⟩:=init_spec T B (by omega)
 rw [if_neg (by omega),hv] at i1 i2
 rw [e]
 exact ⟨i1,i2⟩
end G
namespace G
open PySem L2
theorem sum_snoc (xs:List Rat) (a:Rat):(xs++[a]).sum=xs.sum+a:=by
 induction xs with
 | nil=>simp;grind
 | cons x xs ih=>rw [List.cons_append,List.sum_cons,List.sum_cons,ih];grind
noncomputable def fW (ks:List Str) (n:Str):List Str:=if n∈ks then ks else ks++[n]
noncomputable def keysOf (ns:List Str):List Str:=ns.foldl fW []
theorem mem_addK {ks:List Str} {n m:Str}:m∈fW ks n↔m∈ks∨m=n:=by
 unfold fW
 split
 ·exact ⟨.inl,λ h=>h.elim id λ e=>by rw [e];assumption⟩
 ·simp
theorem gJ {ks:List Str} {n:Str} (h:ks.Nodup):(fW ks n).Nodup:=by
 unfold fW
 split
 ·exact h
 ·rename_i hn
  exact jb.mpr ⟨h,by simp,λ x hx y hy e=>hn (by rw [i5.mp hy] at e;rw [<- e];exact hx)⟩
noncomputable def upf {α:Type} (f:Str->α) (n:Str) (y:α):Str->α:=λ m=>if m=n then y else f m
theorem fY {α:Type} {f:Str->α} {n:Str} {y:α}:upf f n y n=y:=if_pos rfl
theorem upf_ne {α:Type} {f:Str->α} {n m:Str} {y:α} (h:m≠n):upf f n y m=f m:=if_neg h
structure Tab {α:Type} (R:Hp->V->α->Prop) (H:Hp) (kvs:List (Key × V)) (ks:List Str) (f:Str->α):Prop where
 keys:kvs.map (·.1)=ks.map (λ n=>(Sum.inr n:Key))
 vals:∀ n∈ks,∃ v,bY kvs (Sum.inr n:Key)=some v/\R H v (f n)
section
variable {α:Type} {R:Hp->V->α->Prop} {H H':Hp} {kvs:List (Key × V)} {ks:List Str} {f:Str->α} {n:Str} {v:V} {y:α}
theorem Tab.mono (t:Tab R H kvs ks f) (h:∀ v x,R H v x->R H' v x):Tab R H' kvs ks f:=⟨t.keys,λ n hn=>let ⟨v,e,r⟩:=t.vals n hn;⟨v,e,h _ _ r⟩⟩
theorem Tab.congr {g:Str->α} (t:Tab R H kvs ks f) (h:∀ n∈ks,f n=g n):Tab R H kvs ks g:=⟨t.keys,λ n hn=>let ⟨v,e,r⟩:=t.vals n hn;⟨v,e,by rw [<- h n hn];exact r⟩⟩
theorem Tab.nil:Tab R H [] [] f:=⟨rfl,λ n h=>absurd h ib⟩
theorem inr_in {n:Str} {ks:List Str}:(Sum.inr n:Key)∈ks.map (λ n=>(Sum.inr n:Key))↔n∈ks:=by
 constructor
 ·intro h
  obtain ⟨y,hy,e⟩:=iy.mp h
  rw [<- Sum.inr.inj e]
  exact hy
 ·exact λ h=>iy.mpr ⟨n,h,rfl⟩
theorem Tab.none (t:Tab R H kvs ks f) (h:¬ n∈ks):bY kvs (Sum.inr n:Key)=none:=by
 cases e:bY kvs (Sum.inr n:Key) with
 | none=>rfl
 | some v=>
  have:=valV_in e
  rw [t.keys] at this
  exact absurd (inr_in.mp this) h
theorem Tab.len (t:Tab R H kvs ks f):kvs.length=ks.length:=by have:=i7 List.length t.keys;rwa [hZ,hZ] at this
theorem Tab.put (t:Tab R H kvs ks f) (r:R H v y):Tab R H (bo kvs (Sum.inr n:Key) v) (fW ks n) (upf f n y):=by
 refine ⟨?_,λ m hm=>?_⟩
 ·by_cases hn:n∈ks
  ·obtain ⟨u,e,_⟩:=t.vals n hn
   unfold bo fW
   rw [dX,e,if_pos (show (some u).isSome=true from rfl),if_pos hn,<- t.keys,iQ]
   refine List.map_congr_left λ kv _=>?_
   show (if kv.1=_ then _ else _:Key × V).1=kv.1
   split <;> rfl
  ·rw [putK_new _ (t.none hn)]
   unfold fW
   rw [if_neg hn,iu,iu,t.keys]
   rfl
 ·rw [valV_put]
  by_cases e:m=n
  ·subst e
   rw [if_pos rfl,fY]
   exact ⟨v,rfl,r⟩
  ·rw [if_neg λ z=>e (Sum.inr.inj z),upf_ne e]
   exact t.vals m ((mem_addK.mp hm).resolve_right e)
theorem val_idx {κ:Type} [DecidableEq κ]:∀ {kvs:List (κ × V)} {i:Nat} {kv:κ × V},(kvs.map (·.1)).Nodup->kvs[i]?=some kv->bY kvs kv.1=some kv.2
 | [],_,_,_,e=>by simp at e
 | p::r,0,kv,_,e=>by
  simp at e
  subst e
  exact b6 rfl
 | p::r,i+1,kv,nd,e=>by
  have e:r[i]?=some kv:=by simpa using e
  obtain ⟨h1,h2⟩:=List.nodup_cons.mp (show (p.1::r.map (·.1)).Nodup from nd)
  rw [b7 λ z=>h1 (by rw [z];exact iy.mpr ⟨kv,ig e,rfl⟩)]
  exact val_idx h2 e
theorem Tab.at_ {i:Nat} {kv:Key × V} (t:Tab R H kvs ks f) (nd:ks.Nodup) (e:kvs[i]?=some kv):∃ n,ks[i]?=some n/\kv.1=Sum.inr n/\bY kvs (Sum.inr n:Key)=some kv.2/\R H kv.2 (f n):=by
 have hi:i<ks.length:=by rw [<- t.len];exact (hV.mp e).1
 have e1:kv.1=Sum.inr ks[i]:=by
  have g:=i7 (λ l=>l[i]?) t.keys
  simp only [iq,e,ii hi,jm] at g
  exact iG g
 have nd2:(kvs.map (·.1)).Nodup:=by
  rw [t.keys]
  exact nd.map _ (λ u v h e=>h (Sum.inr.inj e))
 have ev:=val_idx nd2 e
 rw [e1] at ev
 obtain ⟨v,e2,r⟩:=t.vals _ (List.getElem_mem hi)
 rw [ev] at e2
 cases e2
 exact ⟨ks[i],ii hi,e1,ev,r⟩
end
theorem bE {ks:List Str} {i:Nat} {n:Str} (nd:ks.Nodup) (e:ks[i]?=some n):ks.take (i+1)=ks.take i++[n]/\¬ n∈ks.take i:=by
 have hi:=(hV.mp e).1
 refine ⟨by rw [iH,e];rfl,λ m=>?_⟩
 obtain ⟨j,hj⟩:=jj.mp m
 have hj2:j<i:=by
  have:=(hV.mp hj).1
  rw [iz] at this
  omega
 rw [List.getElem?_take,if_pos hj2] at hj
 have:=(List.getElem?_inj (by omega) nd).mp (hj.trans e.symm)
 omega
theorem cu {ks:List Str} {n:Str} (h:¬ n∈ks):fW ks n=ks++[n]:=if_neg h
noncomputable def KeepD (H H':Hp):Prop:=∀ b ob,H b=some ob->(∀ kvs,ob≠.dK kvs)->(∀ o u,ob≠.frz o u)->H' b=some ob
theorem KeepD.of {H H':Hp} (s:Same H H'):KeepD H H':=λ b ob e _ _=>s b ob e
theorem KeepD.trans {H H' H'':Hp} (s:KeepD H H') (t:KeepD H' H''):KeepD H H'':=λ b ob e h1 h2=>t b ob (s b ob e h1 h2) h1 h2
theorem KeepD.put {H:Hp} {d:Addr} {kvs:List (Key × V)} {o:HO} (hd:H d=some (.dK kvs)):KeepD H (upd H d o):=λ b ob e h1 _=>by
 have:b≠d:=λ z=>by rw [z,hd] at e;exact h1 kvs (iG e).symm
 rw [ai this]
 exact e
theorem KeepD.frz {H:Hp} {d:Addr} {ob:Obj} {u o:HO} (hd:H d=some (.frz ob u)):KeepD H (upd H d o):=λ b ob' e _ h2=>by
 have:b≠d:=λ z=>by rw [z,hd] at e;exact h2 _ _ (iG e).symm
 rw [ai this]
 exact e
inductive BdS:List Rat->Nat->Prop
 | nil:BdS [] 0
 | snoc {xs:List Rat} {N m:Nat} {x:Rat}:BdS xs N->Bd m x->BdS (xs++[x]) (N+(m+1))
theorem BdS.fn {xs:List Rat} {N:Nat} (h:BdS xs N):∃ S:Nat->Nat,S 0=0/\(∀ i,i<=xs.length->S i<=N)/\∀ i y,xs[i]?=some y->∃ m,Bd m y/\S i+(m+1)<=S (i+1):=by
 induction h with
 | nil=>exact ⟨λ _=>0,rfl,λ _ _=>im _,λ i y e=>by simp at e⟩
 | @snoc xs N m x _ b ih=>
  obtain ⟨S,h0,h1,h2⟩:=ih
  refine ⟨λ j=>if j<=xs.length then S j else N+(m+1),by simp [h0],λ i hi=>?_,λ i y e=>?_⟩
  ·show (if i<=xs.length then S i else N+(m+1))<=_
   split
   ·rename_i h
    have:=h1 i h
    omega
   ·exact ic _
  ·show ∃ m',Bd m' y/\(if i<=xs.length then S i else N+(m+1))+(m'+1)<=(if i+1<=xs.length then S (i+1) else N+(m+1))
   have hi:=(hV.mp e).1
   rw [ir,ja,List.length_nil] at hi
   by_cases hl:i<xs.length
   ·rw [jr hl] at e
    obtain ⟨m',b',q⟩:=h2 i y e
    exact ⟨m',b',by rw [if_pos (by omega),if_pos (by omega)];exact q⟩
   ·have ei:i=xs.length:=by omega
    subst ei
    rw [jc (ic _),Nat.sub_self] at e
    have:x=y:=by simpa using e
    subst this
    refine ⟨m,b,?_⟩
    rw [if_pos (ic _),if_neg (by omega)]
    have:=h1 _ (ic _)
    omega
end G
namespace G
open PySem L2
noncomputable def Sm (i:Int):Prop:=i.natAbs<2 ^ 9000
noncomputable def SmR (x:Rat):Prop:=Sm x.num/\Sm (x.den:Int)
theorem Sm.le {a b:Int} (h:Sm b) (l:a.natAbs<=b.natAbs):Sm a:=iY l h
theorem eY (a:Int) {b:Int} (hb:0<b) (ha:0<=a):(a.fdiv b).natAbs<=a.natAbs:=by
 rw [Int.fdiv_eq_ediv_of_nonneg a (Int.le_of_lt hb)]
 have h1:=Int.ediv_nonneg ha (Int.le_of_lt hb)
 have h2:=Int.ediv_le_self b ha
 omega
theorem fdiv_le' (a:Int) {b:Int} (hb:0<b) (hd:b∣a):(a.fdiv b).natAbs<=a.natAbs:=by
 obtain ⟨k,rfl⟩:=hd
 have e:(b*k).fdiv b=k:=by rw [ju,Int.mul_fdiv_cancel _ (by omega)]
 rw [e,jo]
 exact Nat.le_mul_of_pos_left _ (by omega)
theorem dl (a:Int) {b:Int} (h:b≠0):0<gcd a b:=by
 have:=Int.gcd_pos_of_ne_zero_right a h
 unfold gcd;omega
theorem gcd_le_r (a:Int) {b:Int} (h:b≠0):(gcd a b).natAbs<=b.natAbs:=by
 have:=Int.gcd_le_natAbs_right a h
 unfold gcd;omega
theorem gcd_dvd_l (a b:Int):gcd a b∣a:=jR a b
theorem Sm.gcd_r (a:Int) {b:Int} (h:b≠0) (s:Sm b):Sm (gcd a b):=s.le (gcd_le_r a h)
theorem den_ne (x:Rat):(x.den:Int)≠0:=by have:=x.den_nz;omega
theorem tb:¬ (("top":Str) = "bottom"):=by decide +kernel
noncomputable def ff (t b:Int):List (Str × V):=[("top",.int t),("bottom",.int b)]
theorem ff_T (t b:Int):(ff t b).lookup ("top":Str)=some (.int t):=rfl
theorem ff_B (t b:Int):(ff t b).lookup ("bottom":Str)=some (.int b):=by
 have h:(("bottom":Str) == "top")=false:=by decide +kernel
 show List.lookup ("bottom":Str) [(("top":Str),V.int t),("bottom",V.int b)]=_
 rw [jG,h]
 rfl
theorem ff_no (t b:Int) {m:Str} (h1:(m == "top")=false) (h2:(m == "bottom")=false):(ff t b).lookup m=none:=by
 show List.lookup m [(("top":Str),V.int t),("bottom",V.int b)]=_
 rw [jG,h1,jG,h2]
 rfl
theorem ff_new (t b:Int):b5 "bottom" (.int b) (b5 "top" (.int t) [])=ff t b:=by
 show (if ("top":Str) = "bottom" then _ else (("top":Str),V.int t)::[(("bottom":Str),V.int b)])=ff t b
 rw [if_neg tb]
 rfl
theorem ff_put (a c t b:Int):b5 "bottom" (.int b) (b5 "top" (.int t) (ff a c))=ff t b:=by
 show b5 "bottom" (.int b) (if ("top":Str) = "top" then (("top":Str),V.int t)::[(("bottom":Str),V.int c)] else _)=ff t b
 rw [if_pos rfl]
 show (if ("top":Str) = "bottom" then _ else (("top":Str),V.int t)::(if ("bottom":Str) = "bottom" then (("bottom":Str),V.int b)::[] else _))=ff t b
 rw [if_neg tb,if_pos rfl]
 rfl
noncomputable def FrAt (C:Addr) (H:Hp) (p:Addr) (x:Rat):Prop:=∃ dx,H p=some (.ins C dx (ff x.num x.den))
theorem FrAt.mono {C:Addr} {H H':Hp} {p:Addr} {x:Rat} (h:FrAt C H p x) (s:Same H H'):FrAt C H' p x:=by
 obtain ⟨dx,e⟩:=h
 exact ⟨dx,s _ _ e⟩
theorem FrAt.up {C:Addr} {H H':Hp} {p:Addr} {x:Rat} (s:Same H H') (h:FrAt C H p x):FrAt C H' p x:=h.mono s
structure FrC (K:W.Frag) (C:Addr):Prop where
 cl:Cls K C
 nT:NoAttr K C "top"
 nB:NoAttr K C "bottom"
 c1:PySem.W.findIn K (.ref C) "__class__"=some (some (.builtin "object.__class__"))
 c2:PySem.W.specialIn K (.builtin "object.__class__") "__get__"=some (some (.builtin "getset_descriptor.__get__"))
 c3:PySem.W.takesIn K (.builtin "object.__class__")=some true
 c4:PySem.W.mroIn K C (.type "object")=some true
theorem FrAt.ty {K:W.Frag} {C:Addr} {H:Hp} {p:Addr} {x:Rat} (F:FrC K C) (h:FrAt C H p x):TyOf K H (.ref p) (.ref C):=by
 obtain ⟨_,e⟩:=h
 exact TyOf.ins e F.cl F.c1 F.c2 F.c3 F.c4
noncomputable def tTop (C:Addr) (ta:TE):TE:=λ σ H Q=>ta σ H λ v H1=>∃ p x,v=.ref p/\FrAt C H1 p x/\Q (.int x.num) H1
noncomputable def tBot (C:Addr) (ta:TE):TE:=λ σ H Q=>ta σ H λ v H1=>∃ p x,v=.ref p/\FrAt C H1 p x/\Q (.int x.den) H1
section
variable {X:Cx} {C:Addr} {e o:Expr} {ta:TE} {pos:Pos}
theorem dn (F:FrC X.K C) (he:PE X e ta) (hb:attributeBase e "top" X.env (eval e X.env)=eval e X.env:=by rfl):PE X (.Attribute e "top" pos) (tTop C ta):=by
 intro pins s σ H Q I h
 refine attr_of hb (thn (he pins s σ H _ I h) λ u s1 ⟨v,H1,I1,r,p,x,e,⟨dx,hp⟩,q⟩=>?_)
 subst e
 obtain rfl:u=Value.ref p:=r
 exact gL I1 hp F.cl F.nT (ff_T _ _) λ u' s' I' r'=>⟨_,H1,I',r',q⟩
theorem cK (F:FrC X.K C) (he:PE X e ta) (hb:attributeBase e "bottom" X.env (eval e X.env)=eval e X.env:=by rfl):PE X (.Attribute e "bottom" pos) (tBot C ta):=by
 intro pins s σ H Q I h
 refine attr_of hb (thn (he pins s σ H _ I h) λ u s1 ⟨v,H1,I1,r,p,x,e,⟨dx,hp⟩,q⟩=>?_)
 subst e
 obtain rfl:u=Value.ref p:=r
 exact gL I1 hp F.cl F.nB (ff_B _ _) λ u' s' I' r'=>⟨_,H1,I',r',q⟩
noncomputable def tFrM (C:Addr) (sp:Sp) (E:XK) (ta:TE) (t:TA):TE:=λ σ H Q=>ta σ H λ v H1=>∃ p x,v=.ref p/\FrAt C H1 p x/\t σ H1 λ vs H2=>sp (v::vs) H2 Q E
variable {CX:CXT} {k j:Nat} {ps:List Str} {sp:Sp} {E:XK} {m:Str} {p apos:Pos} {es:List Expr} {t:TA}
theorem pe_frm {pl:Sem Bool} (F:FrC X.K C) (he:PE X o ta) (M:MtB X.prog X.w X.K X.mg X.base CX C m k ps sp) (hr:Room j X.A) (hx:cX CX X E) (ha:PA X (e::es) t) (hj:k<=j:=by decide) (h1:(m == "top")=false:=by decide +kernel) (h2:(m == "bottom")=false:=by decide +kernel)
  (hst:starEach (e::es) X.env=(false,eval e X.env)::starEach es X.env:=by rfl) (hpl:(backTo pos (starEach es X.env)).any (·.1)=false:=by rfl)
  (ht:eval (.Call (.Attribute o m apos) (e::es) [] pos) X.env=(do
   let ov <- eval o X.env
   standAt apos.atName
   let (f,first) <- holding [ov] (getMethod ov m pl)
   callWith pos f first (backTo pos (starEach (e::es) X.env)) (backToKw pos (keywordEach [] X.env))):=by rfl):PE X (.Call (.Attribute o m apos) (e::es) [] pos) (tFrM C sp E ta t):=by
 obtain ⟨f,fd,hm,b,d⟩:=M
 intro pins s σ H Q I h
 refine jN (pl:=pl) (thn (he pins s σ H _ I h) λ u s1 ⟨v,H1,I1,rx,a,x,ex,⟨dx,ea⟩,q⟩=>?_) ht
 subst ex
 obtain rfl:u=Value.ref a:=rx
 refine fN I1 ea F.cl hm (ff_no _ _ h1 h2) ?_
 refine jO (first:=[.ref a]) (h₀:=X.base) I.ok.mod.kin hm.kp (thn (ha pos pins s1 σ H1 _ I1 q) λ us s2 ⟨vs,H2,I2,r,q2⟩=>⟨I2.kIn,?_⟩) hst hpl
 exact run_fn (us:=.ref a::us) (vs:=.ref a::vs) (dvs:=[]) d (hr.mono hj) b .nil hx I2 (.cons rfl r) (by simpa using q2)
theorem pe_frm0 {pl:Sem Bool} (F:FrC X.K C) (he:PE X o ta) (M:MtB X.prog X.w X.K X.mg X.base CX C m k ps sp) (hr:Room j X.A) (hx:cX CX X E) (hj:k<=j:=by decide) (h1:(m == "top")=false:=by decide +kernel) (h2:(m == "bottom")=false:=by decide +kernel)
  (ht:eval (.Call (.Attribute o m apos) [] [] pos) X.env=(do
   let ov <- eval o X.env
   standAt apos.atName
   let (f,first) <- holding [ov] (getMethod ov m pl)
   callWith pos f first (backTo pos (starEach [] X.env)) (backToKw pos (keywordEach [] X.env))):=by rfl):PE X (.Call (.Attribute o m apos) [] [] pos) (tFrM C sp E ta tNil):=by
 obtain ⟨f,fd,hm,b,d⟩:=M
 intro pins s σ H Q I h
 refine jN (pl:=pl) (thn (he pins s σ H _ I h) λ u s1 ⟨v,H1,I1,rx,a,x,ex,⟨dx,ea⟩,q⟩=>?_) ht
 subst ex
 obtain rfl:u=Value.ref a:=rx
 refine fN I1 ea F.cl hm (ff_no _ _ h1 h2) ?_
 exact PySem.W.callWith_K0 (first:=[.ref a]) I1.kIn hm.kp (run_fn (us:=[.ref a]) (vs:=[.ref a]) (dvs:=[]) d (hr.mono hj) b .nil hx I1 (.cons rfl .nil) q)
noncomputable def spDiv:Sp:=λ vs H Q _=>∃ a b:Int,vs=[.int a,.int b]/\Q (.int (gcd a b)) H
noncomputable def spInit (C:Addr):Sp:=λ vs H Q _=>∃ (p dx:Addr) (a b:Int),vs=[.ref p,.int a,.int b]/\H p=some (.ins C dx [])/\b≠0/\Sm b/\∀ H',H'=upd H p (.ins C dx (ff (Rat.divInt a b).num (Rat.divInt a b).den))->Q .non H'
noncomputable def NewFr (C:Addr) (H:Hp) (Q:VK) (x:Rat):Prop:=∀ (r:Addr) (H':Hp),H r=none->Same H H'->FrAt C H' r x->Q (.ref r) H'
noncomputable def spLow (C:Addr):Sp:=λ vs H Q _=>∃ t b:Int,vs=[.int t,.int b]/\∀ (r dx:Addr) (H':Hp),H r=none->Same H H'->H' r=some (.ins C dx (ff t b))->Q (.ref r) H'
noncomputable def spR2 (C:Addr) (f:Rat->Rat->Rat) (pre:Rat->Rat->Prop):Sp:=λ vs H Q _=>∃ (p q:Addr) (x y:Rat),vs=[.ref p,.ref q]/\FrAt C H p x/\FrAt C H q y/\SmR x/\SmR y/\pre x y/\NewFr C H Q (f x y)
theorem mk_fr {H:Hp} {a b:Int} {Q:VK} {E:XK} {x dx:Addr} (nx:H x=none) (nd:H dx=none) (hb:b≠0) (hs:Sm b) (k:∀ H':Hp,Same H H'->FrAt C H' x (Rat.divInt a b)->Q .non H') :
  spInit C [.ref x,.int a,.int b] (upd (upd H dx (.own x)) x (.ins C dx [])) Q E:=by
 refine ⟨x,dx,a,b,rfl,ac,hb,hs,λ H' e=>?_⟩
 subst e
 refine k _ (λ c o e=>?_) ⟨dx,ac⟩
 rw [ai (av e nx),ai (av e nx),ai (av e nd)]
 exact e
noncomputable def tMkFr (C:Addr) (dvs:List V) (t:TA):TE:=λ σ H Q=>t σ H λ vs H1=>∃ a b:Int,vs++dvs=[.int a,.int b]/\b≠0/\Sm b/\NewFr C H1 Q (Rat.divInt a b)
theorem cn {dvs:List V} {x:Str} (F:MkB X.prog X.w X.K X.mg X.base CX C k ["self","top","bottom"] dvs (spInit C)) (hr:Room j X.A) (hm:X.mg x=some (.ref C)) (hx:cX CX X E) (ha:PA X (e::es) t) (hj:k+1<=j:=by decide) (hg:Gl X x:=by rfl) (hdb:(x == ("__debug__":Str))=false:=by decide)
  (he:starEach (e::es) X.env=(false,eval e X.env)::starEach es X.env:=by rfl) (hpl:(backTo pos (starEach es X.env)).any (·.1)=false:=by rfl):PE X (.Call (.Name x p) (e::es) [] pos) (tMkFr C dvs t):=by
 obtain ⟨f,fd,ds,M,b,c,d⟩:=F
 intro pins s σ H Q I h
 refine wpAny_Call_Name_kw (eo I hg hm ?_ hdb)
 refine jO (h₀:=X.base) I.ok.mod.kin M.kp (thn (ha pos pins s σ H _ I h) λ us s1 ⟨vs,H1,I1,r,a',b',ev,hb,hs,q⟩=>⟨I1.kIn,?_⟩) he hpl
 refine run_make M d (hr.mono hj) b c hx I1 r λ y dx n1 n2 _=>?_
 rw [ev]
 exact mk_fr n1 n2 hb hs λ H' s' f'=>⟨rfl,q y H' n1 s' f'⟩
end
end G
namespace G
open PySem L2
noncomputable def aW (i:Nat):Stmt:=PySem.Challenge.pw_gainstream_k65_a_plan_turn_by_turn.main.body.getD i (.Pass ⟨0,0,0,0⟩)
noncomputable abbrev eF:Stmt:=aW 9
noncomputable abbrev bt:Stmt:=aW 11
noncomputable abbrev gr:Stmt:=aW 12
noncomputable abbrev eA:Stmt:=aW 14
noncomputable abbrev bM:Stmt:=aW 22
noncomputable abbrev dg:Stmt:=aW 23
noncomputable abbrev b8:Stmt:=aW 24
noncomputable abbrev fo:Stmt:=aW 27
noncomputable abbrev br:Stmt:=aW 28
noncomputable abbrev bg:Stmt:=aW 29
noncomputable abbrev bO:Stmt:=aW 31
noncomputable abbrev b9:Stmt:=aW 32
noncomputable abbrev cY:Stmt:=aW 33
noncomputable abbrev fk:Stmt:=aW 34
noncomputable abbrev dz:Stmt:=aW 35
noncomputable abbrev dv:Stmt:=aW 36
noncomputable abbrev fm:Stmt:=aW 37
noncomputable abbrev dJ:Stmt:=aW 38
noncomputable abbrev cz:Stmt:=aW 40
noncomputable abbrev dA:Stmt:=aW 41
noncomputable abbrev dG:Stmt:=aW 42
noncomputable abbrev c5:Stmt:=aW 43
noncomputable abbrev dF:Stmt:=aW 44
noncomputable abbrev cQ:Stmt:=aW 45
noncomputable abbrev bQ:Stmt:=aW 46
noncomputable abbrev dH:Stmt:=aW 47
noncomputable abbrev cy:Stmt:=aW 48
noncomputable abbrev dI:Stmt:=aW 49
noncomputable abbrev eD:Stmt:=aW 50
noncomputable abbrev eC:Stmt:=aW 51
noncomputable abbrev dc:Stmt:=aW 52
noncomputable abbrev cO:Stmt:=aW 53
noncomputable abbrev cZ:Stmt:=aW 54
noncomputable abbrev c6:Stmt:=aW 55
noncomputable abbrev cN:Stmt:=aW 56
noncomputable abbrev dE:Stmt:=aW 57
noncomputable abbrev c8:Stmt:=aW 58
noncomputable abbrev bR:Stmt:=aW 59
noncomputable abbrev c7:Stmt:=aW 60
noncomputable abbrev dC:Stmt:=aW 61
noncomputable abbrev cP:Stmt:=aW 62
noncomputable abbrev cw:Stmt:=aW 63
noncomputable abbrev c9:Stmt:=aW 64
noncomputable abbrev eE:Stmt:=aW 65
noncomputable abbrev df:Stmt:=aW 66
noncomputable abbrev cc:Stmt:=aW 67
noncomputable abbrev cx:Stmt:=aW 68
noncomputable abbrev gC:Stmt:=aW 69
noncomputable abbrev bW:Stmt:=bc (aW 10) 0
noncomputable abbrev bV:Stmt:=bc (aW 10) 1
noncomputable abbrev bI:Stmt:=bc (aW 10) 2
noncomputable abbrev bH:Stmt:=bc (aW 10) 3
noncomputable abbrev bG:Stmt:=bc (aW 10) 5
noncomputable abbrev bU:Stmt:=bc (aW 10) 7
noncomputable abbrev cJ:Stmt:=bc (aW 15) 0
noncomputable abbrev bJ:Stmt:=bc (aW 15) 1
noncomputable abbrev dL:Stmt:=bc (aW 15) 2
noncomputable abbrev cA:Stmt:=bc (aW 15) 3
noncomputable abbrev cB:Stmt:=bc (aW 15) 4
noncomputable abbrev bK:Stmt:=bc (aW 16) 0
noncomputable abbrev cf:Stmt:=bc (aW 16) 1
noncomputable abbrev bv:Stmt:=bc (aW 16) 2
noncomputable abbrev bp:Stmt:=bc (aW 17) 0
noncomputable abbrev bq:Stmt:=bc (aW 17) 1
noncomputable abbrev bu:Stmt:=bc (aW 17) 2
noncomputable abbrev cR:Stmt:=bc (aW 18) 0
noncomputable abbrev bF:Stmt:=bc (aW 18) 1
noncomputable abbrev bS:Stmt:=bc (aW 18) 2
noncomputable abbrev dN:Stmt:=bc (aW 25) 0
noncomputable abbrev dh:Stmt:=bc (aW 25) 1
noncomputable abbrev dM:Stmt:=bc (aW 25) 2
noncomputable abbrev eG:Stmt:=bc (aW 25) 3
noncomputable abbrev ce:Stmt:=bc (aW 25) 4
noncomputable abbrev cm:Stmt:=bc (aW 5) 0
structure Ad where
 Fraction:Addr
 Way:Addr
 Growing:Addr
 Leaking:Addr
 Store:Addr
 Net:Addr
 GainError:Addr
 NoNumber:Addr
 TooMany:Addr
 NoWay:Addr
 Twice:Addr
 NoPlace:Addr
structure TX (K:W.Frag) (mg:Str->Option Value) (a:Ad):Prop where
 d_divisor:FDe K mg "divisor" eF ["one","other"]
 d_in_lowest_terms:FDe K mg "in_lowest_terms" bt ["top","bottom"]
 d_total:FDe K mg "total" gr ["some"]
 d_name_at:FDe K mg "name_at" eA ["name","turn"]
 d_wants_by_name:FDe K mg "wants_by_name" bM ["places"]
 d_check_way:FDe K mg "check_way" dg ["way","ahead","wants"]
 d_ways_by_name:FDe K mg "ways_by_name" b8 ["ways","wants"]
 d_amount:FDe K mg "amount" fo ["plan","name"]
 d_without_noughts:FDe K mg "without_noughts" br ["plan"]
 d_refuse_other_names:FDe K mg "refuse_other_names" bg ["net","plan"]
 d_refuse_stores:FDe K mg "refuse_stores" bO ["net","stores"]
 d_refuse_wants:FDe K mg "refuse_wants" b9 ["net","wants"]
 d_places_at:FDe K mg "places_at" cY ["net","own_wants","turn"]
 d_turned:FDe K mg "turned" fk ["net","stores","wants"]
 d_own_plan:FDe K mg "own_plan" dz ["net","plan","turn"]
 d_taken_in:FDe K mg "taken_in" dv ["net","stores","plan","turn"]
 d_put_in:FDe K mg "put_in" fm ["net","stores","plan","turn"]
 d_by_turns:FDe K mg "by_turns" dJ ["net","stores","wants","plan"]
 d_law_cell_at:FDe K mg "_law_cell_at" cz ["_law_script","_law_k"]
 d_law_plus:FDe K mg "_law_plus" dA ["_law_one","_law_other"]
 d_law_less:FDe K mg "_law_less" dG ["_law_one","_law_other"]
 d_law_times:FDe K mg "_law_times" c5 ["_law_one","_law_other"]
 d_law_name:FDe K mg "_law_name" dF ["_law_at","_law_cell"]
 d_law_number:FDe K mg "_law_number" cQ ["_law_cell"]
 d_law_not_under:FDe K mg "_law_not_under" bQ ["_law_cell"]
 d_law_high:FDe K mg "_law_high" dH ["_law_cell"]
 d_law_gain_by:FDe K mg "_law_gain_by" cy ["_law_cell"]
 d_law_ends:FDe K mg "_law_ends" dI ["_law_cell","_law_places"]
 d_law_net:FDe K mg "_law_net" eD ["_law_script","_law_size","_law_many"]
 d_law_way:FDe K mg "_law_way" eC ["_law_way_here"]
 d_law_built:FDe K mg "_law_built" dc ["_law_told"]
 d_law_stores:FDe K mg "_law_stores" cO ["_law_script","_law_at","_law_places","_law_count"]
 d_law_wants:FDe K mg "_law_wants" cZ ["_law_script","_law_at","_law_places","_law_turns"]
 d_law_store:FDe K mg "_law_store" c6 ["_law_store_here"]
 d_law_turned:FDe K mg "_law_turned" cN ["_law_told","_law_stores_here","_law_wants_here"]
 d_law_pair:FDe K mg "_law_pair" dE ["_law_number_here"]
 d_law_pairs:FDe K mg "_law_pairs" c8 ["_law_told"]
 d_law_fractions:FDe K mg "_law_fractions" bR ["_law_pairs_here"]
 d_law_stays:FDe K mg "_law_stays" c7 ["_law_handed","_law_pairs_here"]
 d_law_plan:FDe K mg "_law_plan" dC ["_law_script","_law_ways"]
 d_law_put_in:FDe K mg "_law_put_in" cP ["_law_plan_here","_law_name_here","_law_at"]
 d_law_strange:FDe K mg "_law_strange" cw ["_law_told","_law_stores_here","_law_turns","_law_cell","_law_name_here"]
 d_law_first:FDe K mg "_law_first" c9 ["_law_plan_here","_law_ways"]
 d_law_due:FDe K mg "_law_due" eE ["_law_told","_law_stores_here","_law_plan_here","_law_turn","_law_last"]
 d_law_alike:FDe K mg "_law_alike" df ["_law_found","_law_due_here"]
 d_law_all_told:FDe K mg "_law_all_told" cc ["_law_found","_law_dues"]
 d_law_refused:FDe K mg "_law_refused" cx ["_law_net_here","_law_stores_here","_law_rows","_law_plan_here"]
 d_law:FDe K mg "law" gC ["_law_script"]
 cl_Fraction:Cls K a.Fraction
 mg_Fraction:mg "Fraction"=some (.ref a.Fraction)
 na_Fraction_top:NoAttr K a.Fraction "top"
 na_Fraction_bottom:NoAttr K a.Fraction "bottom"
 i_Fraction:IDe K a.Fraction "Fraction.__init__" bW ["self","top","bottom"] [[],[V.int 1]]
 m_Fraction_plus:MDe K a.Fraction "plus" "Fraction.plus" bV ["self","other"]
 m_Fraction_minus:MDe K a.Fraction "minus" "Fraction.minus" bI ["self","other"]
 m_Fraction_times:MDe K a.Fraction "times" "Fraction.times" bH ["self","other"]
 m_Fraction_under:MDe K a.Fraction "under" "Fraction.under" bG ["self","other"]
 m_Fraction_sign:MDe K a.Fraction "sign" "Fraction.sign" bU ["self"]
 c1_Fraction:PySem.W.findIn K (.ref a.Fraction) "__class__"=some (some (.builtin "object.__class__"))
 c4_Fraction:PySem.W.mroIn K a.Fraction (.type "object")=some true
 cl_Way:Cls K a.Way
 mg_Way:mg "Way"=some (.ref a.Way)
 na_Way_name:NoAttr K a.Way "name"
 na_Way_start:NoAttr K a.Way "start"
 na_Way_goal:NoAttr K a.Way "goal"
 na_Way_high:NoAttr K a.Way "high"
 na_Way_cost:NoAttr K a.Way "cost"
 i_Way:IDe K a.Way "Way.__init__" cJ ["self","name","start","goal","high","cost"] [[],[V.non,V.non]]
 c_Way:CDe K a.Way "Way.__init__" cJ ["self","name","start","goal","high","cost"]
 m_Way_may_stay:MDe K a.Way "may_stay" "Way.may_stay" bJ ["self"]
 m_Way_gain:MDe K a.Way "gain" "Way.gain" dL ["self"]
 m_Way_out:MDe K a.Way "out" "Way.out" cA ["self","amount"]
 m_Way_at_turn:MDe K a.Way "at_turn" "Way.at_turn" cB ["self","turn"]
 c1_Way:PySem.W.findIn K (.ref a.Way) "__class__"=some (some (.builtin "object.__class__"))
 c4_Way:PySem.W.mroIn K a.Way (.type "object")=some true
 cl_Growing:Cls K a.Growing
 mg_Growing:mg "Growing"=some (.ref a.Growing)
 na_Growing_rate:NoAttr K a.Growing "rate"
 na_Growing_name:NoAttr K a.Growing "name"
 na_Growing_start:NoAttr K a.Growing "start"
 na_Growing_goal:NoAttr K a.Growing "goal"
 na_Growing_high:NoAttr K a.Growing "high"
 na_Growing_cost:NoAttr K a.Growing "cost"
 i_Growing:IDe K a.Growing "Growing.__init__" bK ["self","name","start","goal","rate","high","cost"] [[],[V.non,V.non]]
 m_Growing_gain:MDe K a.Growing "gain" "Growing.gain" cf ["self"]
 m_Growing_at_turn:MDe K a.Growing "at_turn" "Growing.at_turn" bv ["self","turn"]
 m_Growing_may_stay:MDe K a.Growing "may_stay" "Way.may_stay" bJ ["self"]
 m_Growing_out:MDe K a.Growing "out" "Way.out" cA ["self","amount"]
 c1_Growing:PySem.W.findIn K (.ref a.Growing) "__class__"=some (some (.builtin "object.__class__"))
 c4_Growing:PySem.W.mroIn K a.Growing (.type "object")=some true
 cl_Leaking:Cls K a.Leaking
 mg_Leaking:mg "Leaking"=some (.ref a.Leaking)
 na_Leaking_loss:NoAttr K a.Leaking "loss"
 na_Leaking_name:NoAttr K a.Leaking "name"
 na_Leaking_start:NoAttr K a.Leaking "start"
 na_Leaking_goal:NoAttr K a.Leaking "goal"
 na_Leaking_high:NoAttr K a.Leaking "high"
 na_Leaking_cost:NoAttr K a.Leaking "cost"
 i_Leaking:IDe K a.Leaking "Leaking.__init__" bp ["self","name","start","goal","loss","high","cost"] [[],[V.non,V.non]]
 c_Leaking:CDe K a.Leaking "Leaking.__init__" bp ["self","name","start","goal","loss","high","cost"]
 m_Leaking_gain:MDe K a.Leaking "gain" "Leaking.gain" bq ["self"]
 m_Leaking_at_turn:MDe K a.Leaking "at_turn" "Leaking.at_turn" bu ["self","turn"]
 m_Leaking_may_stay:MDe K a.Leaking "may_stay" "Way.may_stay" bJ ["self"]
 m_Leaking_out:MDe K a.Leaking "out" "Way.out" cA ["self","amount"]
 c1_Leaking:PySem.W.findIn K (.ref a.Leaking) "__class__"=some (some (.builtin "object.__class__"))
 c4_Leaking:PySem.W.mroIn K a.Leaking (.type "object")=some true
 cl_Store:Cls K a.Store
 mg_Store:mg "Store"=some (.ref a.Store)
 na_Store_loss:NoAttr K a.Store "loss"
 na_Store_name:NoAttr K a.Store "name"
 na_Store_start:NoAttr K a.Store "start"
 na_Store_goal:NoAttr K a.Store "goal"
 na_Store_high:NoAttr K a.Store "high"
 na_Store_cost:NoAttr K a.Store "cost"
 i_Store:IDe K a.Store "Store.__init__" cR ["self","name","place","loss","high","cost"] [[],[V.non,V.non]]
 m_Store_may_stay:MDe K a.Store "may_stay" "Store.may_stay" bF ["self"]
 m_Store_at_turn:MDe K a.Store "at_turn" "Store.at_turn" bS ["self","turn"]
 m_Store_gain:MDe K a.Store "gain" "Leaking.gain" bq ["self"]
 m_Store_out:MDe K a.Store "out" "Way.out" cA ["self","amount"]
 c1_Store:PySem.W.findIn K (.ref a.Store) "__class__"=some (some (.builtin "object.__class__"))
 c4_Store:PySem.W.mroIn K a.Store (.type "object")=some true
 cl_Net:Cls K a.Net
 mg_Net:mg "Net"=some (.ref a.Net)
 na_Net_wants:NoAttr K a.Net "wants"
 na_Net_ways:NoAttr K a.Net "ways"
 i_Net:IDe K a.Net "Net.__init__" dN ["self","places","ways"] [[]]
 m_Net_names:MDe K a.Net "names" "Net.names" dh ["self"]
 m_Net_want:MDe K a.Net "want" "Net.want" dM ["self","place"]
 m_Net_way:MDe K a.Net "way" "Net.way" eG ["self","name"]
 m_Net_all_ways:MDe K a.Net "all_ways" "Net.all_ways" ce ["self"]
 no_Net_sign:PySem.W.findIn K (.ref a.Net) "sign"=some none
 no_Net_may_stay:PySem.W.findIn K (.ref a.Net) "may_stay"=some none
 c2:PySem.W.specialIn K (.builtin "object.__class__") "__get__"=some (some (.builtin "getset_descriptor.__get__"))
 c3:PySem.W.takesIn K (.builtin "object.__class__")=some true
 mg_GainError:mg "GainError"=some (.ref a.GainError)
 mg_NoWay:mg "NoWay"=some (.ref a.NoWay)
 xi_NoWay:XiDe K a.NoWay "NoWay.__init__" cm ["self","name"]
 xs_NoWay:ExI K a.NoWay
 na_NoWay_name:NoAttr K a.NoWay "name"
 hd_NoWay:PySem.W.hasDictIn K a.NoWay=true
 br_NoWay:ClsRd K a.GainError
 bf_NoWay:PySem.W.findCls K (.ref a.GainError) (.type "type") "__init__"=some (.val (.builtin "ValueError.__init__"))
 ca1_NoWay:PySem.W.instIn K (.ref a.NoWay) (.type "tuple")=some false
 ca2_NoWay:∃ cd,PySem.W.clsIn K a.NoWay=some cd
 ca3_NoWay:PySem.W.subIn K (.ref a.NoWay) (.type "BaseException")=some true
 su_NoWay_NoWay:PySem.W.subIn K (.ref a.NoWay) (.ref a.NoWay)=some true
 k_Fraction_Fraction:PySem.W.kitOne K (.ref a.Fraction) (.ref a.Fraction)=some true
 k_Way_Store:PySem.W.kitOne K (.ref a.Way) (.ref a.Store)=some false
 k_Growing_Store:PySem.W.kitOne K (.ref a.Growing) (.ref a.Store)=some false
 k_Leaking_Store:PySem.W.kitOne K (.ref a.Leaking) (.ref a.Store)=some false
 k_int_bool:PySem.W.kitOne K (.type "int") (.type "bool")=some false
 k_dict_dict:PySem.W.kitOne K (.type "dict") (.type "dict")=some true
 k_int_int:PySem.W.kitOne K (.type "int") (.type "int")=some true
 k_list_list:PySem.W.kitOne K (.type "list") (.type "list")=some true
 k_str_str:PySem.W.kitOne K (.type "str") (.type "str")=some true
 k_tuple_tuple:PySem.W.kitOne K (.type "tuple") (.type "tuple")=some true
 xga_NoWay:PySem.W.findIn K (.ref a.NoWay) "__getattribute__"=some (some (.builtin "BaseException.__getattribute__"))
 xgh_NoWay:PySem.W.findIn K (.ref a.NoWay) "__getattr__"=some none
 xbe_NoWay:PySem.W.mroIn K a.NoWay (.type "BaseException")=some true
 xca_NoWay:PySem.W.findIn K (.ref a.NoWay) "__class__"=some (some (.builtin "object.__class__"))
 xob_NoWay:PySem.W.mroIn K a.NoWay (.type "object")=some true
 xcl_NoWay:∃ cd,PySem.W.clsIn K a.NoWay=some cd
 gi_MOST_PLACES:∃ tk,mg "MOST_PLACES"=some (.int 12 tk)
 gi_MOST_WAYS:∃ tk,mg "MOST_WAYS"=some (.int 24 tk)
 z_abs:mg "abs"=none
 z_all:mg "all"=none
 z_bool:mg "bool"=none
 z_dict:mg "dict"=none
 z_enumerate:mg "enumerate"=none
 z_int:mg "int"=none
 z_isinstance:mg "isinstance"=none
 z_len:mg "len"=none
 z_list:mg "list"=none
 z_max:mg "max"=none
 z_range:mg "range"=none
 z_sorted:mg "sorted"=none
 z_str:mg "str"=none
 z_tuple:mg "tuple"=none
 z_zip:mg "zip"=none
open PySem L2 in
local macro_rules | `(tactic| walk_at "sc") => `(tactic| exact ⟨rfl, rfl, rfl, by decide +kernel, rfl, by decide +kernel, by decide +kernel⟩)
section
variable {P:Program} {w:World} {K:W.Frag} {mg:Str->Option Value} {base:Heap} {a:Ad}
theorem TX.exa_NoWay (T:TX K mg a):ExA K a.NoWay:=⟨T.xga_NoWay,T.xgh_NoWay,T.xbe_NoWay,T.xca_NoWay,T.c2,T.c3,T.xob_NoWay,T.xcl_NoWay⟩
theorem sc_divisor:FnScope ["one","other","rest"] ["one","other"] (af eF):=by walk_at "sc"
theorem sc_in_lowest_terms:FnScope ["top","bottom","made"] ["top","bottom"] (af bt):=by walk_at "sc"
theorem sc_total:FnScope ["some","top","bottom","shared","number","common","own","left"] ["some"] (af gr):=by walk_at "sc"
theorem sc_name_at:FnScope ["name","turn"] ["name","turn"] (af eA):=by walk_at "sc"
theorem sc_wants_by_name:FnScope ["places","wants","name","want"] ["places"] (af bM):=by walk_at "sc"
theorem sc_check_way:FnScope ["way","ahead","wants","place"] ["way","ahead","wants"] (af dg):=by walk_at "sc"
theorem sc_ways_by_name:FnScope ["ways","wants","ahead","way"] ["ways","wants"] (af b8):=by walk_at "sc"
theorem sc_amount:FnScope ["plan","name"] ["plan","name"] (af fo):=by walk_at "sc"
theorem sc_without_noughts:FnScope ["plan","kept","name","part"] ["plan"] (af br):=by walk_at "sc"
theorem sc_refuse_other_names:FnScope ["net","plan","name"] ["net","plan"] (af bg):=by walk_at "sc"
theorem sc_refuse_stores:FnScope ["net","stores","ahead","way","store"] ["net","stores"] (af bO):=by walk_at "sc"
theorem sc_refuse_wants:FnScope ["net","wants","own_wants","place"] ["net","wants"] (af b9):=by walk_at "sc"
theorem sc_places_at:FnScope ["net","own_wants","turn"] ["net","own_wants","turn"] (af cY):=by walk_at "sc"
theorem sc_turned:FnScope ["net","stores","wants","places","ways","turn","own_wants"] ["net","stores","wants"] (af fk):=by walk_at "sc"
theorem sc_own_plan:FnScope ["net","plan","turn","own","way"] ["net","plan","turn"] (af dz):=by walk_at "sc"
theorem sc_taken_in:FnScope ["net","stores","plan","turn","taken","place","here"] ["net","stores","plan","turn"] (af dv):=by walk_at "sc"
theorem sc_put_in:FnScope ["net","stores","plan","turn","put","place","here"] ["net","stores","plan","turn"] (af fm):=by walk_at "sc"
theorem sc_by_turns:FnScope ["net","stores","wants","plan","told","turn","own"] ["net","stores","wants","plan"] (af dJ):=by walk_at "sc"
theorem sc_law_cell_at:FnScope ["_law_script","_law_k"] ["_law_script","_law_k"] (af cz):=by walk_at "sc"
theorem sc_law_plus:FnScope ["_law_one","_law_other"] ["_law_one","_law_other"] (af dA):=by walk_at "sc"
theorem sc_law_less:FnScope ["_law_one","_law_other"] ["_law_one","_law_other"] (af dG):=by walk_at "sc"
theorem sc_law_times:FnScope ["_law_one","_law_other"] ["_law_one","_law_other"] (af c5):=by walk_at "sc"
theorem sc_law_name:FnScope ["_law_at","_law_cell","_law_signs","_law_ahead","_law_sign"] ["_law_at","_law_cell"] (af dF):=by walk_at "sc"
theorem sc_law_number:FnScope ["_law_cell"] ["_law_cell"] (af cQ):=by walk_at "sc"
theorem sc_law_not_under:FnScope ["_law_cell"] ["_law_cell"] (af bQ):=by walk_at "sc"
theorem sc_law_high:FnScope ["_law_cell"] ["_law_cell"] (af dH):=by walk_at "sc"
theorem sc_law_gain_by:FnScope ["_law_cell"] ["_law_cell"] (af cy):=by walk_at "sc"
theorem sc_law_ends:FnScope ["_law_cell","_law_places","_law_size","_law_start","_law_goal"] ["_law_cell","_law_places"] (af dI):=by walk_at "sc"
theorem sc_law_net:FnScope ["_law_script","_law_size","_law_many","_law_places","_law_k","_law_ways","_law_at","_law_start","_law_goal","_law_kind","_law_gain","_law_high_here","_law_cost"] ["_law_script","_law_size","_law_many"] (af eD):=by walk_at "sc"
theorem sc_law_way:FnScope ["_law_way_here","_law_name_here","_law_start","_law_goal","_law_kind","_law_gain","_law_high_here","_law_cost","_law_bound","_law_spent"] ["_law_way_here"] (af eC):=by walk_at "sc"
theorem sc_law_built:FnScope ["_law_told","_law_places"] ["_law_told"] (af dc):=by walk_at "sc"
theorem sc_law_stores:FnScope ["_law_script","_law_at","_law_places","_law_count","_law_stores_here","_law_k","_law_place","_law_loss","_law_gain","_law_high_here","_law_cost"] ["_law_script","_law_at","_law_places","_law_count"] (af cO):=by walk_at "sc"
theorem sc_law_wants:FnScope ["_law_script","_law_at","_law_places","_law_turns","_law_wants_here","_law_turn","_law_row","_law_k","_law_place","_law_cell"] ["_law_script","_law_at","_law_places","_law_turns"] (af cZ):=by walk_at "sc"
theorem sc_law_store:FnScope ["_law_store_here","_law_name_here","_law_place","_law_gain","_law_high_here","_law_cost","_law_bound"] ["_law_store_here"] (af c6):=by walk_at "sc"
theorem sc_law_turned:FnScope ["_law_told","_law_stores_here","_law_wants_here","_law_places","_law_ways","_law_k","_law_row","_law_tail","_law_place","_law_way_here","_law_name_here","_law_gain","_law_high_here","_law_cost"] ["_law_told","_law_stores_here","_law_wants_here"] (af cN):=by walk_at "sc"
theorem sc_law_pair:FnScope ["_law_number_here","_law_part"] ["_law_number_here"] (af dE):=by walk_at "sc"
theorem sc_law_pairs:FnScope ["_law_told","_law_pairs_here","_law_name_here"] ["_law_told"] (af c8):=by walk_at "sc"
theorem sc_law_fractions:FnScope ["_law_pairs_here","_law_handed","_law_name_here"] ["_law_pairs_here"] (af bR):=by walk_at "sc"
theorem sc_law_stays:FnScope ["_law_handed","_law_pairs_here"] ["_law_handed","_law_pairs_here"] (af c7):=by walk_at "sc"
theorem sc_law_plan:FnScope ["_law_script","_law_ways","_law_plan_here","_law_k","_law_way_here","_law_cell"] ["_law_script","_law_ways"] (af dC):=by walk_at "sc"
theorem sc_law_put_in:FnScope ["_law_plan_here","_law_name_here","_law_at","_law_mixed","_law_k","_law_other"] ["_law_plan_here","_law_name_here","_law_at"] (af cP):=by walk_at "sc"
theorem sc_law_strange:FnScope ["_law_told","_law_stores_here","_law_turns","_law_cell","_law_name_here","_law_some","_law_way_here","_law_store_here"] ["_law_told","_law_stores_here","_law_turns","_law_cell","_law_name_here"] (af cw):=by walk_at "sc"
theorem sc_law_first:FnScope ["_law_plan_here","_law_ways","_law_names","_law_strange_here"] ["_law_plan_here","_law_ways"] (af c9):=by walk_at "sc"
theorem sc_law_due:FnScope ["_law_told","_law_stores_here","_law_plan_here","_law_turn","_law_last","_law_done","_law_taken","_law_put","_law_place","_law_way_here","_law_much","_law_name_here","_law_gain","_law_high_here","_law_cost","_law_come"] ["_law_told","_law_stores_here","_law_plan_here","_law_turn","_law_last"] (af eE):=by walk_at "sc"
theorem sc_law_alike:FnScope ["_law_found","_law_due_here","_law_pairs_here"] ["_law_found","_law_due_here"] (af df):=by walk_at "sc"
theorem sc_law_all_told:FnScope ["_law_found","_law_dues","_law_row","_law_due_here"] ["_law_found","_law_dues"] (af cc):=by walk_at "sc"
theorem sc_law_refused:FnScope ["_law_net_here","_law_stores_here","_law_rows","_law_plan_here","_law_found","error"] ["_law_net_here","_law_stores_here","_law_rows","_law_plan_here"] (af cx):=by walk_at "sc"
theorem sc_law:FnScope ["_law_script","_law_size","_law_many","_law_told","_law_stores_here","_law_wants_here","_law_ways","_law_plan_here","_law_net_here","_law_kept","_law_rows","_law_strange_here","_law_k","_law_cell","_law_name_here","_law_handed","_law_dues","_law_found","_law_row"] ["_law_script"] (af gC):=by walk_at "sc"
theorem sc_Fraction_init:FnScope ["self","top","bottom","common"] ["self","top","bottom"] (af bW):=by walk_at "sc"
theorem sc_Fraction_plus:FnScope ["self","other","common","own","top","left"] ["self","other"] (af bV):=by walk_at "sc"
theorem gW:FnScope ["self","other"] ["self","other"] (af bI):=by walk_at "sc"
theorem sc_Fraction_times:FnScope ["self","other","first","second","top"] ["self","other"] (af bH):=by walk_at "sc"
theorem gU:FnScope ["self","other"] ["self","other"] (af bG):=by walk_at "sc"
theorem sc_Fraction_sign:FnScope ["self"] ["self"] (af bU):=by walk_at "sc"
theorem sc_Way_init:FnScope ["self","name","start","goal","high","cost"] ["self","name","start","goal","high","cost"] (af cJ):=by walk_at "sc"
theorem sc_Way_gain:FnScope ["self"] ["self"] (af dL):=by walk_at "sc"
theorem fG:FnScope ["self","amount"] ["self","amount"] (af cA):=by walk_at "sc"
theorem sc_Way_at_turn:FnScope ["self","turn","start","goal"] ["self","turn"] (af cB):=by walk_at "sc"
theorem sc_Growing_init:FnScope ["self","name","start","goal","rate","high","cost"] ["self","name","start","goal","rate","high","cost"] (af bK):=by walk_at "sc"
theorem sc_Growing_gain:FnScope ["self"] ["self"] (af cf):=by walk_at "sc"
theorem sc_Growing_at_turn:FnScope ["self","turn","start","goal"] ["self","turn"] (af bv):=by walk_at "sc"
theorem fP:FnScope ["self","name","start","goal","loss","high","cost"] ["self","name","start","goal","loss","high","cost"] (af bp):=by walk_at "sc"
theorem fQ:FnScope ["self"] ["self"] (af bq):=by walk_at "sc"
theorem sc_Leaking_at_turn:FnScope ["self","turn","start","goal"] ["self","turn"] (af bu):=by walk_at "sc"
theorem sc_Store_init:FnScope ["self","name","place","loss","high","cost"] ["self","name","place","loss","high","cost"] (af cR):=by walk_at "sc"
theorem gS:FnScope ["self"] ["self"] (af bF):=by walk_at "sc"
theorem sc_Store_at_turn:FnScope ["self","turn","start","goal"] ["self","turn"] (af bS):=by walk_at "sc"
theorem sc_Net_init:FnScope ["self","places","ways"] ["self","places","ways"] (af dN):=by walk_at "sc"
theorem sc_Net_names:FnScope ["self"] ["self"] (af dh):=by walk_at "sc"
theorem sc_Net_want:FnScope ["self","place"] ["self","place"] (af dM):=by walk_at "sc"
theorem sc_Net_way:FnScope ["self","name"] ["self","name"] (af eG):=by walk_at "sc"
theorem sc_Net_all_ways:FnScope ["self"] ["self"] (af ce):=by walk_at "sc"
theorem sc_NoWay_init:FnScope ["self","name"] ["self","name"] (af cm):=by walk_at "sc"
end
end G
open PySem L2 in
local macro_rules | `(tactic| walk_at "kit") => `(tactic| first | exact G.TX.k_Fraction_Fraction (by assumption) | exact G.TX.k_Way_Store (by assumption) | exact G.TX.k_Growing_Store (by assumption) | exact G.TX.k_Leaking_Store (by assumption) | exact G.TX.k_int_bool (by assumption) | exact G.TX.k_dict_dict (by assumption) | exact G.TX.k_int_int (by assumption) | exact G.TX.k_list_list (by assumption) | exact G.TX.k_str_str (by assumption) | exact G.TX.k_tuple_tuple (by assumption))
open PySem L2 in
local macro_rules | `(tactic| walk_at "sm") => `(tactic| first | assumption | (refine And.left (?_ : G.SmR _); assumption) | (refine And.right (?_ : G.SmR _); assumption))
open PySem L2 in
local macro_rules | `(tactic| walk_at "fa") => `(tactic| first | rfl | assumption | exact True.intro | exact (fun _ h => h) | ((with_reducible show L2.TyOf _ _ _ _); first | exact TyOf.int _ | exact TyOf.str _ | exact TyOf.bl _ | exact TyOf.non | exact G.FrAt.ty (G.TX.fr (by assumption)) (by walk_at "fa")) | ((with_reducible show PySem.W.kitOne _ _ _ = _); walk_at "kit") | ((with_reducible show G.FrAt _ _ _ _); apply G.FrAt.up; assumption; walk_at "fa") | ((with_reducible show L2.SqL _ _ _ _); apply Same.seq; assumption; walk_at "fa") | (show (0 : Int) < _; decide) | (refine (And.intro ?_ ?_ : CDiv _ _) <;> decide) | (refine (And.intro ?_ (And.intro ?_ ?_) : CPow _ _) <;> decide) | exact (PySem.IntMulOk.of_right (by decide)) | exact (PySem.IntMulOk.of_left (by decide)) | (refine (And.intro ?_ ?_ : CMulB _ _) <;> walk_at "sm"))
open PySem L2 in
local macro_rules | `(tactic| walk_at "rd") => `(tactic| repeat (first | refine L2.ItVar.mk _ (by walk_at "fa") ?_ | refine L2.ItB.mk _ (by walk_at "fa") ?_ | refine L2.ItTest.mk _ (by walk_at "fa") ?_ | refine L2.IrU.mk _ (by walk_at "fa") ?_ | refine L2.IrI0.mk _ _ (by walk_at "fa") (by walk_at "fa") ?_ | refine L2.ItFld.mk _ _ _ _ _ (by walk_at "fa") (by walk_at "fa") (by walk_at "fa") (by walk_at "fa") (by walk_at "fa") ?_ | apply @Exists.intro V | apply @Exists.intro Int | apply @Exists.intro Addr | apply @Exists.intro Rat | apply @Exists.intro Bool | apply @Exists.intro Value | apply @Exists.intro (List V) | apply @Exists.intro (List (Str × V)) | apply @Exists.intro Str | apply @Exists.intro (List Int) | refine And.intro (by walk_at "fa") ?_ | refine L2.iteT ?_ | refine L2.iteF ?_))
namespace G
open PySem L2
section
variable {P:Program} {w:World} {K:W.Frag} {mg:Str->Option Value} {base:Heap} {a:Ad}
theorem TX.fr (T:TX K mg a):FrC K a.Fraction:=⟨T.cl_Fraction,T.na_Fraction_top,T.na_Fraction_bottom,T.c1_Fraction,T.c2,T.c3,T.c4_Fraction⟩
theorem gcd_turn {a b n m:Int} (h:gcd n m=gcd a b) (hm:0<=m) (p:m≠0):0<=n % m/\n % m<m/\gcd m (n % m)=gcd a b:=
 ⟨Int.emod_nonneg n p,Int.emod_lt_of_pos n (by omega),by rw [gcd_step n m (by omega),h]⟩
theorem cL (T:TX K mg a):FnB P w K mg base CX0 "divisor" 1 ["one","other"] spDiv:=by
 refine T.d_divisor.ok sc_divisor (λ vs H Q E h=>?_) (λ f cdv A outer s H vs Q E hr h=>?_)
 ·obtain ⟨a,b,rfl,_⟩:=h
  rfl
 ·obtain ⟨a,b,rfl,k⟩:=h
  refine ⟨_,(ag (au (i:=0) sc_divisor.nd rfl (Or.inl rfl) (aH call_abs (by rfl) T.z_abs PyProof.Rows.boot_abs (aa (pv 0) ad)))
   (ag (au (i:=1) sc_divisor.nd rfl (Or.inl rfl) (aH call_abs (by rfl) T.z_abs PyProof.Rows.boot_abs (aa (pv 1) ad)))
   (ag (ps_while ix (aG op_ne (pv 1) ae (aM _)) (ag (au (i:=2) sc_divisor.nd rfl (Or.inl rfl) (ak aL (pv 0) (pv 1)))
   (ag (au (i:=0) sc_divisor.nd rfl (Or.inl rfl) (pv 1))
   (ah (au (i:=1) sc_divisor.nd rfl (Or.inl rfl) (pv 2))))))
   (ah (aw (pv 0)))))),?_⟩
  try dsimp only [aK,Cx.nox,Cx.wish]
  refine ⟨_,rfl,_,rfl,_,rfl,_,rfl,?_⟩
  refine while_by (λ σ H'=>∃ (n m:Int) (r:Option V),σ=[some (.int n),some (.int m),r]/\H'=H/\0<=n/\0<=m/\gcd n m=gcd a b) (λ σ _=>match σ with | [_,some (.int m),_]=>m.toNat | _=>0) ?_ ?_ ?_
  ·refine ⟨_,_,_,rfl,rfl,?_,?_,gcd_abs a b⟩ <;> split <;> omega
  ·rintro σ H' ⟨n,m,r,rfl,rfl,hn,hm,hg⟩
   refine ⟨_,rfl,rfl,_,rfl,?_⟩
   by_cases z:m=0
   ·subst z
    refine iteNS rfl ?_
    refine ⟨_,rfl,?_⟩
    rw [gcd_zero n hn] at hg
    rw [hg]
    exact k
   ·refine iteC (by rw [neV z];rfl) ?_
    obtain ⟨g1,g2,g3⟩:=gcd_turn hg hm z
    refine ⟨_,rfl,_,rfl,_,_,rfl,rfl,(by show (0:Int)<m;omega),_,rfl,_,rfl,⟨_,_,_,rfl,rfl,hm,g1,g3⟩,?_⟩
    show (n % m).toNat<m.toNat
    omega
  ·rintro σ H' Q1 Q2 hq ⟨v,e,s1,c,ec,q⟩
   exact ⟨v,e,s1,c,ec,hq _ _ q⟩
theorem ok_init (T:TX K mg a):∀ dvs∈[[],[V.int 1]],MkB P w K mg base CX0 a.Fraction 2 ["self","top","bottom"] dvs (spInit a.Fraction):=by
 refine T.i_Fraction.ok sc_Fraction_init (λ vs H Q E h=>?_) (λ f cdv A outer s H vs Q E hr h=>?_)
 ·obtain ⟨p,dx,n,b,rfl,_⟩:=h
  rfl
 ·obtain ⟨p,dx,n,b,rfl,hp,hb,sb,k⟩:=h
  refine ⟨_,(ag (aS (aG dZ (pv 2) ae (aM _)) (ah cj) aE)
   (ag (au (i:=3) sc_Fraction_init.nd rfl (Or.inl rfl) (ay (cL T) hr am (aa (pv 1) (aa (pv 2) ad))))
   (ag (aS (aG gX (pv 2) ae (aM _)) (ah (au (i:=3) sc_Fraction_init.nd rfl (Or.inl rfl) (pe_un un_neg (pv 3)))) aE)
   (ag (dO (pv 0) (ak bh (pv 1) (pv 3)) rfl)
   (ah (dO (pv 0) (ak bh (pv 2) (pv 3)) rfl)))))),?_⟩
  try dsimp only [aK,Cx.nox,Cx.wish]
  refine ⟨_,rfl,rfl,_,rfl,?_⟩
  refine fM (neV hb) ?_
  refine ⟨_,rfl,_,rfl,n,b,rfl,?_⟩
  refine ⟨_,rfl,_,_,rfl,rfl,_,rfl,?_⟩
  obtain ⟨i1,i2⟩:=init_spec n b hb
  have gp:=dl n hb
  have gs:=Sm.gcd_r n hb sb
  have fin:∀ c:Int,c≠0->Sm c->n.fdiv c=(Rat.divInt n b).num->b.fdiv c=((Rat.divInt n b).den:Int)->
    tSeq (sFld K (tVar 0) (tOp (rI CDivB λ i j=>.int (i.fdiv j)) (tVar 1) (tVar 3)) "top") (sFld K (tVar 0) (tOp (rI CDivB λ i j=>.int (i.fdiv j)) (tVar 2) (tVar 3)) "bottom") { nx:=λ _ H'=>Q .non H',rt:=Q } [some (.ref p),some (.int n),some (.int b),some (.int c)] H:=by
   intro c hc hs e1 e2
   refine ⟨_,rfl,_,rfl,_,_,rfl,rfl,⟨hc,hs⟩,_,rfl,p,a.Fraction,dx,_,rfl,hp,T.cl_Fraction,T.na_Fraction_top,(by show 0<1000;decide),?_⟩
   refine ⟨_,rfl,_,rfl,_,_,rfl,rfl,⟨hc,hs⟩,_,rfl,p,a.Fraction,dx,_,rfl,ac,T.cl_Fraction,T.na_Fraction_bottom,(by show 1<1000;decide),?_⟩
   refine k _ ?_
   rw [upd_upd]
   dsimp only
   rw [e1,e2,ff_new]
  refine ifB (λ hn=>?_) (λ hn=>?_)
  ·rw [if_pos hn] at i1 i2
   refine ⟨_,rfl,_,rfl,?_⟩
   exact fin _ (by omega) (gs.le (by omega)) i1 i2
  ·rw [if_neg hn] at i1 i2
   exact fin _ (by omega) gs i1 i2
theorem sm1:Sm 1:=Nat.one_lt_two_pow (by decide)
theorem mk2 (T:TX K mg a):MkB P w K mg base CX0 a.Fraction 2 ["self","top","bottom"] [] (spInit a.Fraction):=ok_init T _ (by simp)
theorem mk1 (T:TX K mg a):MkB P w K mg base CX0 a.Fraction 2 ["self","top","bottom"] [.int 1] (spInit a.Fraction):=ok_init T _ (by simp)
theorem cq (T:TX K mg a):FnB P w K mg base CX0 "in_lowest_terms" 4 ["top","bottom"] (spLow a.Fraction):=by
 refine T.d_in_lowest_terms.ok sc_in_lowest_terms (λ vs H Q E h=>?_) (λ f cdv A outer s H vs Q E hr h=>?_)
 ·obtain ⟨t,b,rfl,_⟩:=h
  rfl
 ·obtain ⟨t,b,rfl,k⟩:=h
  refine ⟨_,(ag (au (i:=2) sc_in_lowest_terms.nd rfl (Or.inl rfl) (cn (mk1 T) hr T.mg_Fraction am (aa ae ad)))
   (ag (dO (pv 2) (pv 0) rfl)
   (ag (dO (pv 2) (pv 1) rfl)
   (ah (aw (pv 2)))))),?_⟩
  try dsimp only [aK,Cx.nox,Cx.wish]
  refine ⟨0,1,rfl,by decide,sm1,λ x H1 nx s1 ⟨dx,hx⟩=>?_⟩
  refine ⟨_,rfl,_,rfl,x,a.Fraction,dx,_,rfl,hx,T.cl_Fraction,T.na_Fraction_top,(by show 2<1000;decide),?_⟩
  refine ⟨_,rfl,_,rfl,x,a.Fraction,dx,_,rfl,ac,T.cl_Fraction,T.na_Fraction_bottom,(by show 2<1000;decide),?_⟩
  refine ⟨_,rfl,?_⟩
  refine k x dx _ nx (λ c o e=>?_) ?_
  ·rw [ai (av e nx),ai (av e nx)]
   exact s1 _ _ e
  ·rw [ac,ff_put]
noncomputable abbrev always:Rat->Rat->Prop:=λ _ _=>True
theorem ok_plus (T:TX K mg a):MtB P w K mg base CX0 a.Fraction "plus" 5 ["self","other"] (spR2 a.Fraction (λ x y=>x+y) always):=by
 refine T.m_Fraction_plus.ok sc_Fraction_plus (λ vs H Q E h=>?_) (λ f cdv A outer s H vs Q E hr h=>?_)
 ·obtain ⟨p,q,x,y,rfl,_⟩:=h
  rfl
 ·obtain ⟨p,q,x,y,rfl,hp,hq,sx,sy,_,k⟩:=h
  refine ⟨_,(ag (au (i:=2) sc_Fraction_plus.nd rfl (Or.inl rfl) (ay (cL T) hr am (aa (cK T.fr (pv 0)) (aa (cK T.fr (pv 1)) ad))))
   (ag (au (i:=3) sc_Fraction_plus.nd rfl (Or.inl rfl) (ak bh (cK T.fr (pv 0)) (pv 2)))
   (ag (au (i:=4) sc_Fraction_plus.nd rfl (Or.inl rfl) (ak aJ (ak aQ (dn T.fr (pv 0)) (ak bh (cK T.fr (pv 1)) (pv 2))) (ak aQ (dn T.fr (pv 1)) (pv 3))))
   (ag (au (i:=5) sc_Fraction_plus.nd rfl (Or.inl rfl) (ay (cL T) hr am (aa (pv 4) (aa (pv 2) ad))))
   (ah (aw (ay (cq T) hr am (aa (ak bh (pv 4) (pv 5)) (aa (ak aQ (pv 3) (ak bh (cK T.fr (pv 1)) (pv 5))) ad))))))))),?_⟩
  try dsimp only [aK,Cx.nox,Cx.wish]
  have hx:=den_ne x
  have hy:=den_ne y
  have xp:=e7 x
  have yp:=e7 y
  have gp:=dl (x.den:Int) hy
  have gs:=Sm.gcd_r (x.den:Int) hy sy.2
  have gn:gcd x.den y.den≠0:=by omega
  have so:Sm ((x.den:Int).fdiv (gcd x.den y.den)):=sx.2.le (eY _ gp (by omega))
  have so2:Sm ((y.den:Int).fdiv (gcd x.den y.den)):=sy.2.le (eY _ gp (by omega))
  refine ⟨_,rfl,p,x,rfl,hp,_,rfl,q,y,rfl,hq,_,_,rfl,?_⟩
  refine ⟨_,rfl,p,x,rfl,hp,_,rfl,_,_,rfl,rfl,⟨by omega,gs⟩,?_⟩
  refine ⟨_,rfl,p,x,rfl,hp,_,rfl,q,y,rfl,hq,_,rfl,_,_,rfl,rfl,⟨by omega,gs⟩,_,_,rfl,rfl,⟨sx.1,so2⟩,_,rfl,q,y,rfl,hq,_,rfl,_,_,rfl,rfl,⟨sy.1,so⟩,_,_,rfl,rfl,?_⟩
  refine ⟨_,rfl,_,rfl,_,_,rfl,?_⟩
  generalize htop:x.num*(y.den:Int).fdiv (gcd x.den y.den)+y.num*(x.den:Int).fdiv (gcd x.den y.den)=top
  have lp:=dl top gn
  have ls:=Sm.gcd_r top gn gs
  refine ⟨_,rfl,_,rfl,_,_,rfl,rfl,⟨by omega,ls⟩,_,rfl,_,rfl,q,y,rfl,hq,_,rfl,_,_,rfl,rfl,⟨by omega,ls⟩,_,_,rfl,rfl,⟨so,sy.2.le (eY _ lp (by omega))⟩,_,_,rfl,?_⟩
  intro r dx H' nr s1 h1
  obtain ⟨e1,e2⟩:=add_spec x y
  try dsimp only at e1 e2
  rw [htop] at e1 e2
  refine k r H' nr s1 ⟨dx,?_⟩
  show H' r=some (.ins a.Fraction dx (ff (x+y).num (x+y).den))
  try rw [htop] at h1
  rw [h1,<- e1,<- e2]
theorem ok_minus (T:TX K mg a):MtB P w K mg base CX0 a.Fraction "minus" 6 ["self","other"] (spR2 a.Fraction (λ x y=>x-y) always):=by
 refine T.m_Fraction_minus.ok gW (λ vs H Q E h=>?_) (λ f cdv A outer s H vs Q E hr h=>?_)
 ·obtain ⟨p,q,x,y,rfl,_⟩:=h
  rfl
 ·obtain ⟨p,q,x,y,rfl,hp,hq,sx,sy,_,k⟩:=h
  refine ⟨_,(ah (aw (pe_frm T.fr (pv 0) (ok_plus T) hr am (aa (ay (cq T) hr am (aa (pe_un un_neg (dn T.fr (pv 1))) (aa (cK T.fr (pv 1)) ad))) ad)))),?_⟩
  try dsimp only [aK,Cx.nox,Cx.wish]
  refine ⟨_,rfl,p,x,rfl,hp,_,rfl,q,y,rfl,hq,_,rfl,_,rfl,q,y,rfl,hq,_,_,rfl,λ r dx H1 nr s1 h1=>?_⟩
  have f1:FrAt a.Fraction H1 r (-y):=⟨dx,h1⟩
  refine ⟨p,r,x,-y,rfl,hp.mono s1,f1,sx,⟨by show Sm (-y.num);exact sy.1.le (by omega),sy.2⟩,trivial,λ r' H2 nr' s2 f2=>?_⟩
  refine k r' H2 (s1.free nr') (s1.trans s2) ?_
  show FrAt a.Fraction H2 r' (x-y)
  rw [Rat.sub_eq_add_neg]
  exact f2
theorem ok_times (T:TX K mg a):MtB P w K mg base CX0 a.Fraction "times" 5 ["self","other"] (spR2 a.Fraction (λ x y=>x*y) always):=by
 refine T.m_Fraction_times.ok sc_Fraction_times (λ vs H Q E h=>?_) (λ f cdv A outer s H vs Q E hr h=>?_)
 ·obtain ⟨p,q,x,y,rfl,_⟩:=h
  rfl
 ·obtain ⟨p,q,x,y,rfl,hp,hq,sx,sy,_,k⟩:=h
  refine ⟨_,(ag (au (i:=2) sc_Fraction_times.nd rfl (Or.inl rfl) (ay (cL T) hr am (aa (dn T.fr (pv 0)) (aa (cK T.fr (pv 1)) ad))))
   (ag (au (i:=3) sc_Fraction_times.nd rfl (Or.inl rfl) (ay (cL T) hr am (aa (dn T.fr (pv 1)) (aa (cK T.fr (pv 0)) ad))))
   (ag (au (i:=4) sc_Fraction_times.nd rfl (Or.inl rfl) (ak aQ (ak bh (dn T.fr (pv 0)) (pv 2)) (ak bh (dn T.fr (pv 1)) (pv 3))))
   (ah (aw (ay (cq T) hr am (aa (pv 4) (aa (ak aQ (ak bh (cK T.fr (pv 0)) (pv 3)) (ak bh (cK T.fr (pv 1)) (pv 2))) ad)))))))),?_⟩
  try dsimp only [aK,Cx.nox,Cx.wish]
  have hx:=den_ne x
  have hy:=den_ne y
  have xp:=e7 x
  have yp:=e7 y
  have p1:=dl x.num hy
  have p2:=dl y.num hx
  have s1:=Sm.gcd_r x.num hy sy.2
  have s2:=Sm.gcd_r y.num hx sx.2
  have t1:Sm (x.num.fdiv (gcd x.num y.den)):=sx.1.le (fdiv_le' _ p1 (gcd_dvd_l _ _))
  have t2:Sm (y.num.fdiv (gcd y.num x.den)):=sy.1.le (fdiv_le' _ p2 (gcd_dvd_l _ _))
  have t3:Sm ((x.den:Int).fdiv (gcd y.num x.den)):=sx.2.le (eY _ p2 (by omega))
  have t4:Sm ((y.den:Int).fdiv (gcd x.num y.den)):=sy.2.le (eY _ p1 (by omega))
  refine ⟨_,rfl,p,x,rfl,hp,_,rfl,q,y,rfl,hq,_,_,rfl,?_⟩
  refine ⟨_,rfl,q,y,rfl,hq,_,rfl,p,x,rfl,hp,_,_,rfl,?_⟩
  refine ⟨_,rfl,p,x,rfl,hp,_,rfl,_,_,rfl,rfl,⟨by omega,s1⟩,_,rfl,q,y,rfl,hq,_,rfl,_,_,rfl,rfl,⟨by omega,s2⟩,_,_,rfl,rfl,⟨t1,t2⟩,?_⟩
  refine ⟨_,rfl,_,rfl,p,x,rfl,hp,_,rfl,_,_,rfl,rfl,⟨by omega,s2⟩,_,rfl,q,y,rfl,hq,_,rfl,_,_,rfl,rfl,⟨by omega,s1⟩,_,_,rfl,rfl,⟨t3,t4⟩,_,_,rfl,?_⟩
  intro r dx H' nr s1 h1
  obtain ⟨e1,e2⟩:=mul_spec x y
  refine k r H' nr s1 ⟨dx,?_⟩
  show H' r=some (.ins a.Fraction dx (ff (x*y).num (x*y).den))
  rw [h1,<- e1,<- e2]
noncomputable def spB2 (C:Addr) (f:Rat->Rat->Bool):Sp:=λ vs H Q _=>∃ (p q:Addr) (x y:Rat),vs=[.ref p,.ref q]/\FrAt C H p x/\FrAt C H q y/\SmR x/\SmR y/\Q (.bl (f x y)) H
theorem ok_under (T:TX K mg a):MtB P w K mg base CX0 a.Fraction "under" 1 ["self","other"] (spB2 a.Fraction λ x y=>decide (x<y)):=by
 refine T.m_Fraction_under.ok gU (λ vs H Q E h=>?_) (λ f cdv A outer s H vs Q E hr h=>?_)
 ·obtain ⟨p,q,x,y,rfl,_⟩:=h
  rfl
 ·obtain ⟨p,q,x,y,rfl,hp,hq,sx,sy,k⟩:=h
  refine ⟨_,(ah (aw (pe_cmpR gX (ak aQ (dn T.fr (pv 0)) (cK T.fr (pv 1))) (ak aQ (dn T.fr (pv 1)) (cK T.fr (pv 0))) (aM _)))),?_⟩
  try dsimp only [aK,Cx.nox,Cx.wish]
  walk_at "rd"
  show Q (.bl (decide (x.num * ↑y.den<y.num * ↑x.den))) H
  rw [decide_eq_decide.mpr (Rat.lt_iff x y).symm]
  exact k
noncomputable def sgn (x:Rat):Int:=if 0<x.num then 1 else if x.num<0 then -1 else 0
theorem ok_sign (T:TX K mg a):MtB P w K mg base CX0 a.Fraction "sign" 1 ["self"] (λ vs H Q _=>∃ (p:Addr) (x:Rat),vs=[.ref p]/\FrAt a.Fraction H p x/\Q (.int (sgn x)) H):=by
 refine T.m_Fraction_sign.ok sc_Fraction_sign (λ vs H Q E h=>?_) (λ f cdv A outer s H vs Q E hr h=>?_)
 ·obtain ⟨p,x,rfl,_⟩:=h
  rfl
 ·obtain ⟨p,x,rfl,hp,k⟩:=h
  refine ⟨_,(ag (aS (aG op_gt (dn T.fr (pv 0)) ae (aM _)) (ah (aw ae)) aE)
   (ag (aS (aG gX (dn T.fr (pv 0)) ae (aM _)) (ah (aw (pe_un un_neg ae))) aE)
   (ah (aw ae)))),?_⟩
  try dsimp only [aK,Cx.nox,Cx.wish]
  walk_at "rd"
  refine ifB (λ h1=>?_) (λ h1=>?_)
  ·rw [show sgn x=1 from if_pos h1] at k
   exact k
  ·walk_at "rd"
   refine ifB (λ h2=>?_) (λ h2=>?_)
   ·rw [show sgn x = -1 from (if_neg h1).trans (if_pos h2)] at k
    walk_at "rd"
    exact k
   ·rw [show sgn x=0 from (if_neg h1).trans (if_neg h2)] at k
    exact k
inductive IspNoWay (a:Ad) (vs:List V) (H:Hp) (Q:VK):Prop
 | mk (e:Addr) (n:Str) (h1:vs=[.ref e,.str n]) (h2:H e=some (XI e a.NoWay none)) (h3:n.length<=1000) (h4:∀ dx,H dx=none->Q .non (upd (upd H e (XI e a.NoWay (some dx))) dx (.xd [("name",.str n)]))):IspNoWay a vs H Q
noncomputable def spNoWay (a:Ad):Sp:=λ vs H Q _=>IspNoWay a vs H Q
theorem b_NoWay (T:TX K mg a):gO P w K mg base "NoWay.__init__" cm ["self","name"] 0 (spNoWay a):=by
 intro f cdv A outer s₀ H vs Q E hr h
 obtain ⟨e,n,rfl,he,hn,k⟩:=h
 refine ⟨_,(ag (aT (pe_binit T.br_NoWay T.bf_NoWay T.mg_GainError (aa (pv 0) (aa (pe_j2 dQ (pe_fv (pv 1))) ad))))
   (ah (ps_xfld (pv 0) (pv 1) rfl))),?_⟩
 try dsimp only [aK,Cx.nox,Cx.wish]
 obtain ⟨fi,hfi⟩:=T.xi_NoWay.fi
 refine ⟨_,rfl,_,rfl,by rw [iK];decide,_,rfl,_,rfl,by rw [iK];omega,_,rfl,?_,e,a.NoWay,none,_,fi,rfl,he,hfi,?_,?_⟩
 ·rw [show ("no such way can be: ":Str).length=20 from by decide +kernel,iK]
  omega
 ·rw [iK]
  show 1<=_
  omega
 ·exact ⟨_,rfl,_,rfl,e,a.NoWay,rfl,he,T.xs_NoWay,T.na_NoWay_name,k⟩
theorem xi_NoWay (T:TX K mg a):XiB P w K mg base a.NoWay 1 ["self","name"] (spNoWay a):=
 T.xi_NoWay.ok sc_NoWay_init (λ vs H Q E h=>by obtain ⟨_,_,rfl,_⟩:=h;rfl) (b_NoWay T)
noncomputable def NoWayE (a:Ad) (H:Hp) (n:Str) (E:XK):Prop:=∀ H' dx,Same H H'->H' dx=some (.xd [("name",.str n)])->E (.ref a.NoWay) (some dx) H'
theorem raise_nw {H:Hp} {n:Str} {E:XK} (hn:n.length<=1000) (k:NoWayE a H n E):([V.str n]:List V).length<=sizeLine/\
  ∀ e,H e=none->spNoWay a ((.ref e::[.str n])++[]) (upd H e (XI e a.NoWay none)) (λ v H2=>v=.non/\∃ d,H2 e=some (XI e a.NoWay d)/\E (.ref a.NoWay) d (del H2 e)) E0:=by
 refine ⟨by rw [iK];show 1<=_;omega,λ e he=>⟨e,n,rfl,ac,hn,λ dx hd=>⟨rfl,some dx,?_,?_⟩⟩⟩
 ·have ne:dx≠e:=λ z=>by rw [z,ac] at hd;cases hd
  rw [ai (Ne.symm ne),ac]
 ·have ne:dx≠e:=λ z=>by rw [z,ac] at hd;cases hd
  have hd':H dx=none:=by rw [ai ne] at hd;exact hd
  refine k _ dx (λ b o eb=>?_) ?_
  ·have n1:=av eb he
   have n2:=av eb hd'
   unfold del
   rw [if_neg n1,ai n2,ai n1,ai n1]
   exact eb
  ·unfold del
   rw [if_neg ne,ac]
structure WayC (K:W.Frag) (C:Addr):Prop where
 cl:Cls K C
 n1:NoAttr K C "name"
 n2:NoAttr K C "start"
 n3:NoAttr K C "goal"
 n4:NoAttr K C "high"
 n5:NoAttr K C "cost"
theorem TX.wW (T:TX K mg a):WayC K a.Way:=⟨T.cl_Way,T.na_Way_name,T.na_Way_start,T.na_Way_goal,T.na_Way_high,T.na_Way_cost⟩
theorem TX.wG (T:TX K mg a):WayC K a.Growing:=⟨T.cl_Growing,T.na_Growing_name,T.na_Growing_start,T.na_Growing_goal,T.na_Growing_high,T.na_Growing_cost⟩
theorem TX.wL (T:TX K mg a):WayC K a.Leaking:=⟨T.cl_Leaking,T.na_Leaking_name,T.na_Leaking_start,T.na_Leaking_goal,T.na_Leaking_high,T.na_Leaking_cost⟩
theorem TX.wS (T:TX K mg a):WayC K a.Store:=⟨T.cl_Store,T.na_Store_name,T.na_Store_start,T.na_Store_goal,T.na_Store_high,T.na_Store_cost⟩
structure W5 (fs:List (Str × V)) (n s g:Str) (vh vc:V):Prop where
 nm:fs.lookup ("name":Str)=some (.str n)
 st:fs.lookup ("start":Str)=some (.str s)
 go:fs.lookup ("goal":Str)=some (.str g)
 hi:fs.lookup ("high":Str)=some vh
 co:fs.lookup ("cost":Str)=some vc
 ga:fs.lookup ("gain":Str)=none
 ou:fs.lookup ("at_turn":Str)=none
 ox:fs.lookup ("out":Str)=none
 len:fs.length<=10
theorem W5.new {n s g:Str} {vh vc:V}:W5 (b5 "cost" vc (b5 "high" vh (b5 "goal" (.str g) (b5 "start" (.str s) (b5 "name" (.str n) []))))) n s g vh vc:=by
 refine ⟨?_,?_,?_,?_,?_,?_,?_,?_,?_⟩
 iterate 8
  simp only [dk]
  (repeat rw [if_neg (by decide +kernel)])
  try rw [if_pos rfl]
  try rfl
 ·have h1:=bZ "cost" vc (b5 "high" vh (b5 "goal" (.str g) (b5 "start" (.str s) (b5 "name" (.str n) []))))
  have h2:=bZ "high" vh (b5 "goal" (.str g) (b5 "start" (.str s) (b5 "name" (.str n) [])))
  have h3:=bZ "goal" (.str g) (b5 "start" (.str s) (b5 "name" (.str n) []))
  have h4:=bZ "start" (.str s) (b5 "name" (.str n) [])
  have h5:=bZ "name" (.str n) []
  simp only [List.length_nil] at h5
  omega
theorem W5.put {fs:List (Str × V)} {n s g:Str} {vh vc v:V} {f:Str} (h:W5 fs n s g vh vc) (hf:f∈(["rate","loss"]:List Str)) (hl:fs.length<=5):W5 (b5 f v fs) n s g vh vc:=by
 have e:∀ x∈(["name","start","goal","high","cost","gain","at_turn","out"]:List Str),x≠f:=by
  intro x hx z
  subst z
  revert hx hf
  simp only [iw,ib,i3]
  rintro (rfl | rfl | rfl | rfl | rfl | rfl | rfl | rfl) (h | h) <;> exact absurd h (by decide +kernel)
 have l:=bZ f v fs
 refine ⟨?_,?_,?_,?_,?_,?_,?_,?_,by omega⟩ <;> rw [dk,if_neg (e _ (by simp))]
 ·exact h.nm
 ·exact h.st
 ·exact h.go
 ·exact h.hi
 ·exact h.co
 ·exact h.ga
 ·exact h.ou
 ·exact h.ox
theorem bA {f:Str} {v:V} {fs:List (Str × V)} {m:Nat} (h:fs.length<=m):(b5 f v fs).length<=m+1:=ie (bZ f v fs) (Nat.succ_le_succ h)
theorem sgn_nn {x:Rat} (h:0<=x.num):¬ sgn x<0:=by
 unfold sgn
 repeat' split
 all_goals omega
theorem sgn_p {x:Rat} (h:0<x.num):¬ sgn x<=0:=by
 unfold sgn
 rw [if_pos h]
 decide
noncomputable def HiOk (C:Addr) (H:Hp) (v:V):Prop:=v=.non∨∃ (q:Addr) (x:Rat),v=.ref q/\FrAt C H q x/\0<=x.num
theorem HiOk.mono {C:Addr} {H H':Hp} {v:V} (h:HiOk C H v) (s:Same H H'):HiOk C H' v:=h.imp id λ⟨q,x,e,f,z⟩=>⟨q,x,e,f.mono s,z⟩
noncomputable def CoIs (C:Addr) (H:Hp) (p:Addr) (vc vc':V):Prop:=(vc≠.non/\vc'=vc)∨(vc=.non/\∃ q,vc'=.ref q/\q≠p/\FrAt C H q (Rat.divInt 0 1))
theorem CoIs.upd {C p:Addr} {H:Hp} {vc vc':V} {o:HO} (h:CoIs C H p vc vc'):CoIs C (upd H p o) p vc vc':=h.imp id λ⟨e,q,e2,ne,dq,f⟩=>⟨e,q,e2,ne,dq,by rw [ai ne];exact f⟩
inductive IspYes (vs:List V) (H:Hp) (Q:VK):Prop
 | mk (p:Addr) (h1:vs=[.ref p]) (h2:Q (.bl true) H):IspYes vs H Q
noncomputable def spYes:Sp:=λ vs H Q _=>IspYes vs H Q
theorem ok_may_stay (T:TX K mg a):MtB P w K mg base CX0 a.Store "may_stay" 1 ["self"] spYes:=by
 refine T.m_Store_may_stay.ok gS (λ vs H Q E h=>?_) (λ f cdv A outer s H vs Q E hr h=>?_)
 ·obtain ⟨p,rfl,_⟩:=h
  rfl
 ·obtain ⟨p,rfl,k⟩:=h
  refine ⟨_,(ah (aw f9)),?_⟩
  try dsimp only [aK,Cx.nox,Cx.wish]
  exact k
inductive IspWayN (K:W.Frag) (a:Ad) (vs:List V) (H:Hp) (Q:VK):Prop
 | mk (p C dx:Addr) (n s g:Str) (vh vc:V) (h1:vs=[.ref p,.str n,.str s,.str g,vh,vc]) (h2:H p=some (.ins C dx [])) (h3:WayC K C) (h4:(s≠g∨C=a.Store)) (h5:HiOk a.Fraction H vh) (h6:∀ H' fs vc',W5 fs n s g vh vc'->fs.length<=5->CoIs a.Fraction H' p vc vc'->(∀ b o,H b=some o->b≠p->H' b=some o)->H' p=some (.ins C dx fs)->Q .non H'):IspWayN K a vs H Q
noncomputable def spWayN (K:W.Frag) (a:Ad):Sp:=λ vs H Q _=>IspWayN K a vs H Q
theorem b_Way (T:TX K mg a):gO P w K mg base "Way.__init__" cJ ["self","name","start","goal","high","cost"] 3 (spWayN K a):=by
 intro f cdv A outer s₀ H vs Q E hr h
 obtain ⟨p,C,dx,n,s,g,vh,vc,rfl,hp,c,sg,hh,k⟩:=h
 refine ⟨_,(aX (aS (PW.pt (pw_and (aG dZ (pv 2) (pv 3) (aM _)) (pw_and1 (e9 (d7 (eU (CX:=CX0) (pv 0) hr am)))))) (ah cj) aE)
   (aX (aS (PW.pt (pw_and (aG op_notN (pv 4) dr (aM _)) (pw_and1 (aG gX (pe_frm0 T.fr (pv 4) (ok_sign T) hr am) ae (aM _))))) (ah cj) aE)
   (ag (dO (pv 0) (pv 1) rfl)
   (ag (dO (pv 0) (pv 2) rfl)
   (ag (dO (pv 0) (pv 3) rfl)
   (ag (dO (pv 0) (pv 4) rfl)
   (ah (dO (pv 0) (pe_ifExp (aG op_isN (pv 5) dr (aM _)) (cn (mk1 T) hr T.mg_Fraction am (aa ae ad)) (pv 5)) rfl)))))))),?_⟩
 try dsimp only [aK,Cx.nox,Cx.wish]
 refine ⟨λ σ' H'=>σ'=[some (.ref p),some (.str n),some (.str s),some (.str g),some vh,some vc]/\H'=H,?_,?_⟩
 ·walk_at "rd"
  by_cases e:s=g
  ·obtain rfl:C=a.Store:=sg.resolve_left λ z=>z e
   refine iteC (iM (i7 V.str e)) ?_
   refine ⟨_,rfl,p,a.Store,dx,[],1,["self"],spYes,rfl,hp,rfl,c.cl,by decide,ok_may_stay T,⟨p,rfl,?_⟩⟩
   walk_at "rd"
   first | exact ⟨rfl,rfl⟩ | exact rfl
  ·refine fM (iF λ z=>e (V.str.inj z)) ?_
   walk_at "rd"
   first | exact ⟨rfl,rfl⟩ | exact rfl
 rintro σ' H' ⟨rfl,rfl⟩
 refine ⟨λ σ' H''=>σ'=[some (.ref p),some (.str n),some (.str s),some (.str g),some vh,some vc]/\H''=H',?_,?_⟩
 ·rcases hh with rfl | ⟨q,x,rfl,fq,hx⟩
  ·walk_at "rd"
   first | exact ⟨rfl,rfl⟩ | exact rfl
  ·walk_at "rd"
   refine fM (iF (sgn_nn hx)) ?_
   first | exact ⟨rfl,rfl⟩ | exact rfl
 rintro σ' H'' ⟨rfl,rfl⟩
 refine ⟨_,rfl,_,rfl,p,C,dx,[],rfl,hp,c.cl,c.n1,by decide,?_⟩
 refine ⟨_,rfl,_,rfl,p,C,dx,_,rfl,ac,c.cl,c.n2,iY (bA (ic 0)) (by decide),?_⟩
 refine ⟨_,rfl,_,rfl,p,C,dx,_,rfl,ac,c.cl,c.n3,iY (bA (bA (ic 0))) (by decide),?_⟩
 refine ⟨_,rfl,_,rfl,p,C,dx,_,rfl,ac,c.cl,c.n4,iY (bA (bA (bA (ic 0)))) (by decide),?_⟩
 simp only [upd_upd]
 walk_at "rd"
 by_cases hc:vc=.non
 ·refine iteC (iM hc) ?_
  walk_at "rd"
  refine ⟨by decide,sm1,λ q H1 nq s1 f1=>?_⟩
  refine ⟨_,rfl,p,C,dx,_,rfl,s1 _ _ ac,c.cl,c.n5,iY (bA (bA (bA (bA (ic 0))))) (by decide),?_⟩
  have nqp:q≠p:=λ z=>by rw [z,ac] at nq;cases nq
  obtain ⟨dq,f1⟩:=f1
  refine k _ _ (.ref q) W5.new (bA (bA (bA (bA (bA (ic 0)))))) (.inr ⟨hc,q,rfl,nqp,dq,by rw [ai nqp];exact f1⟩) (λ b o e nb=>?_) ac
  rw [ai nb]
  refine s1 _ _ ?_
  rw [ai nb]
  exact e
 ·refine fM (iF hc) ?_
  refine ⟨_,rfl,_,rfl,p,C,dx,_,rfl,ac,c.cl,c.n5,iY (bA (bA (bA (bA (ic 0))))) (by decide),?_⟩
  rw [upd_upd]
  refine k _ _ vc W5.new (bA (bA (bA (bA (bA (ic 0)))))) (.inl ⟨hc,rfl⟩) (λ b o e nb=>?_) ac
  rw [ai nb]
  exact e
theorem len_WayN:∀ vs H Q E,spWayN K a vs H Q E->vs.length=(["self","name","start","goal","high","cost"]:List Str).length:=λ vs H Q E h=>by
 obtain ⟨_,_,_,_,_,_,_,_,rfl,_⟩:=h
 rfl
theorem mk_WayN (T:TX K mg a):∀ dvs∈[[],[V.non,V.non]],MkB P w K mg base CX0 a.Way 4 ["self","name","start","goal","high","cost"] dvs (spWayN K a):=T.i_Way.ok sc_Way_init len_WayN (b_Way T)
theorem mk_Way (T:TX K mg a):MkB P w K mg base CX0 a.Way 4 ["self","name","start","goal","high","cost"] [] (spWayN K a):=mk_WayN T _ (by simp)
theorem cf_Way (T:TX K mg a):CfB P w K mg base CX0 a.Way "__init__" 4 ["self","name","start","goal","high","cost"] (spWayN K a):=T.c_Way.ok sc_Way_init len_WayN (b_Way T)
inductive IspPartN (K:W.Frag) (a:Ad) (f:Str) (ok:Rat->Prop) (vs:List V) (H:Hp) (Q:VK):Prop
 | mk (p C dx:Addr) (n s g:Str) (vh vc:V) (q:Addr) (x:Rat) (h1:vs=[.ref p,.str n,.str s,.str g,.ref q,vh,vc]) (h2:H p=some (.ins C dx [])) (h3:WayC K C) (h4:NoAttr K C f) (h5:(s≠g∨C=a.Store)) (h6:FrAt a.Fraction H q x) (h7:ok x) (h8:HiOk a.Fraction H vh) (h9:∀ H' fs vc',W5 fs n s g vh vc'->fs.lookup f=some (.ref q)->CoIs a.Fraction H' p vc vc'->(∀ b o,H b=some o->b≠p->H' b=some o)->H' p=some (.ins C dx fs)->Q .non H'):IspPartN K a f ok vs H Q
noncomputable def dW (K:W.Frag) (a:Ad) (f:Str) (ok:Rat->Prop):Sp:=λ vs H Q _=>IspPartN K a f ok vs H Q
theorem len_PartN {f:Str} {ok:Rat->Prop} {z:Str}:∀ vs H Q E,dW K a f ok vs H Q E->vs.length=(["self","name","start","goal",z,"high","cost"]:List Str).length:=λ vs H Q E h=>by
 obtain ⟨_,_,_,_,_,_,_,_,_,_,rfl,_⟩:=h
 rfl
noncomputable abbrev growOk:Rat->Prop:=λ x=>0<x.num
noncomputable abbrev fb:Rat->Prop:=λ x=>0<=x.num/\x<1/\SmR x
theorem b_Growing (T:TX K mg a):gO P w K mg base "Growing.__init__" bK ["self","name","start","goal","rate","high","cost"] 4 (dW K a "rate" growOk):=by
 intro f cdv A outer s₀ H vs Q E hr h
 obtain ⟨p,C,dx,n,s,g,vh,vc,q,x,rfl,hp,c,nf,sg,fq,hx,hh,k⟩:=h
 refine ⟨_,(ag (aS (aG op_le (pe_frm0 T.fr (pv 4) (ok_sign T) hr am) ae (aM _)) (ah cj) aE)
   (ag (aT (pe_cf (cf_Way T) hr T.mg_Way am (aa (pv 0) (aa (pv 1) (aa (pv 2) (aa (pv 3) (aa (pv 5) (aa (pv 6) ad))))))))
   (ah (dO (pv 0) (pv 4) rfl)))),?_⟩
 try dsimp only [aK,Cx.nox,Cx.wish]
 walk_at "rd"
 refine fM (iF (sgn_p hx)) ?_
 refine ⟨_,rfl,_,rfl,_,rfl,_,rfl,_,rfl,_,rfl,p,C,dx,n,s,g,vh,vc,rfl,hp,c,sg,hh,λ H2 fs vc' h5 hl co hs ho=>?_⟩
 refine ⟨_,rfl,_,rfl,p,C,dx,fs,rfl,ho,c.cl,nf,iY hl (by decide),?_⟩
 refine k _ _ vc' (h5.put (by simp) hl) ?_ co.upd (λ b o e ne=>?_) ac
 ·rw [dk,if_pos rfl]
 ·rw [ai ne]
  exact hs b o e ne
theorem mk_GrowingN (T:TX K mg a):∀ dvs∈[[],[V.non,V.non]],MkB P w K mg base CX0 a.Growing 5 ["self","name","start","goal","rate","high","cost"] dvs (dW K a "rate" growOk):=T.i_Growing.ok sc_Growing_init len_PartN (b_Growing T)
theorem fK (T:TX K mg a):MkB P w K mg base CX0 a.Growing 5 ["self","name","start","goal","rate","high","cost"] [] (dW K a "rate" growOk):=mk_GrowingN T _ (by simp)
theorem b_Leaking (T:TX K mg a):gO P w K mg base "Leaking.__init__" bp ["self","name","start","goal","loss","high","cost"] 4 (dW K a "loss" fb):=by
 intro f cdv A outer s₀ H vs Q E hr h
 obtain ⟨p,C,dx,n,s,g,vh,vc,q,x,rfl,hp,c,nf,sg,fq,⟨hx,hx1,sx⟩,hh,k⟩:=h
 refine ⟨_,(aX (aS (PW.pt (pw_or (aG gX (pe_frm0 T.fr (pv 4) (ok_sign T) hr am) ae (aM _)) (gG (e9 (d7 (pe_frm T.fr (pv 4) (ok_under T) hr am (aa (cn (mk1 T) hr T.mg_Fraction am (aa ae ad)) ad))))))) (ah cj) aE)
   (ag (aT (pe_cf (cf_Way T) hr T.mg_Way am (aa (pv 0) (aa (pv 1) (aa (pv 2) (aa (pv 3) (aa (pv 5) (aa (pv 6) ad))))))))
   (ah (dO (pv 0) (pv 4) rfl)))),?_⟩
 try dsimp only [aK,Cx.nox,Cx.wish]
 refine ⟨λ σ' H'=>σ'=[some (.ref p),some (.str n),some (.str s),some (.str g),some (.ref q),some vh,some vc]/\Same H H',?_,?_⟩
 ·walk_at "rd"
  refine fM (iF (sgn_nn hx)) ?_
  walk_at "rd"
  refine ⟨by decide,sm1,λ r H1 nr s1 f1=>?_⟩
  have e1:Rat.divInt 1 1=1:=rfl
  rw [e1] at f1
  have s2:SmR (1:Rat):=⟨sm1,sm1⟩
  walk_at "rd"
  refine fM (by dsimp only;rw [iM hx1];rfl) ?_
  exact ⟨rfl,s1⟩
 rintro σ' H' ⟨rfl,ss⟩
 refine ⟨_,rfl,_,rfl,_,rfl,_,rfl,_,rfl,_,rfl,p,C,dx,n,s,g,vh,vc,rfl,ss _ _ hp,c,sg,hh.mono ss,λ H2 fs vc' h5 hl co hs ho=>?_⟩
 refine ⟨_,rfl,_,rfl,p,C,dx,fs,rfl,ho,c.cl,nf,iY hl (by decide),?_⟩
 refine k _ _ vc' (h5.put (by simp) hl) ?_ co.upd (λ b o e ne=>?_) ac
 ·rw [dk,if_pos rfl]
 ·rw [ai ne]
  exact hs b o (ss _ _ e) ne
theorem mk_LeakingN (T:TX K mg a):∀ dvs∈[[],[V.non,V.non]],MkB P w K mg base CX0 a.Leaking 5 ["self","name","start","goal","loss","high","cost"] dvs (dW K a "loss" fb):=T.i_Leaking.ok fP len_PartN (b_Leaking T)
theorem eN (T:TX K mg a):MkB P w K mg base CX0 a.Leaking 5 ["self","name","start","goal","loss","high","cost"] [] (dW K a "loss" fb):=mk_LeakingN T _ (by simp)
inductive Kd where
 | way
 | gro
 | lea
 | sto
noncomputable def Kd.n:Kd->Int
 | .way=>0
 | .gro=>1
 | .lea=>2
 | .sto=>3
noncomputable def Kd.C (a:Ad):Kd->Addr
 | .way=>a.Way
 | .gro=>a.Growing
 | .lea=>a.Leaking
 | .sto=>a.Store
noncomputable def Kd.f:Kd->Str
 | .gro=>"rate"
 | _=>"loss"
noncomputable def Kd.ok:Kd->Rat->Prop
 | .way=>λ _=>True
 | .gro=>growOk
 | _=>fb
noncomputable def fg:Kd->Rat->Rat
 | .way=>λ _=>1
 | .gro=>λ x=>x
 | _=>λ x=>1-x
structure WayAt (a:Ad) (H:Hp) (p:Addr) (kd:Kd) (n s g:Str) (vh vc:V) (q:Addr) (x:Rat):Prop where
 ob:∃ dx fs,H p=some (.ins (kd.C a) dx fs)/\W5 fs n s g vh vc/\(kd≠.way->fs.lookup kd.f=some (.ref q))
 fq:kd≠.way->FrAt a.Fraction H q x
noncomputable def Stays (a:Ad) (H H':Hp):Prop:=∀ b C dx fs,(C=a.Fraction∨∃ kd:Kd,C=kd.C a)->H b=some (.ins C dx fs)->H' b=some (.ins C dx fs)
theorem Stays.of {a:Ad} {H H':Hp} (s:Same H H'):Stays a H H':=λ b C dx fs _ e=>s _ _ e
theorem Stays.fr {a:Ad} {H H':Hp} {q:Addr} {x:Rat} (k:Stays a H H') (h:FrAt a.Fraction H q x):FrAt a.Fraction H' q x:=by
 obtain ⟨dq,f⟩:=h
 exact ⟨dq,k _ _ _ _ (.inl rfl) f⟩
theorem WayAt.keep {a:Ad} {H H':Hp} {p:Addr} {kd:Kd} {n s g:Str} {vh vc:V} {q:Addr} {x:Rat} (h:WayAt a H p kd n s g vh vc q x) (k:Stays a H H'):WayAt a H' p kd n s g vh vc q x:=
 ⟨let ⟨dx,fs,e,r⟩:=h.ob;⟨dx,fs,k _ _ _ _ (.inr ⟨kd,rfl⟩) e,r⟩,λ z=>k.fr (h.fq z)⟩
theorem WayAt.mono {a:Ad} {H H':Hp} {p:Addr} {kd:Kd} {n s g:Str} {vh vc:V} {q:Addr} {x:Rat} (h:WayAt a H p kd n s g vh vc q x) (ss:Same H H'):WayAt a H' p kd n s g vh vc q x:=h.keep (.of ss)
theorem Stays.put {a:Ad} {H:Hp} {d:Addr} {o o':HO} (hd:H d=some o) (ho:∀ C dx fs,o≠.ins C dx fs):Stays a H (upd H d o'):=λ b C dx fs _ e=>by rw [ai (bz e hd (ho C dx fs).symm)];exact e
theorem cT (T:TX K mg a) (kd:Kd):WayC K (kd.C a):=by
 cases kd
 ·exact T.wW
 ·exact T.wG
 ·exact T.wL
 ·exact T.wS
noncomputable def NewWay (a:Ad) (H:Hp) (Q:VK) (kd:Kd) (n s g:Str) (vh vc:V) (x:Rat):Prop:=∀ p H' vc' q,H p=none->Same H H'->WayAt a H' p kd n s g vh vc' q x->CoIs a.Fraction H' p vc vc'->Q (.ref p) H'
theorem fj {H H':Hp} {x dx C:Addr} (h1:H x=none) (h2:H dx=none) (h:∀ b o,(upd (upd H dx (.own x)) x (.ins C dx [])) b=some o->b≠x->H' b=some o):Same H H':=by
 intro b o e
 have n1:=av e h1
 refine h b o ?_ n1
 rw [ai n1,ai (av e h2)]
 exact e
theorem fh {H:Hp} {x dx C:Addr} (h1:H x=none) (h2:H dx=none):Same H (upd (upd H dx (.own x)) x (.ins C dx [])):=by
 intro b o e
 rw [ai (av e h1),ai (av e h2)]
 exact e
theorem mkW {H:Hp} {Q:VK} {n s g:Str} {vh vc:V} {x:Rat} (T:TX K mg a) (sg:s≠g) (hh:HiOk a.Fraction H vh) (k:NewWay a H Q .way n s g vh vc x) (p dx:Addr) (h1:H p=none) (h2:H dx=none) (_:dx≠p) :
  spWayN K a [.ref p,.str n,.str s,.str g,vh,vc] (upd (upd H dx (.own p)) p (.ins a.Way dx [])) (λ v H2=>v=.non/\Q (.ref p) H2) E0:=by
 have ss:=fh (C:=a.Way) h1 h2
 refine ⟨p,_,dx,n,s,g,vh,vc,rfl,ac,T.wW,.inl sg,hh.mono ss,λ H' fs vc' h5 hl co hs ho=>⟨rfl,?_⟩⟩
 have s2:=fj h1 h2 hs
 exact k p _ vc' p h1 s2 ⟨⟨dx,fs,ho,h5,λ z=>absurd rfl z⟩,λ z=>absurd rfl z⟩ co
theorem mkG {H:Hp} {Q:VK} {n s g:Str} {vh vc:V} {q:Addr} {x:Rat} (T:TX K mg a) (sg:s≠g) (fq:FrAt a.Fraction H q x) (hx:growOk x) (hh:HiOk a.Fraction H vh) (k:NewWay a H Q .gro n s g vh vc x) (p dx:Addr) (h1:H p=none) (h2:H dx=none) (_:dx≠p) :
  dW K a "rate" growOk [.ref p,.str n,.str s,.str g,.ref q,vh,vc] (upd (upd H dx (.own p)) p (.ins a.Growing dx [])) (λ v H2=>v=.non/\Q (.ref p) H2) E0:=by
 have ss:=fh (C:=a.Growing) h1 h2
 refine ⟨p,_,dx,n,s,g,vh,vc,q,x,rfl,ac,T.wG,T.na_Growing_rate,.inl sg,fq.mono ss,hx,hh.mono ss,λ H' fs vc' h5 hl co hs ho=>⟨rfl,?_⟩⟩
 have s2:=fj h1 h2 hs
 exact k p _ vc' q h1 s2 ⟨⟨dx,fs,ho,h5,λ _=>hl⟩,λ _=>fq.mono s2⟩ co
theorem mkL {H:Hp} {Q:VK} {n s g:Str} {vh vc:V} {q:Addr} {x:Rat} (T:TX K mg a) (sg:s≠g) (fq:FrAt a.Fraction H q x) (hx:fb x) (hh:HiOk a.Fraction H vh) (k:NewWay a H Q .lea n s g vh vc x) (p dx:Addr) (h1:H p=none) (h2:H dx=none) (_:dx≠p) :
  dW K a "loss" fb [.ref p,.str n,.str s,.str g,.ref q,vh,vc] (upd (upd H dx (.own p)) p (.ins a.Leaking dx [])) (λ v H2=>v=.non/\Q (.ref p) H2) E0:=by
 have ss:=fh (C:=a.Leaking) h1 h2
 refine ⟨p,_,dx,n,s,g,vh,vc,q,x,rfl,ac,T.wL,T.na_Leaking_loss,.inl sg,fq.mono ss,hx,hh.mono ss,λ H' fs vc' h5 hl co hs ho=>⟨rfl,?_⟩⟩
 have s2:=fj h1 h2 hs
 exact k p _ vc' q h1 s2 ⟨⟨dx,fs,ho,h5,λ _=>hl⟩,λ _=>fq.mono s2⟩ co
inductive IspGain (a:Ad) (kd:Kd) (vs:List V) (H:Hp) (Q:VK):Prop
 | mk (p:Addr) (n s g:Str) (vh vc:V) (q:Addr) (x:Rat) (h1:vs=[.ref p]) (h2:WayAt a H p kd n s g vh vc q x) (h3:SmR x) (h4:∀ r H',Same H H'->FrAt a.Fraction H' r (fg kd x)->Q (.ref r) H'):IspGain a kd vs H Q
noncomputable def f8 (a:Ad) (kd:Kd):Sp:=λ vs H Q _=>IspGain a kd vs H Q
theorem g6 {kd:Kd}:∀ vs H Q E,f8 a kd vs H Q E->vs.length=(["self"]:List Str).length:=λ vs H Q E h=>by
 obtain ⟨_,_,_,_,_,_,_,_,rfl,_⟩:=h
 rfl
theorem gain_Way (T:TX K mg a):MtB P w K mg base CX0 a.Way "gain" 7 ["self"] (f8 a .way):=by
 refine T.m_Way_gain.ok sc_Way_gain g6 (λ f cdv A outer s₀ H vs Q E hr h=>?_)
 obtain ⟨p,n,s,g,vh,vc,q,x,rfl,W,sx,k⟩:=h
 refine ⟨_,(ah (aw (cn (mk1 T) hr T.mg_Fraction am (aa ae ad)))),?_⟩
 try dsimp only [aK,Cx.nox,Cx.wish]
 walk_at "rd"
 exact ⟨by decide,sm1,λ r H1 _ s1 f1=>k r H1 s1 f1⟩
theorem gain_Growing (T:TX K mg a):MtB P w K mg base CX0 a.Growing "gain" 7 ["self"] (f8 a .gro):=by
 refine T.m_Growing_gain.ok sc_Growing_gain g6 (λ f cdv A outer s₀ H vs Q E hr h=>?_)
 obtain ⟨p,n,s,g,vh,vc,q,x,rfl,W,sx,k⟩:=h
 refine ⟨_,(ah (aw (aO (pv 0) rfl))),?_⟩
 try dsimp only [aK,Cx.nox,Cx.wish]
 obtain ⟨dx,fs,ho,h5,hl⟩:=W.ob
 exact ⟨_,rfl,p,_,dx,fs,_,rfl,ho,T.wG.cl,T.na_Growing_rate,hl (by nofun),k q H (Same.refl _) (W.fq (by nofun))⟩
theorem b_gainL (T:TX K mg a) (kd:Kd) (C:Addr) (hC:kd.C a=C) (hk:kd≠.way) (hf:kd.f = "loss") (hg:∀ x,fg kd x=1-x) (cl:Cls K C) (nl:NoAttr K C "loss"):gO P w K mg base "Leaking.gain" bq ["self"] 6 (f8 a kd):=by
 intro f cdv A outer s₀ H vs Q E hr h
 obtain ⟨p,n,s,g,vh,vc,q,x,rfl,W,sx,k⟩:=h
 refine ⟨_,(ah (aw (pe_frm T.fr (cn (mk1 T) hr T.mg_Fraction am (aa ae ad)) (ok_minus T) hr am (aa (aO (pv 0) rfl) ad)))),?_⟩
 try dsimp only [aK,Cx.nox,Cx.wish]
 obtain ⟨dx,fs,ho,h5,hl⟩:=W.ob
 have hl:=hl hk
 rw [hf] at hl
 rw [hC] at ho
 walk_at "rd"
 refine ⟨by decide,sm1,λ r H1 nr s1 f1=>?_⟩
 have e1:Rat.divInt 1 1=1:=rfl
 rw [e1] at f1
 have s2:SmR (1:Rat):=⟨sm1,sm1⟩
 have ho1:=s1 _ _ ho
 have fq1:=(W.fq hk).mono s1
 walk_at "rd"
 intro r2 H2 nr2 s22 f2
 refine k r2 H2 (s1.trans s22) ?_
 rw [hg]
 exact f2
theorem gain_Leaking (T:TX K mg a):MtB P w K mg base CX0 a.Leaking "gain" 7 ["self"] (f8 a .lea):=T.m_Leaking_gain.ok fQ g6 (b_gainL T .lea _ rfl (by nofun) rfl (λ _=>rfl) T.wL.cl T.na_Leaking_loss)
theorem gain_Store (T:TX K mg a):MtB P w K mg base CX0 a.Store "gain" 7 ["self"] (f8 a .sto):=T.m_Store_gain.ok fQ g6 (b_gainL T .sto _ rfl (by nofun) rfl (λ _=>rfl) T.wS.cl T.na_Store_loss)
theorem gain_any (T:TX K mg a) (kd:Kd):MtB P w K mg base CX0 (kd.C a) "gain" 7 ["self"] (f8 a kd):=by
 cases kd
 ·exact gain_Way T
 ·exact gain_Growing T
 ·exact gain_Leaking T
 ·exact gain_Store T
inductive IspOut (a:Ad) (kd:Kd) (vs:List V) (H:Hp) (Q:VK):Prop
 | mk (p r:Addr) (n s g:Str) (vh vc:V) (q:Addr) (x y:Rat) (h1:vs=[.ref p,.ref r]) (h2:WayAt a H p kd n s g vh vc q x) (h3:FrAt a.Fraction H r y) (h4:SmR x) (h5:SmR y) (h6:SmR (fg kd x)) (h7:∀ r' H',Same H H'->FrAt a.Fraction H' r' (y*fg kd x)->Q (.ref r') H'):IspOut a kd vs H Q
noncomputable def spOut (a:Ad) (kd:Kd):Sp:=λ vs H Q _=>IspOut a kd vs H Q
theorem len_Out {kd:Kd}:∀ vs H Q E,spOut a kd vs H Q E->vs.length=(["self","amount"]:List Str).length:=λ vs H Q E h=>by
 obtain ⟨_,_,_,_,_,_,_,_,_,_,rfl,_⟩:=h
 rfl
theorem b_out (T:TX K mg a) (kd:Kd):gO P w K mg base "Way.out" cA ["self","amount"] 7 (spOut a kd):=by
 intro f cdv A outer s₀ H vs Q E hr h
 obtain ⟨p,r,n,s,g,vh,vc,q,x,y,rfl,W,fr,sx,sy,sg,k⟩:=h
 refine ⟨_,(ah (aw (pe_frm T.fr (pv 1) (ok_times T) hr am (aa (eU (CX:=CX0) (pv 0) hr am) ad)))),?_⟩
 try dsimp only [aK,Cx.nox,Cx.wish]
 obtain ⟨dx,fs,ho,h5,hl⟩:=W.ob
 refine ⟨_,rfl,r,y,rfl,fr,_,rfl,p,kd.C a,dx,fs,7,["self"],f8 a kd,rfl,ho,h5.ga,(cT T kd).cl,by decide,gain_any T kd,p,n,s,g,vh,vc,q,x,rfl,W,sx,λ r1 H1 s1 f1=>?_⟩
 exact ⟨r,r1,y,_,rfl,fr.mono s1,f1,sy,sg,trivial,λ r2 H2 _ s2 f2=>k r2 H2 (s1.trans s2) f2⟩
theorem out_any (T:TX K mg a) (kd:Kd):MtB P w K mg base CX0 (kd.C a) "out" 8 ["self","amount"] (spOut a kd):=by
 cases kd
 ·exact T.m_Way_out.ok fG len_Out (b_out T _)
 ·exact T.m_Growing_out.ok fG len_Out (b_out T _)
 ·exact T.m_Leaking_out.ok fG len_Out (b_out T _)
 ·exact T.m_Store_out.ok fG len_Out (b_out T _)
theorem cf_Leaking (T:TX K mg a):CfB P w K mg base CX0 a.Leaking "__init__" 5 ["self","name","start","goal","loss","high","cost"] (dW K a "loss" fb):=T.c_Leaking.ok fP len_PartN (b_Leaking T)
inductive IspStoreN (a:Ad) (vs:List V) (H:Hp) (Q:VK):Prop
 | mk (p dx:Addr) (n s:Str) (vh vc:V) (q:Addr) (x:Rat) (h1:vs=[.ref p,.str n,.str s,.ref q,vh,vc]) (h2:H p=some (.ins a.Store dx [])) (h3:FrAt a.Fraction H q x) (h4:fb x) (h5:HiOk a.Fraction H vh) (h6:∀ H' fs vc',W5 fs n s s vh vc'->fs.lookup ("loss":Str)=some (.ref q)->CoIs a.Fraction H' p vc vc'->(∀ b o,H b=some o->b≠p->H' b=some o)->H' p=some (.ins a.Store dx fs)->Q .non H'):IspStoreN a vs H Q
noncomputable def spStoreN (a:Ad):Sp:=λ vs H Q _=>IspStoreN a vs H Q
theorem mk_StoreN (T:TX K mg a):∀ dvs∈[[],[V.non,V.non]],MkB P w K mg base CX0 a.Store 6 ["self","name","place","loss","high","cost"] dvs (spStoreN a):=by
 refine T.i_Store.ok sc_Store_init (λ vs H Q E h=>?_) (λ f cdv A outer s₀ H vs Q E hr h=>?_)
 ·obtain ⟨_,_,_,_,_,_,_,_,rfl,_⟩:=h
  rfl
 ·obtain ⟨p,dx,n,s,vh,vc,q,x,rfl,hp,fq,hx,hh,k⟩:=h
  refine ⟨_,(ah (aT (pe_cf (cf_Leaking T) hr T.mg_Leaking am (aa (pv 0) (aa (pv 1) (aa (pv 2) (aa (pv 2) (aa (pv 3) (aa (pv 4) (aa (pv 5) ad)))))))))),?_⟩
  try dsimp only [aK,Cx.nox,Cx.wish]
  refine ⟨_,rfl,_,rfl,_,rfl,_,rfl,_,rfl,_,rfl,_,rfl,p,a.Store,dx,n,s,s,vh,vc,q,x,rfl,hp,T.wS,T.na_Store_loss,.inr rfl,fq,hx,hh,λ H' fs vc' h5 hl co hs ho=>?_⟩
  exact k H' fs vc' h5 hl co hs ho
theorem mkS {H:Hp} {Q:VK} {n s:Str} {vh vc:V} {q:Addr} {x:Rat} (T:TX K mg a) (fq:FrAt a.Fraction H q x) (hx:fb x) (hh:HiOk a.Fraction H vh) (k:NewWay a H Q .sto n s s vh vc x) (p dx:Addr) (h1:H p=none) (h2:H dx=none) (_:dx≠p) :
  spStoreN a [.ref p,.str n,.str s,.ref q,vh,vc] (upd (upd H dx (.own p)) p (.ins a.Store dx [])) (λ v H2=>v=.non/\Q (.ref p) H2) E0:=by
 have ss:=fh (C:=a.Store) h1 h2
 refine ⟨p,dx,n,s,vh,vc,q,x,rfl,ac,fq.mono ss,hx,hh.mono ss,λ H' fs vc' h5 hl co hs ho=>⟨rfl,?_⟩⟩
 have s2:=fj h1 h2 hs
 exact k p _ vc' q h1 s2 ⟨⟨dx,fs,ho,h5,λ _=>hl⟩,λ _=>fq.mono s2⟩ co
structure WD where
 nm:Str
 st:Str
 go:Str
 kd:Kd
 x:Rat
 hi:Option Rat
 co:Rat
noncomputable def HiT (a:Ad) (H:Hp) (v:V):Option Rat->Prop
 | none=>v=.non
 | some x=>∃ q,v=.ref q/\FrAt a.Fraction H q x
theorem HiT.mono {H H':Hp} {v:V} {o:Option Rat} (h:HiT a H v o) (s:Same H H'):HiT a H' v o:=by
 cases o with
 | none=>exact h
 | some x=>exact let ⟨q,e,f⟩:=h;⟨q,e,f.mono s⟩
theorem HiT.keep {H H':Hp} {v:V} {o:Option Rat} (h:HiT a H v o) (s:Stays a H H'):HiT a H' v o:=by
 cases o with
 | none=>exact h
 | some x=>exact let ⟨q,e,f⟩:=h;⟨q,e,s.fr f⟩
noncomputable def WayIs (a:Ad) (H:Hp) (v:V) (d:WD):Prop:=∃ p vh vc q,v=.ref p/\WayAt a H p d.kd d.nm d.st d.go vh vc q d.x/\d.kd≠.sto/\(∃ qc,vc=.ref qc/\FrAt a.Fraction H qc d.co)/\HiT a H vh d.hi
theorem WayIs.mono {H H':Hp} {v:V} {d:WD} (h:WayIs a H v d) (s:Same H H'):WayIs a H' v d:=by
 obtain ⟨p,vh,vc,q,e,W,k,⟨qc,ec,fc⟩,hh⟩:=h
 exact ⟨p,vh,vc,q,e,W.mono s,k,⟨qc,ec,fc.mono s⟩,hh.mono s⟩
noncomputable def RowAt {α:Type} (R:Hp->V->α->Prop) (H:Hp) (ts:List V) (xs:List α):Prop:=ts.length=xs.length/\∀ (i:Nat) (t:V) (x:α),ts[i]?=some t->xs[i]?=some x->R H t x
theorem RowAt.mono {α:Type} {R:Hp->V->α->Prop} {H H':Hp} {ts:List V} {xs:List α} (hR:∀ v x,R H v x->R H' v x) (h:RowAt R H ts xs):RowAt R H' ts xs:=⟨h.1,λ i t x h1 h2=>hR t x (h.2 i t x h1 h2)⟩
theorem RowAt.nil {α:Type} {R:Hp->V->α->Prop} {H:Hp}:RowAt R H [] []:=⟨rfl,λ i t x h=>by simp at h⟩
theorem RowAt.snoc {α:Type} {R:Hp->V->α->Prop} {H:Hp} {ts:List V} {xs:List α} {t:V} {x:α} (d:RowAt R H ts xs) (hf:R H t x):RowAt R H (ts++[t]) (xs++[x]):=by
 refine ⟨by rw [ir,ir,d.1];rfl,λ i u z h1 h2=>?_⟩
 by_cases hi:i<ts.length
 ·rw [jr hi] at h1
  rw [jr (by rw [<- d.1];exact hi)] at h2
  exact d.2 i u z h1 h2
 ·rw [jc (by omega)] at h1
  rw [jc (by rw [<- d.1];omega),<- d.1] at h2
  have hz:i-ts.length=0:=by
   have:=(hV.mp h1).1
   simp at this
   omega
  rw [hz] at h1 h2
  simp at h1 h2
  subst h1 h2
  exact hf
theorem RowAt.get {α:Type} {R:Hp->V->α->Prop} {H:Hp} {ts:List V} {xs:List α} {i:Nat} {t:V} (d:RowAt R H ts xs) (h:ts[i]?=some t):∃ x,xs[i]?=some x/\R H t x:=by
 have hi:i<xs.length:=by rw [<- d.1];exact (hV.mp h).1
 exact ⟨xs[i],ii hi,d.2 i t _ h (ii hi)⟩
theorem RowAt.get' {α:Type} {R:Hp->V->α->Prop} {H:Hp} {ts:List V} {xs:List α} {i:Nat} {x:α} (d:RowAt R H ts xs) (h:xs[i]?=some x):∃ t,ts[i]?=some t/\R H t x:=by
 have hi:i<ts.length:=by rw [d.1];exact (hV.mp h).1
 exact ⟨ts[i],ii hi,d.2 i _ x (ii hi) h⟩
noncomputable def PlIs (a:Ad) (H:Hp) (v:V) (p:Str × Rat):Prop:=∃ t q,v=.ref t/\H t=some (.tup [.str p.1,.ref q])/\FrAt a.Fraction H q p.2
theorem PlIs.mono {H H':Hp} {v:V} {p:Str × Rat} (h:PlIs a H v p) (s:Same H H'):PlIs a H' v p:=by
 obtain ⟨t,q,e,h1,h2⟩:=h
 exact ⟨t,q,e,s _ _ h1,h2.mono s⟩
theorem aj {H:Hp} {d:Addr} {o:HO} (h:H d=none):Same H (upd H d o):=λ b u e=>by rw [ai (av e h)];exact e
theorem aC {H H':Hp} {d:Addr} {o:HO} (h:H d=none) (s:Same H H'):Same H (upd H' d o):=λ b u e=>by rw [ai (av e h)];exact s _ _ e
theorem fX {κ:Type} [DecidableEq κ] {kvs:List (κ × V)} {k:κ} (h:¬ k∈kvs.map (·.1)):bY kvs k=none:=by
 cases e:bY kvs k with
 | none=>rfl
 | some v=>exact absurd (valV_in e) h
theorem val_some {κ:Type} [DecidableEq κ] {kvs:List (κ × V)} {k:κ} (h:k∈kvs.map (·.1)):∃ v,bY kvs k=some v:=by
 cases e:bY kvs k with
 | none=>exact absurd h (valV_not e)
 | some v=>exact ⟨v,rfl⟩
noncomputable def WantsAt (a:Ad) (H:Hp) (d:Addr) (ps:List (Str × Rat)):Prop:=∃ kvs,H d=some (.dK kvs)/\kvs.map (·.1)=ps.map (λ p=>Sum.inr p.1)/\RowAt (λ H v x=>∃ q,v=.ref q/\FrAt a.Fraction H q x) H (kvs.map (·.2)) (ps.map (·.2))
theorem WantsAt.mono {H H':Hp} {d:Addr} {ps:List (Str × Rat)} (h:WantsAt a H d ps) (s:Same H H'):WantsAt a H' d ps:=
 let ⟨kvs,h1,h2,h3⟩:=h;⟨kvs,s _ _ h1,h2,h3.mono λ v x ⟨q,e,f⟩=>⟨q,e,f.mono s⟩⟩
inductive IspWants (K:W.Frag) (a:Ad) (vs:List V) (H:Hp) (Q:VK):Prop
 | mk (l:Addr) (ts:List V) (ps:List (Str × Rat)) (h1:vs=[.ref l]) (h2:SqL K H l ts) (h3:RowAt (PlIs a) H ts ps) (h4:(ps.map (·.1)).Nodup) (h5:ps.length<=1000) (h6:∀ d H',H d=none->Same H H'->WantsAt a H' d ps->Q (.ref d) H'):IspWants K a vs H Q
noncomputable def spWants (K:W.Frag) (a:Ad):Sp:=λ vs H Q _=>IspWants K a vs H Q
theorem ok_wants_by_name (T:TX K mg a):FnB P w K mg base CX0 "wants_by_name" 1 ["places"] (spWants K a):=by
 refine T.d_wants_by_name.ok sc_wants_by_name (λ vs H Q E h=>?_) (λ f cdv A outer s H vs Q E hr h=>?_)
 ·obtain ⟨_,_,_,rfl,_⟩:=h
  rfl
 ·obtain ⟨l,ts,ps,rfl,hS,hp,nd,hlen,k⟩:=h
  refine ⟨_,(ag (au (i:=1) sc_wants_by_name.nd rfl (Or.inl rfl) bL)
   (ag (aR ix rfl (aU (pv 0)) (dm rfl (aF (aq (i:=2) sc_wants_by_name.nd rfl (Or.inl rfl)) (aF (aq (i:=3) sc_wants_by_name.nd rfl (Or.inl rfl)) cG))) (ag (aS (gH (pc_din (aZ hr) (pv 2) (pv 1))) (ah cj) aE)
   (ah (bw (aZ hr) (pv 1) (pv 2) (pv 3) rfl))))
   (ah (aw (pv 1))))),?_⟩
  try dsimp only [aK,Cx.nox,Cx.wish]
  intro d nd0
  have s0:Same H (upd H d (.dK [])):=aj nd0
  refine ⟨_,rfl,l,rfl,⟨_,s0.seq hS⟩,bn (K:=K) (a:=l) (xs:=ts) (λ i σ H2=>i<=ps.length/\∃ z2 z3,σ=[some (.ref l),some (.ref d),z2,z3]/\Same H H2/\WantsAt a H2 d (ps.take i)) ⟨im _,_,_,rfl,s0,[],ac,rfl,RowAt.nil⟩ (λ i σ H2 _ ⟨_,_,_,_,s2,_⟩=>s2.seq hS) ?_ ?_⟩
  ·rintro i t σ H2 ht ⟨hi,z2,z3,rfl,s2,kvs,hd,hk,hv⟩
   obtain ⟨p,ep,t',q,rfl,h1,h2⟩:=hp.get ht
   have hi':i<ps.length:=(hV.mp ep).1
   have nk:¬ (Sum.inr p.1:Key)∈kvs.map (·.1):=by
    rw [hk]
    intro m
    obtain ⟨p',hp',e⟩:=iy.mp m
    have e:p'.1=p.1:=Sum.inr.inj e
    obtain ⟨j,hj⟩:=jj.mp hp'
    have hj2:j<i:=by
     have:=(hV.mp hj).1
     rw [iz] at this
     omega
    rw [List.getElem?_take,if_pos hj2] at hj
    have g1:(ps.map (·.1))[j]?=some p.1:=by rw [iq,hj,jm,e]
    have g2:(ps.map (·.1))[i]?=some p.1:=by rw [iq,ep,jm]
    have:=(List.getElem?_inj (by rw [hZ];omega) nd).mp (g1.trans g2.symm)
    omega
   refine ⟨t',[.str p.1,.ref q],rfl,SqT.of (s2 _ _ h1),rfl,.str p.1,[.ref q],rfl,⟨.ref q,[],rfl,⟨rfl,?_⟩⟩⟩
   refine ⟨_,rfl,_,rfl,d,_,rfl,DGet.k (k:=Sum.inr p.1) hd,_,rfl,?_⟩
   rw [fX nk]
   refine iteF ?_
   have hl:kvs.length=i:=by
    have:=i7 List.length hk
    rw [hZ,hZ,iz] at this
    omega
   refine ⟨_,rfl,_,rfl,_,rfl,d,_,rfl,DPut.k (k:=Sum.inr p.1) hd (ax (by omega)),?_⟩
   rw [putK_new _ (fX nk)]
   have s3:=aC (o:=.dK (kvs++[(Sum.inr p.1,.ref q)])) nd0 s2
   refine ⟨hi',_,_,rfl,s3,kvs++[(Sum.inr p.1,.ref q)],ac,?_,?_⟩
   ·rw [iu,hk,iH,ep,iE,iu]
    rfl
   ·rw [iu,iH,ep,iE,iu]
    refine RowAt.snoc (hv.mono λ v x ⟨q',e,dq,f⟩=>⟨q',e,dq,?_⟩) ⟨q,rfl,h2.mono s3⟩
    rw [ai (bz f hd (by intro z;cases z))]
    exact f
  ·rintro σ H2 ⟨_,z2,z3,rfl,s2,hw⟩
   rw [hp.1,iB] at hw
   exact ⟨_,rfl,k d H2 nd0 s2 hw⟩
inductive IspCheck (a:Ad) (vs:List V) (H:Hp) (Q:VK):Prop
 | mk (v:V) (d:WD) (da dw:Addr) (ka kw:List (Key × V)) (h1:vs=[v,.ref da,.ref dw]) (h2:WayIs a H v d) (h3:H da=some (.dK ka)) (h4:H dw=some (.dK kw)) (h5:¬ (Sum.inr d.nm:Key)∈ka.map (·.1)) (h6:(Sum.inr d.st:Key)∈kw.map (·.1)) (h7:(Sum.inr d.go:Key)∈kw.map (·.1)) (h8:∀ H',Same H H'->Q .non H'):IspCheck a vs H Q
noncomputable def spCheck (a:Ad):Sp:=λ vs H Q _=>IspCheck a vs H Q
theorem noStore (T:TX K mg a) {kd:Kd} (h:kd≠.sto):PySem.W.kitOne K (.ref (kd.C a)) (.ref a.Store)=some false:=by
 cases kd
 ·exact T.k_Way_Store
 ·exact T.k_Growing_Store
 ·exact T.k_Leaking_Store
 ·exact absurd rfl h
theorem tyWay (T:TX K mg a) {H:Hp} {p dx:Addr} {fs:List (Str × V)} {kd:Kd} (h:H p=some (.ins (kd.C a) dx fs)):TyOf K H (.ref p) (.ref (kd.C a)):=by
 have c:=(cT T kd).cl
 cases kd
 ·exact TyOf.ins h c T.c1_Way T.c2 T.c3 T.c4_Way
 ·exact TyOf.ins h c T.c1_Growing T.c2 T.c3 T.c4_Growing
 ·exact TyOf.ins h c T.c1_Leaking T.c2 T.c3 T.c4_Leaking
 ·exact TyOf.ins h c T.c1_Store T.c2 T.c3 T.c4_Store
theorem ok_check_way (T:TX K mg a):FnB P w K mg base CX0 "check_way" 1 ["way","ahead","wants"] (spCheck a):=by
 refine T.d_check_way.ok sc_check_way (λ vs H Q E h=>?_) (λ f cdv A outer s H vs Q E hr h=>?_)
 ·obtain ⟨_,_,_,_,_,_,rfl,_⟩:=h
  rfl
 ·obtain ⟨v,d,da,dw,ka,kw,rfl,⟨p,vh,vc,q,rfl,W,hk⟩,ha,hw,n1,n2,n3,k⟩:=h
  refine ⟨_,(ag (aS (d7 (aH (d6 (c:=.ref a.Store)) (by rfl) T.z_isinstance i6 (aa (pv 0) (aa (pe_glob (v:=.ref a.Store) (by rfl) T.mg_Store rfl) ad)))) (ah cj) aE)
   (ag (aS (gH (pc_din (aZ hr) (aO (pv 0) rfl) (pv 1))) (ah cj) aE)
   (ah (aR ix rfl (pi_tup (aV (aa (aO (pv 0) rfl) (aa (aO (pv 0) rfl) ad)))) (aq (i:=3) sc_check_way.nd rfl (Or.inl rfl)) (ah (aS (gH (gv (aZ hr) (pv 3) (pv 2))) (ah cj) aE)))))),?_⟩
  try dsimp only [aK,Cx.nox,Cx.wish]
  obtain ⟨dx,fs,ho,h5,_⟩:=W.ob
  have c:=cT T d.kd
  refine ⟨_,rfl,_,_,_,_,rfl,(λ u h=>h),tyWay T ho,noStore T hk.1,_,rfl,iteF ?_⟩
  refine ⟨_,rfl,p,_,dx,fs,_,rfl,ho,c.cl,c.n1,h5.nm,_,rfl,da,_,rfl,DGet.k (k:=Sum.inr d.nm) ha,_,rfl,?_⟩
  rw [fX n1]
  refine iteF ?_
  refine ⟨_,rfl,p,_,dx,fs,_,rfl,ho,c.cl,c.n2,h5.st,_,rfl,p,_,dx,fs,_,rfl,ho,c.cl,c.n3,h5.go,by show 2<=sizeLine;decide,λ t nt=>?_⟩
  have s1:=aj (o:=.tup [.str d.st,.str d.go]) nt
  refine ⟨t,rfl,⟨_,SqT.of ac⟩,for_tup (K:=K) (a:=t) (xs:=[.str d.st,.str d.go]) (λ i σ H2=>∃ z,σ=[some (.ref p),some (.ref da),some (.ref dw),z]/\H2=upd H t (.tup [.str d.st,.str d.go])) ⟨_,rfl,rfl⟩ (λ i σ H2 _ ⟨_,_,e⟩=>by rw [e];exact SqT.of ac) ?_ ?_⟩
  ·rintro i x σ H2 hx ⟨z,rfl,rfl⟩
   have hx:∃ y,x=.str y/\(Sum.inr y:Key)∈kw.map (·.1):=by
    match i,hx with
    | 0,hx=>exact ⟨d.st,(iG hx).symm,n2⟩
    | 1,hx=>exact ⟨d.go,(iG hx).symm,n3⟩
    | i+2,hx=>simp at hx
   obtain ⟨y,rfl,hy⟩:=hx
   obtain ⟨u,hu⟩:=val_some hy
   refine ⟨_,rfl,_,rfl,dw,_,rfl,DGet.k (k:=Sum.inr y) (s1 _ _ hw),_,rfl,?_⟩
   rw [hu]
   exact iteF ⟨_,rfl,rfl⟩
  ·rintro σ H2 ⟨z,rfl,rfl⟩
   exact k _ s1
noncomputable def WaysAt (a:Ad) (H:Hp) (d:Addr) (ds:List WD):Prop:=∃ kvs,H d=some (.dK kvs)/\kvs.map (·.1)=ds.map (λ x=>Sum.inr x.nm)/\RowAt (WayIs a) H (kvs.map (·.2)) ds
theorem WaysAt.mono {H H':Hp} {d:Addr} {ds:List WD} (h:WaysAt a H d ds) (s:Same H H'):WaysAt a H' d ds:=
 let ⟨kvs,h1,h2,h3⟩:=h;⟨kvs,s _ _ h1,h2,h3.mono λ v x z=>z.mono s⟩
inductive IspWaysBy (K:W.Frag) (a:Ad) (vs:List V) (H:Hp) (Q:VK):Prop
 | mk (l dw:Addr) (ts:List V) (ds:List WD) (ps:List (Str × Rat)) (h1:vs=[.ref l,.ref dw]) (h2:SqL K H l ts) (h3:RowAt (WayIs a) H ts ds) (h4:WantsAt a H dw ps) (h5:(ds.map (·.nm)).Nodup) (h6:ds.length<=1000) (h7:(∀ d∈ds,d.st∈ps.map (·.1)/\d.go∈ps.map (·.1))) (h8:∀ d H',H d=none->Same H H'->WaysAt a H' d ds->Q (.ref d) H'):IspWaysBy K a vs H Q
noncomputable def spWaysBy (K:W.Frag) (a:Ad):Sp:=λ vs H Q _=>IspWaysBy K a vs H Q
theorem WayIs.keep {H H':Hp} {v:V} {x:WD} (h:WayIs a H v x) (k:Stays a H H'):WayIs a H' v x:=by
 obtain ⟨p,vh,vc,q,e,W,hk,⟨qc,ec,fc⟩,hh⟩:=h
 exact ⟨p,vh,vc,q,e,W.keep k,hk,⟨qc,ec,k.fr fc⟩,hh.keep k⟩
theorem WayIs.put {H:Hp} {v:V} {x:WD} {d:Addr} {kvs:List (Key × V)} {o:HO} (h:WayIs a H v x) (hd:H d=some (.dK kvs)):WayIs a (upd H d o) v x:=h.keep (.put hd (by intro _ _ _ z;cases z))
theorem nodup_take {α β:Type} {xs:List α} {f:α->β} {i:Nat} {x:α} (nd:(xs.map f).Nodup) (e:xs[i]?=some x):¬ f x∈(xs.take i).map f:=by
 intro m
 obtain ⟨y,hy,ef⟩:=iy.mp m
 obtain ⟨j,hj⟩:=jj.mp hy
 have hi:=(hV.mp e).1
 have hj2:j<i:=by
  have:=(hV.mp hj).1
  rw [iz] at this
  omega
 rw [List.getElem?_take,if_pos hj2] at hj
 have g1:(xs.map f)[j]?=some (f x):=by rw [iq,hj,jm,ef]
 have g2:(xs.map f)[i]?=some (f x):=by rw [iq,e,jm]
 have:=(List.getElem?_inj (by rw [hZ];omega) nd).mp (g1.trans g2.symm)
 omega
theorem inr_mem {n:Str} {ns:List Str}:(Sum.inr n:Key)∈ns.map (λ x=>(Sum.inr x:Key))↔n∈ns:=by
 constructor
 ·intro h
  obtain ⟨y,hy,e⟩:=iy.mp h
  rw [<- Sum.inr.inj e]
  exact hy
 ·exact λ h=>iy.mpr ⟨n,h,rfl⟩
theorem ok_ways_by_name (T:TX K mg a):FnB P w K mg base CX0 "ways_by_name" 2 ["ways","wants"] (spWaysBy K a):=by
 refine T.d_ways_by_name.ok sc_ways_by_name (λ vs H Q E h=>?_) (λ f cdv A outer s H vs Q E hr h=>?_)
 ·obtain ⟨_,_,_,_,_,rfl,_⟩:=h
  rfl
 ·obtain ⟨l,dw,ts,ds,ps,rfl,hS,hp,hw,nd,hlen,hin,k⟩:=h
  refine ⟨_,(ag (au (i:=2) sc_ways_by_name.nd rfl (Or.inl rfl) bL)
   (ag (aR ix rfl (aU (pv 0)) (aq (i:=3) sc_ways_by_name.nd rfl (Or.inl rfl)) (ag (aT (ay (ok_check_way T) hr am (aa (pv 3) (aa (pv 2) (aa (pv 1) ad)))))
   (ah (bw (aZ hr) (pv 2) (aO (pv 3) rfl) (pv 3) rfl))))
   (ah (aw (pv 2))))),?_⟩
  try dsimp only [aK,Cx.nox,Cx.wish]
  intro d nd0
  have s0:Same H (upd H d (.dK [])):=aj nd0
  refine ⟨_,rfl,l,rfl,⟨_,s0.seq hS⟩,bn (K:=K) (a:=l) (xs:=ts) (λ i σ H2=>i<=ds.length/\∃ z3,σ=[some (.ref l),some (.ref dw),some (.ref d),z3]/\Same H H2/\WaysAt a H2 d (ds.take i)) ⟨im _,_,rfl,s0,[],ac,rfl,RowAt.nil⟩ (λ i σ H2 _ ⟨_,_,_,s2,_⟩=>s2.seq hS) ?_ ?_⟩
  ·rintro i t σ H2 ht ⟨hi,z3,rfl,s2,kvs,hd,hk,hv⟩
   obtain ⟨x,ex,hx⟩:=hp.get ht
   have hi':i<ds.length:=(hV.mp ex).1
   have nk:¬ (Sum.inr x.nm:Key)∈kvs.map (·.1):=by
    rw [hk]
    have:=nodup_take (f:=λ z:WD=>(Sum.inr z.nm:Key)) (by
     rw [show (λ z:WD=>(Sum.inr z.nm:Key))=(λ n=>(Sum.inr n:Key)) ∘ (λ z:WD=>z.nm) from rfl,<- iQ]
     exact nd.map _ (λ u v h e=>h (Sum.inr.inj e))) ex
    exact this
   obtain ⟨kw,hkw,ekw,_⟩:=hw.mono s2
   obtain ⟨i1,i2⟩:=hin x (ig ex)
   have ekw':kw.map (·.1)=(ps.map (·.1)).map (λ n=>(Sum.inr n:Key)):=by rw [ekw,iQ];rfl
   refine ⟨_,rfl,_,rfl,_,rfl,t,x,d,dw,kvs,kw,rfl,hx.mono s2,hd,hkw,nk,by rw [ekw'];exact inr_mem.mpr i1,by rw [ekw'];exact inr_mem.mpr i2,λ H3 s3=>?_⟩
   have hd3:=s3 _ _ hd
   have hx3:=hx.mono (s2.trans s3)
   obtain ⟨p,vh,vc,q,rfl,W,hkd⟩:=id hx3
   obtain ⟨dx,fs,ho,h5,_⟩:=W.ob
   have c:=cT T x.kd
   have hl:kvs.length=i:=by
    have:=i7 List.length hk
    rw [hZ,hZ,iz] at this
    omega
   refine ⟨_,rfl,_,rfl,_,rfl,p,_,dx,fs,_,rfl,ho,c.cl,c.n1,h5.nm,d,_,rfl,DPut.k (k:=Sum.inr x.nm) hd3 (ax (by omega)),?_⟩
   rw [putK_new _ (fX nk)]
   have s4:=aC (o:=.dK (kvs++[(Sum.inr x.nm,.ref p)])) nd0 (s2.trans s3)
   refine ⟨hi',_,rfl,s4,kvs++[(Sum.inr x.nm,.ref p)],ac,?_,?_⟩
   ·rw [iu,hk,iH,ex,iE,iu]
    rfl
   ·rw [iu,iH,ex,iE]
    exact RowAt.snoc (hv.mono λ v y z=>(z.mono s3).put hd3) (hx3.put hd3)
  ·rintro σ H2 ⟨_,z3,rfl,s2,hw2⟩
   rw [hp.1,iB] at hw2
   exact ⟨_,rfl,k d H2 nd0 s2 hw2⟩
noncomputable def fsN (dw dy:Addr):List (Str × V):=[("wants",.ref dw),("ways",.ref dy)]
theorem fsN_new (dw dy:Addr):b5 "ways" (.ref dy) (b5 "wants" (.ref dw) [])=fsN dw dy:=by
 show (if ("wants":Str) = "ways" then _ else (("wants":Str),V.ref dw)::[(("ways":Str),V.ref dy)])=fsN dw dy
 rw [if_neg (by decide +kernel)]
 rfl
theorem fsN_w (dw dy:Addr):(fsN dw dy).lookup ("wants":Str)=some (.ref dw):=rfl
theorem fsN_y (dw dy:Addr):(fsN dw dy).lookup ("ways":Str)=some (.ref dy):=by
 show List.lookup ("ways":Str) [(("wants":Str),V.ref dw),("ways",V.ref dy)]=_
 rw [jG,show (("ways":Str) == "wants")=false by decide +kernel]
 rfl
theorem eO (dw dy:Addr) {m:Str} (h1:(m == "wants")=false) (h2:(m == "ways")=false):(fsN dw dy).lookup m=none:=by
 show List.lookup m [(("wants":Str),V.ref dw),("ways",V.ref dy)]=_
 rw [jG,h1,jG,h2]
 rfl
noncomputable def NetAt (a:Ad) (H:Hp) (p:Addr) (ps:List (Str × Rat)) (ds:List WD):Prop:=∃ dx dw dy,H p=some (.ins a.Net dx (fsN dw dy))/\WantsAt a H dw ps/\WaysAt a H dy ds
theorem NetAt.mono {H H':Hp} {p:Addr} {ps:List (Str × Rat)} {ds:List WD} (h:NetAt a H p ps ds) (s:Same H H'):NetAt a H' p ps ds:=by
 obtain ⟨dx,dw,dy,e,h1,h2⟩:=h
 exact ⟨dx,dw,dy,s _ _ e,h1.mono s,h2.mono s⟩
noncomputable def NetNew (a:Ad) (H H':Hp) (p:Addr) (ps:List (Str × Rat)) (ds:List WD):Prop:=∃ dx dw dy,H' p=some (.ins a.Net dx (fsN dw dy))/\WantsAt a H' dw ps/\WaysAt a H' dy ds/\H dw=none/\H dy=none
theorem NetNew.at_ {H H':Hp} {p:Addr} {ps:List (Str × Rat)} {ds:List WD} (h:NetNew a H H' p ps ds):NetAt a H' p ps ds:=by
 obtain ⟨dx,dw,dy,h1,h2,h3,_⟩:=h
 exact ⟨dx,dw,dy,h1,h2,h3⟩
structure NetOk (ps:List (Str × Rat)) (ds:List WD):Prop where
 np:(ps.map (·.1)).Nodup
 lp:ps.length<=12
 nd:(ds.map (·.nm)).Nodup
 ld:ds.length<=24
 io:∀ d∈ds,d.st∈ps.map (·.1)/\d.go∈ps.map (·.1)
inductive IspNetI (K:W.Frag) (a:Ad) (vs:List V) (H:Hp) (Q:VK):Prop
 | mk (p dx lp lw:Addr) (tp tw:List V) (ps:List (Str × Rat)) (ds:List WD) (h1:vs=[.ref p,.ref lp,.ref lw]) (h2:H p=some (.ins a.Net dx [])) (h3:SqL K H lp tp) (h4:RowAt (PlIs a) H tp ps) (h5:SqL K H lw tw) (h6:RowAt (WayIs a) H tw ds) (h7:NetOk ps ds) (h8:∀ H',(∀ b o,H b=some o->b≠p->H' b=some o)->NetNew a H H' p ps ds->Q .non H'):IspNetI K a vs H Q
noncomputable def spNetI (K:W.Frag) (a:Ad):Sp:=λ vs H Q _=>IspNetI K a vs H Q
theorem WantsAt.ins {H:Hp} {d p C dx:Addr} {fs gs:List (Str × V)} {ps:List (Str × Rat)} (h:WantsAt a H d ps) (hp:H p=some (.ins C dx fs)) (hC:C≠a.Fraction):WantsAt a (upd H p (.ins C dx gs)) d ps:=by
 obtain ⟨kvs,h1,h2,h3⟩:=h
 refine ⟨kvs,by rw [ai (bz h1 hp (by intro z;cases z))];exact h1,h2,h3.mono λ v x ⟨q,e,dq,f⟩=>⟨q,e,dq,?_⟩⟩
 rw [ai (bz f hp (by intro z;cases z;exact hC rfl))]
 exact f
theorem Stays.ins {H:Hp} {p C dx:Addr} {fs gs:List (Str × V)} (hp:H p=some (.ins C dx fs)) (hC:C≠a.Fraction/\∀ kd:Kd,C≠kd.C a):Stays a H (upd H p (.ins C dx gs)):=λ b C' dx' fs' h e=>by
 rw [ai (bz e hp λ z=>?_)]
 ·exact e
 ·have ec:=(HO.ins.inj z).1
  rcases h with rfl | ⟨kd,rfl⟩
  ·exact hC.1 ec.symm
  ·exact hC.2 kd ec.symm
theorem WaysAt.ins {H:Hp} {d p C dx:Addr} {fs gs:List (Str × V)} {ds:List WD} (h:WaysAt a H d ds) (hp:H p=some (.ins C dx fs)) (hC:C≠a.Fraction/\∀ kd:Kd,C≠kd.C a):WaysAt a (upd H p (.ins C dx gs)) d ds:=by
 obtain ⟨kvs,h1,h2,h3⟩:=h
 exact ⟨kvs,by rw [ai (bz h1 hp (by intro z;cases z))];exact h1,h2,h3.mono λ v x z=>z.keep (.ins hp hC)⟩
theorem netC (T:TX K mg a):a.Net≠a.Fraction/\∀ kd:Kd,a.Net≠kd.C a:=by
 have w1:a.Net≠a.Fraction:=λ e=>by
  have h:=T.na_Fraction_top
  have h2:=T.m_Fraction_sign
  rw [<- e] at h2
  obtain ⟨f,fd,_,⟨m,_,_⟩,_⟩:=h2
  cases T.no_Net_sign.symm.trans m
 refine ⟨w1,λ kd e=>?_⟩
 have:=T.no_Net_may_stay
 cases kd
 ·obtain ⟨f,fd,_,⟨m,_,_⟩,_⟩:=T.m_Way_may_stay
  rw [show a.Way=a.Net from e.symm] at m
  cases this.symm.trans m
 ·obtain ⟨f,fd,_,⟨m,_,_⟩,_⟩:=T.m_Growing_may_stay
  rw [show a.Growing=a.Net from e.symm] at m
  cases this.symm.trans m
 ·obtain ⟨f,fd,_,⟨m,_,_⟩,_⟩:=T.m_Leaking_may_stay
  rw [show a.Leaking=a.Net from e.symm] at m
  cases this.symm.trans m
 ·obtain ⟨f,fd,_,⟨m,_,_⟩,_⟩:=T.m_Store_may_stay
  rw [show a.Store=a.Net from e.symm] at m
  cases this.symm.trans m
theorem mk_Net (T:TX K mg a):MkB P w K mg base CX0 a.Net 4 ["self","places","ways"] [] (spNetI K a):=by
 refine T.i_Net.ok sc_Net_init (λ vs H Q E h=>?_) (λ f cdv A outer s H vs Q E hr h=>?_) _ (by simp)
 ·obtain ⟨_,_,_,_,_,_,_,_,rfl,_⟩:=h
  rfl
 ·obtain ⟨p,dx,lp,lw,tp,tw,ps,ds,rfl,hp,hS,hP,hL,hW,ok,k⟩:=h
  refine ⟨_,(ag (aS (PW.pt (pw_or (aG op_gt (aH a8 (by rfl) T.z_len iU (aa (pv 1) ad)) (pe_gi T.gi_MOST_PLACES) (aM _)) (gG (aG op_gt (aH a8 (by rfl) T.z_len iU (aa (pv 2) ad)) (pe_gi T.gi_MOST_WAYS) (aM _))))) (ah cj) aE)
   (ag (dO (pv 0) (ay (ok_wants_by_name T) hr am (aa (pv 1) ad)) rfl)
   (ah (dO (pv 0) (ay (ok_ways_by_name T) hr am (aa (pv 2) (aa (aO (pv 0) rfl) ad))) rfl)))),?_⟩
  try dsimp only [aK,Cx.nox,Cx.wish]
  have e1:(tp.length:Int)<=12:=by have:=ok.lp;rw [<- hP.1] at this;omega
  have e2:(tw.length:Int)<=24:=by have:=ok.ld;rw [<- hW.1] at this;omega
  refine ⟨_,rfl,lp,tp,rfl,.inl hS,_,_,rfl,rfl,_,rfl,fM (iF (by omega)) ?_⟩
  refine ⟨_,rfl,lw,tw,rfl,.inl hL,_,_,rfl,rfl,_,rfl,fM (iF (by omega)) ?_⟩
  refine ⟨_,rfl,lp,tp,ps,rfl,hS,hP,ok.np,ie ok.lp (by decide),λ dw H1 n1 s1 hw1=>?_⟩
  have hp1:=s1 _ _ hp
  refine ⟨_,rfl,p,a.Net,dx,[],rfl,hp1,T.cl_Net,T.na_Net_wants,by decide,?_⟩
  have hC:=netC T
  generalize hH2:upd H1 p (.ins a.Net dx (b5 "wants" (.ref dw) []))=H2
  have hp2:H2 p=some (.ins a.Net dx (b5 "wants" (.ref dw) [])):=by rw [<- hH2];exact ac
  have hw2:WantsAt a H2 dw ps:=by rw [<- hH2];exact hw1.ins hp1 hC.1
  have k2:∀ b o,H b=some o->b≠p->H2 b=some o:=λ b o e ne=>by rw [<- hH2,ai ne];exact s1 _ _ e
  have hL2:SqL K H2 lw tw:=by
   rcases hL with (h | ⟨o,h⟩) | h
   ·exact .inl (.inl (k2 _ _ h (bz h hp (by intro z;cases z))))
   ·exact .inl (.inr ⟨o,k2 _ _ h (bz h hp (by intro z;cases z))⟩)
   ·exact .inr h
  have hW2:RowAt (WayIs a) H2 tw ds:=hW.mono λ v x z=>z.keep λ b C' dx' fs' h e=>k2 _ _ e (bz e hp λ y=>by
   have ec:=(HO.ins.inj y).1
   rcases h with rfl | ⟨kd,rfl⟩
   ·exact hC.1 ec.symm
   ·exact hC.2 kd ec.symm)
  refine ⟨_,rfl,_,rfl,p,_,dx,_,_,rfl,hp2,T.cl_Net,T.na_Net_wants,rfl,lw,dw,tw,ds,ps,rfl,hL2,hW2,hw2,ok.nd,ie ok.ld (by decide),ok.io,λ dy H3 n3 s3 hy3=>?_⟩
  have hp3:=s3 _ _ hp2
  refine ⟨_,rfl,p,a.Net,dx,_,rfl,hp3,T.cl_Net,T.na_Net_ways,iY (bA (ic 0)) (by decide),?_⟩
  rw [fsN_new]
  refine k _ (λ b o e ne=>?_) ⟨dx,dw,dy,ac,(hw2.mono s3).ins hp3 hC.1,hy3.ins hp3 hC,n1,?_⟩
  case refine_2=>
   have nyp:dy≠p:=λ z=>by rw [z,hp2] at n3;cases n3
   have:H1 dy=none:=by rw [<- hH2,ai nyp] at n3;exact n3
   exact s1.free this
  rw [ai ne]
  exact s3 _ _ (k2 _ _ e ne)
theorem WaysAt.get {H:Hp} {dy:Addr} {ds:List WD} {d:WD} (h:WaysAt a H dy ds) (nd:(ds.map (·.nm)).Nodup) (hd:d∈ds):∃ kvs v,H dy=some (.dK kvs)/\bY kvs (Sum.inr d.nm)=some v/\WayIs a H v d:=by
 obtain ⟨kvs,h1,h2,h3⟩:=h
 obtain ⟨i,hi⟩:=jj.mp hd
 obtain ⟨t,ht,hw⟩:=h3.get' hi
 have hil:=(hV.mp hi).1
 rw [iq] at ht
 cases e:kvs[i]? with
 | none=>rw [e] at ht;cases ht
 | some kv=>
  rw [e] at ht
  have e2:kv.2=t:=iG ht
  have e1:kv.1=Sum.inr d.nm:=by
   have g1:(kvs.map (·.1))[i]?=some kv.1:=by rw [iq,e];rfl
   rw [h2,iq,hi] at g1
   exact (iG g1).symm
  refine ⟨kvs,t,h1,?_,hw⟩
  obtain ⟨v,hv⟩:=val_some (kvs:=kvs) (k:=(Sum.inr d.nm:Key)) (iy.mpr ⟨kv,ig e,e1⟩)
  rw [hv]
  unfold bY at hv
  cases f:kvs.find? (λ kv=>decide (kv.1=(Sum.inr d.nm:Key))) with
  | none=>rw [f] at hv;cases hv
  | some kv'=>
   rw [f] at hv
   have hp:=List.find?_some f
   have m:=List.mem_of_find?_eq_some f
   obtain ⟨j,hj⟩:=jj.mp m
   have ej:kv'.1=Sum.inr d.nm:=of_decide_eq_true hp
   have nd2:(kvs.map (·.1)).Nodup:=by
    rw [h2,show (λ z:WD=>(Sum.inr z.nm:Key))=(λ n=>(Sum.inr n:Key)) ∘ (λ z:WD=>z.nm) from rfl,<- iQ]
    exact nd.map _ (λ u v h e=>h (Sum.inr.inj e))
   have g1:(kvs.map (·.1))[j]?=some (Sum.inr d.nm):=by rw [iq,hj,jm,ej]
   have g2:(kvs.map (·.1))[i]?=some (Sum.inr d.nm):=by rw [iq,e,jm,e1]
   have ij:=(List.getElem?_inj (by rw [hZ];exact (hV.mp hj).1) nd2).mp (g1.trans g2.symm)
   subst ij
   rw [hj] at e
   cases e
   rw [<- e2]
   exact hv.symm
inductive IspNetWay (a:Ad) (vs:List V) (H:Hp) (Q:VK):Prop
 | mk (p:Addr) (ps:List (Str × Rat)) (ds:List WD) (d:WD) (h1:vs=[.ref p,.str d.nm]) (h2:NetAt a H p ps ds) (h3:(ds.map (·.nm)).Nodup) (h4:d∈ds) (h5:∀ v,WayIs a H v d->Q v H):IspNetWay a vs H Q
noncomputable def spNetWay (a:Ad):Sp:=λ vs H Q _=>IspNetWay a vs H Q
theorem ok_Net_way (T:TX K mg a):MtB P w K mg base CX0 a.Net "way" 1 ["self","name"] (spNetWay a):=by
 refine T.m_Net_way.ok sc_Net_way (λ vs H Q E h=>?_) (λ f cdv A outer s H vs Q E hr h=>?_)
 ·obtain ⟨_,_,_,_,rfl,_⟩:=h
  rfl
 ·obtain ⟨p,ps,ds,d,rfl,⟨dx,dw,dy,hp,hw,hy⟩,nd,hd,k⟩:=h
  refine ⟨_,(ag (aS (gH (gv (aZ hr) (pv 1) (aO (pv 0) rfl))) (ah cj) aE)
   (ah (aw (cH (aZ hr) (aO (pv 0) rfl) (pv 1) (λ _ _=>rfl))))),?_⟩
  try dsimp only [aK,Cx.nox,Cx.wish]
  obtain ⟨kvs,v,h1,h2,h3⟩:=hy.get nd hd
  refine ⟨_,rfl,_,rfl,p,_,dx,_,_,rfl,hp,T.cl_Net,T.na_Net_ways,fsN_y _ _,dy,_,rfl,DGet.k (k:=Sum.inr d.nm) h1,_,rfl,?_⟩
  rw [h2]
  refine iteF ?_
  refine ⟨_,rfl,p,_,dx,_,_,rfl,hp,T.cl_Net,T.na_Net_ways,fsN_y _ _,_,rfl,dy,v,rfl,?_,k v h3⟩
  rw [<- h2]
  exact DGet.k (k:=Sum.inr d.nm) h1
theorem Sm.of_le {a:Int} {n:Nat} (h:a.natAbs<=2 ^ n) (hn:n<9000):Sm a:=iY h (Nat.pow_lt_pow_right (by decide) hn)
theorem Bd.smr {n:Nat} {x:Rat} (b:Bd n x) (hn:n<9000):SmR x:=⟨iY b.1 (Nat.pow_lt_pow_right (by decide) hn),by show Sm _;unfold Sm;rw [Int.natAbs_natCast];exact iY b.2 (Nat.pow_lt_pow_right (by decide) hn)⟩
theorem tot_bd {s m:Nat} {T B o c u:Int} (hT:T.natAbs<=2 ^ s) (hB:B.natAbs<=2 ^ s) (ho:o.natAbs<=2 ^ m) (hc:c.natAbs<=2 ^ m) (hu:u.natAbs<=B.natAbs) :
  (T*o+c*u).natAbs<=2 ^ (s+(m+1))/\(B*o).natAbs<=2 ^ (s+(m+1)):=by
 have h4:2 ^ (s+(m+1))=2 ^ (s+m)*2:=by rw [<- Nat.add_assoc,Nat.pow_succ]
 constructor
 ·have h1:(T*o).natAbs<=2 ^ (s+m):=by rw [jo];exact eM hT ho
  have h2:(c*u).natAbs<=2 ^ (m+s):=by rw [jo];exact eM hc (ie hu hB)
  rw [Nat.add_comm m s] at h2
  have h5:=Int.natAbs_add_le (T*o) (c*u)
  omega
 ·have h1:(B*o).natAbs<=2 ^ (s+m):=by rw [jo];exact eM hB ho
  omega
theorem TInv.le {x:Rat} {T B s:Int} (I:TInv x T B s):s.natAbs<=B.natAbs:=by
 obtain ⟨pB,ps,⟨r,hr,_⟩,_⟩:=I
 have:=Int.le_of_dvd pB ⟨r,hr⟩
 omega
noncomputable def FrIs (a:Ad) (H:Hp) (v:V) (x:Rat):Prop:=∃ q,v=.ref q/\FrAt a.Fraction H q x
theorem FrIs.mono {H H':Hp} {v:V} {x:Rat} (h:FrIs a H v x) (s:Same H H'):FrIs a H' v x:=by
 obtain ⟨q,e,f⟩:=h
 exact ⟨q,e,f.mono s⟩
theorem FrIs.keep {H H':Hp} {v:V} {x:Rat} (h:FrIs a H v x) (s:KeepD H H'):FrIs a H' v x:=let ⟨q,e,d,f⟩:=h;⟨q,e,d,s _ _ f (by intro _ z;cases z) (by intro _ _ z;cases z)⟩
inductive IspTotal (K:W.Frag) (a:Ad) (vs:List V) (H:Hp) (Q:VK):Prop
 | mk (l:Addr) (ts:List V) (xs:List Rat) (N:Nat) (h1:vs=[.ref l]) (h2:SqL K H l ts) (h3:RowAt (FrIs a) H ts xs) (h4:BdS xs N) (h5:N<9000) (h6:∀ (r:Addr) (H':Hp),H r=none->Same H H'->FrAt a.Fraction H' r xs.sum->Q (.ref r) H'):IspTotal K a vs H Q
noncomputable def spTotal (K:W.Frag) (a:Ad):Sp:=λ vs H Q _=>IspTotal K a vs H Q
theorem ok_total (T:TX K mg a):FnB P w K mg base CX0 "total" 5 ["some"] (spTotal K a):=by
 refine T.d_total.ok sc_total (λ vs H Q E h=>?_) (λ f cdv A outer s H vs Q E hr h=>?_)
 ·obtain ⟨_,_,_,_,rfl,_⟩:=h
  rfl
 ·obtain ⟨l,ts,xs,N,rfl,hS,fs,bd,hN,k⟩:=h
  obtain ⟨S,S0,S1,S2⟩:=bd.fn
  refine ⟨_,(ag (au (i:=1) sc_total.nd rfl (Or.inl rfl) ae)
   (ag (au (i:=2) sc_total.nd rfl (Or.inl rfl) ae)
   (ag (au (i:=3) sc_total.nd rfl (Or.inl rfl) ae)
   (ag (aR ix rfl (aU (pv 0)) (aq (i:=4) sc_total.nd rfl (Or.inl rfl)) (ag (au (i:=5) sc_total.nd rfl (Or.inl rfl) (ay (cL T) hr am (aa (pv 2) (aa (cK T.fr (pv 4)) ad))))
   (ag (au (i:=6) sc_total.nd rfl (Or.inl rfl) (ak bh (cK T.fr (pv 4)) (pv 5)))
   (ag (au (i:=1) sc_total.nd rfl (Or.inl rfl) (ak aJ (ak aQ (pv 1) (pv 6)) (ak aQ (dn T.fr (pv 4)) (ak bh (pv 2) (pv 5)))))
   (ag (au (i:=2) sc_total.nd rfl (Or.inl rfl) (ak aQ (pv 2) (pv 6)))
   (ah (au (i:=3) sc_total.nd rfl (Or.inl rfl) (ak aQ (pv 3) (ak bh (pv 5) (ay (cL T) hr am (aa (pv 3) (aa (pv 5) ad))))))))))))
   (ag (au (i:=7) sc_total.nd rfl (Or.inl rfl) (ay (cL T) hr am (aa (pv 1) (aa (pv 3) ad))))
   (ah (aw (ay (cq T) hr am (aa (ak bh (pv 1) (pv 7)) (aa (ak bh (pv 2) (pv 7)) ad)))))))))),?_⟩
  try dsimp only [aK,Cx.nox,Cx.wish]
  refine ⟨_,rfl,l,rfl,⟨_,hS⟩,bn (K:=K) (a:=l) (xs:=ts) (λ i σ H2=>i<=xs.length/\∃ (t b s:Int) (z4 z5 z6 z7:Option V),σ=[some (.ref l),some (.int t),some (.int b),some (.int s),z4,z5,z6,z7]/\H2=H/\TInv (xs.take i).sum t b s/\t.natAbs<=2 ^ (S i)/\b.natAbs<=2 ^ (S i))
   ⟨im _,0,1,1,_,_,_,_,rfl,rfl,TInv.zero,im _,by rw [S0];decide⟩ (λ i σ H2 _ ⟨_,_,_,_,_,_,_,_,_,e,_⟩=>by rw [e];exact hS) ?_ ?_⟩
  ·rintro i u σ H2 hu ⟨_,t,b,s,z4,z5,z6,z7,rfl,rfl,I,ht,hb⟩
   have hi:i<xs.length:=by rw [<- fs.1];exact (hV.mp hu).1
   have ex:xs[i]?=some xs[i]:=ii hi
   obtain ⟨n,by',bs⟩:=S2 i _ ex
   generalize xs[i]=y at ex by'
   obtain ⟨p,rfl,fp⟩:=fs.2 i u _ hu ex
   have si:=S1 i (by omega)
   have si1:=S1 (i+1) (by omega)
   have hn':n<9000:=by omega
   have yd:((y.den:Int)).natAbs<=2 ^ n:=by rw [Int.natAbs_natCast];exact by'.2
   have sy:Sm (y.den:Int):=Sm.of_le yd hn'
   have cp:=dl b (den_ne y)
   have cs:=Sm.gcd_r b (den_ne y) sy
   have st:Sm t:=Sm.of_le ht (by omega)
   have sb:Sm b:=Sm.of_le hb (by omega)
   have yp:=e7 y
   have lo:((y.den:Int).fdiv (gcd b y.den)).natAbs<=(y.den:Int).natAbs:=eY _ cp (by omega)
   have lu:(b.fdiv (gcd b y.den)).natAbs<=b.natAbs:=eY _ cp (Int.le_of_lt I.pB)
   have ss:Sm s:=sb.le I.le
   have gp:=dl s (b:=gcd b y.den) (by omega)
   have gs:=Sm.gcd_r s (b:=gcd b y.den) (by omega) cs
   have lc:((gcd b y.den).fdiv (gcd s (gcd b y.den))).natAbs<=(gcd b y.den).natAbs:=eY _ gp (by omega)
   have tb:=tot_bd ht hb (ie lo yd) by'.1 lu
   refine ⟨_,rfl,_,rfl,p,y,rfl,fp,_,_,rfl,?_⟩
   refine ⟨_,rfl,p,y,rfl,fp,_,rfl,_,_,rfl,rfl,⟨by omega,cs⟩,?_⟩
   refine ⟨_,rfl,_,rfl,_,_,rfl,rfl,⟨st,sy.le lo⟩,_,rfl,p,y,rfl,fp,_,rfl,_,rfl,_,_,rfl,rfl,⟨by omega,cs⟩,_,_,rfl,rfl,⟨Sm.of_le by'.1 hn',sb.le lu⟩,_,_,rfl,rfl,?_⟩
   refine ⟨_,rfl,_,rfl,_,_,rfl,rfl,⟨sb,sy.le lo⟩,?_⟩
   refine ⟨_,rfl,_,rfl,_,rfl,_,rfl,_,_,rfl,_,_,rfl,rfl,⟨by omega,gs⟩,_,_,rfl,rfl,⟨ss,cs.le lc⟩,?_⟩
   refine ⟨hi,_,_,_,_,_,_,_,rfl,rfl,?_,ie tb.1 (pow_le bs),ie tb.2 (pow_le bs)⟩
   rw [iH,ex,iE,sum_snoc]
   exact I.step
  ·rintro σ H2 ⟨_,t,b,s,z4,z5,z6,z7,rfl,rfl,I,ht,hb⟩
   rw [fs.1] at I ht hb
   rw [iB] at I
   have sl:=S1 _ (ic _)
   have sb:Sm b:=Sm.of_le hb (by omega)
   have s0:s≠0:=by have:=I.ps;omega
   have gp:=dl t s0
   have gs:=Sm.gcd_r t s0 (sb.le I.le)
   obtain ⟨e1,e2⟩:=I.fin
   refine ⟨_,rfl,_,rfl,_,_,rfl,?_⟩
   refine ⟨_,rfl,_,rfl,_,_,rfl,rfl,⟨by omega,gs⟩,_,rfl,_,rfl,_,_,rfl,rfl,⟨by omega,gs⟩,_,_,rfl,λ r dx H' nr s1 h1=>k r H' nr s1 ⟨dx,?_⟩⟩
   rw [h1,e1,e2]
noncomputable def NetOff (a:Ad) (H:Hp) (p d:Addr) (ps:List (Str × Rat)) (ds:List WD):Prop:=∃ H0,NetAt a H0 p ps ds/\Same H0 H/\H0 d=none
theorem NetOff.at_ {H:Hp} {p d:Addr} {ps:List (Str × Rat)} {ds:List WD} (h:NetOff a H p d ps ds):NetAt a H p ps ds:=by
 obtain ⟨_,n,s0,_⟩:=h
 exact n.mono s0
theorem NetOff.but {H H':Hp} {p d:Addr} {ps:List (Str × Rat)} {ds:List WD} (h:NetOff a H p d ps ds) (k:∀ b ob,H b=some ob->b≠d->H' b=some ob):NetOff a H' p d ps ds:=by
 obtain ⟨H0,n,s0,e⟩:=h
 exact ⟨H0,n,λ b ob x=>k b ob (s0 b ob x) (av x e),e⟩
inductive IspNNames (a:Ad) (vs:List V) (H:Hp) (Q:VK):Prop
 | mk (p:Addr) (ps:List (Str × Rat)) (ds:List WD) (h1:vs=[.ref p]) (h2:NetAt a H p ps ds) (h3:∀ l,H l=none->Q (.ref l) (upd H l (.lst (ps.map λ x=>V.str x.1)))):IspNNames a vs H Q
noncomputable def gQ (a:Ad):Sp:=λ vs H Q _=>IspNNames a vs H Q
theorem fJ (T:TX K mg a):MtB P w K mg base CX0 a.Net "names" 1 ["self"] (gQ a):=by
 refine T.m_Net_names.ok sc_Net_names (λ vs H Q E h=>?_) (λ f cdv A outer s H vs Q E hr h=>?_)
 ·obtain ⟨_,_,_,rfl,_⟩:=h
  rfl
 ·obtain ⟨p,ps,ds,rfl,⟨dx,dw,dy,hp,⟨kvs,h1,h2,h3⟩,hy⟩,k⟩:=h
  refine ⟨_,(ah (aw (bX (eQ hr.hd) (by rfl) T.z_list PyProof.Rows.boot_list (aa (aO (pv 0) rfl) ad)))),?_⟩
  try dsimp only [aK,Cx.nox,Cx.wish]
  refine ⟨_,rfl,p,_,dx,_,_,rfl,hp,T.cl_Net,T.na_Net_wants,fsN_w _ _,dw,kvs,rfl,.inl h1,λ l nl=>?_⟩
  have e:(kvs.map λ kv=>kV kv.1)=ps.map λ x=>V.str x.1:=by
   have:=i7 (List.map kV) h2
   rw [iQ,iQ] at this
   exact this
  rw [e]
  exact k l nl
inductive IspNAll (a:Ad) (vs:List V) (H:Hp) (Q:VK):Prop
 | mk (p:Addr) (ps:List (Str × Rat)) (ds:List WD) (h1:vs=[.ref p]) (h2:NetAt a H p ps ds) (h3:∀ l H' ts,H l=none->Same H H'->H' l=some (.lst ts)->RowAt (WayIs a) H' ts ds->Q (.ref l) H'):IspNAll a vs H Q
noncomputable def spNAll (a:Ad):Sp:=λ vs H Q _=>IspNAll a vs H Q
theorem d8 (T:TX K mg a):MtB P w K mg base CX0 a.Net "all_ways" 1 ["self"] (spNAll a):=by
 refine T.m_Net_all_ways.ok sc_Net_all_ways (λ vs H Q E h=>?_) (λ f cdv A outer s H vs Q E hr h=>?_)
 ·obtain ⟨_,_,_,rfl,_⟩:=h
  rfl
 ·obtain ⟨p,ps,ds,rfl,⟨dx,dw,dy,hp,hw,⟨kvs,h1,h2,h3⟩⟩,k⟩:=h
  refine ⟨_,(ah (aw (bX (call_list_vals hr.hd) (by rfl) T.z_list PyProof.Rows.boot_list (aa (pe_bm0 PySem.F.plainAttrs_dict PySem.F.slot_dict_values PySem.F.type_dict_values mt_values (aO (pv 0) rfl)) ad)))),?_⟩
  try dsimp only [aK,Cx.nox,Cx.wish]
  refine ⟨_,rfl,p,_,dx,_,_,rfl,hp,T.cl_Net,T.na_Net_ways,fsN_y _ _,(.inr (.inr (.inl ⟨rfl,.inl ⟨kvs,h1⟩⟩))),dy,kvs,rfl,rfl,.inl h1,λ v nv=>?_⟩
  have s1:=aj (o:=ViewO v dy) nv
  refine ⟨v,dy,kvs,rfl,ac,.inl (s1 _ _ h1),λ l nl=>?_⟩
  have s2:=s1.trans (aj (o:=.lst (kvs.map (·.2))) nl)
  exact k l _ _ (s1.free nl) s2 ac (h3.mono λ v x z=>z.mono s2)
noncomputable def fT (ks:List Str) (f:Str->Rat) (n:Str):Rat:=if n∈ks then f n else 0
inductive IspAmount (a:Ad) (vs:List V) (H:Hp) (Q:VK):Prop
 | mk (d:Addr) (kvs:List (Key × V)) (ks:List Str) (f:Str->Rat) (n:Str) (h1:vs=[.ref d,.str n]) (h2:Rd H d (.dK kvs)) (h3:Tab (FrIs a) H kvs ks f) (h4:∀ q H',Same H H'->FrAt a.Fraction H' q (fT ks f n)->Q (.ref q) H'):IspAmount a vs H Q
noncomputable def spAmount (a:Ad):Sp:=λ vs H Q _=>IspAmount a vs H Q
theorem ok_amount (T:TX K mg a):FnB P w K mg base CX0 "amount" 5 ["plan","name"] (spAmount a):=by
 refine T.d_amount.ok sc_amount (λ vs H Q E h=>?_) (λ f cdv A outer s H vs Q E hr h=>?_)
 ·obtain ⟨_,_,_,_,_,rfl,_⟩:=h
  rfl
 ·obtain ⟨d,kvs,ks,f,n,rfl,hd,tb,k⟩:=h
  refine ⟨_,(ah (aw (eL (aZ hr) (pv 0) (pv 1) (cn (mk1 T) hr T.mg_Fraction am (aa ae ad)) ⟨rfl,rfl,rfl,rfl⟩))),?_⟩
  try dsimp only [aK,Cx.nox,Cx.wish]
  refine ⟨_,rfl,d,rfl,.inl ⟨kvs,hd⟩,_,rfl,0,1,rfl,by decide,sm1,λ z H1 nz s1 f1=>?_⟩
  have hd1:Rd H1 d (.dK kvs):=hd.imp (λ h=>s1 _ _ h) λ⟨o,h⟩=>⟨o,s1 _ _ h⟩
  refine ⟨bY kvs (Sum.inr n),.inl ⟨kvs,Sum.inr n,hd1,rfl,rfl⟩,?_⟩
  unfold fT at k
  by_cases hn:n∈ks
  ·obtain ⟨v,ev,q,rfl,fq⟩:=tb.vals n hn
   rw [ev]
   rw [if_pos hn] at k
   exact k q H1 s1 (fq.mono s1)
  ·rw [tb.none hn]
   rw [if_neg hn] at k
   rw [Rat.zero_divInt] at f1
   exact k z H1 s1 f1
inductive IspRefO (a:Ad) (vs:List V) (H:Hp) (Q:VK):Prop
 | mk (p d:Addr) (ps:List (Str × Rat)) (ds:List WD) (kvs:List (Key × V)) (ks:List Str) (f:Str->Rat) (h1:vs=[.ref p,.ref d]) (h2:NetOff a H p d ps ds) (h3:(ds.map (·.nm)).Nodup) (h4:H d=some (.dK kvs)) (h5:Tab (FrIs a) H kvs ks f) (h6:ks.Nodup) (h7:(∀ n∈ks,n∈ds.map (·.nm))) (h8:∀ H',Same H H'->Q .non H'):IspRefO a vs H Q
noncomputable def spRefO (a:Ad):Sp:=λ vs H Q _=>IspRefO a vs H Q
theorem fU (T:TX K mg a):FnB P w K mg base CX0 "refuse_other_names" 2 ["net","plan"] (spRefO a):=by
 refine T.d_refuse_other_names.ok sc_refuse_other_names (λ vs H Q E h=>?_) (λ f cdv A outer s H vs Q E hr h=>?_)
 ·obtain ⟨_,_,_,_,_,_,_,rfl,_⟩:=h
  rfl
 ·obtain ⟨p,d,ps,ds,kvs,ks,f,rfl,hn,nd,hd,tb,ndk,sub,k⟩:=h
  refine ⟨_,(ah (eR (aR ix rfl (eS (pv 1)) (aq (i:=2) sc_refuse_other_names.nd rfl (Or.inl rfl)) (ah (aT (pe_mtD (CX:=CX0) (pv 0) hr am (aa (pv 2) ad))))))),?_⟩
  try dsimp only [aK,Cx.nox,Cx.wish]
  refine ⟨d,.dK kvs,hd,(by intro o z e;cases e),_,rfl,d,kvs,rfl,hd,λ o=>?_⟩
  refine gj (a:=d) (o:=o) (kvs:=kvs) (λ i σ H2=>∃ z,σ=[some (.ref p),some (.ref d),z]/\H2 d=some (.frz o (.dK kvs))/\∀ b ob,H b=some ob->b≠d->H2 b=some ob)
   ⟨_,rfl,ac,λ b ob e ne=>by rw [ai ne];exact e⟩ (λ i σ H2 _ ⟨_,_,h,_⟩=>h) ?_ ?_
  ·rintro i kv σ H2 hkv ⟨z,rfl,hf,k2⟩
   obtain ⟨n,en,e1,ev,_⟩:=tb.at_ ndk hkv
   have ekv:kV kv.1=.str n:=by rw [e1];rfl
   rw [ekv]
   obtain ⟨y,my,rfl⟩:=iy.mp (sub n (ig en))
   obtain ⟨dx,dw,dy,hp,hw,hy⟩:=(hn.but k2).at_
   refine ⟨_,rfl,p,a.Net,dx,_,1,["self","name"],spNetWay a,rfl,hp,eO _ _ (by decide +kernel) (by decide +kernel),T.cl_Net,by decide,ok_Net_way T,_,rfl,p,ps,ds,y,rfl,⟨dx,dw,dy,hp,hw,hy⟩,nd,my,λ v _=>?_⟩
   exact ⟨_,rfl,hf,k2⟩
  ·rintro σ H2 ⟨z,rfl,hf,k2⟩
   refine ⟨o,hf,k _ λ b ob e=>?_⟩
   by_cases hb:b=d
   ·subst hb
    rw [ac,<- hd,e]
   ·rw [ai hb]
    exact k2 _ _ e hb
theorem kv_at {κ:Type} [DecidableEq κ]:∀ {kvs:List (κ × V)} {i:Nat} {kv:κ × V},(kvs.map (·.1)).Nodup->kvs[i]?=some kv->bY kvs kv.1=some kv.2
 | [],_,_,_,e=>by simp at e
 | p::r,0,kv,_,e=>by
  simp at e
  subst e
  exact b6 rfl
 | p::r,i+1,kv,nd,e=>by
  have e:r[i]?=some kv:=by simpa using e
  obtain ⟨h1,h2⟩:=List.nodup_cons.mp (show (p.1::r.map (·.1)).Nodup from nd)
  rw [b7 λ z=>h1 (by rw [z];exact iy.mpr ⟨kv,ig e,rfl⟩)]
  exact kv_at h2 e
theorem WantsAt.at_ {H:Hp} {dw:Addr} {ps:List (Str × Rat)} {i:Nat} {p:Str × Rat} (h:WantsAt a H dw ps) (nd:(ps.map (·.1)).Nodup) (hi:ps[i]?=some p):∃ kvs q,H dw=some (.dK kvs)/\bY kvs (Sum.inr p.1)=some (.ref q)/\FrAt a.Fraction H q p.2:=by
 obtain ⟨kvs,h1,h2,h3⟩:=h
 obtain ⟨t,ht,q,rfl,fq⟩:=h3.get' (i:=i) (x:=p.2) (by rw [iq,hi];rfl)
 rw [iq] at ht
 cases e:kvs[i]? with
 | none=>rw [e] at ht;cases ht
 | some kv=>
  rw [e] at ht
  have e2:kv.2=.ref q:=iG ht
  have e1:kv.1=Sum.inr p.1:=by
   have g1:(kvs.map (·.1))[i]?=some kv.1:=by rw [iq,e];rfl
   rw [h2,iq,hi] at g1
   exact (iG g1).symm
  have nd2:(kvs.map (·.1)).Nodup:=by
   rw [h2,show (λ z:Str × Rat=>(Sum.inr z.1:Key))=(λ n=>(Sum.inr n:Key)) ∘ (λ z:Str × Rat=>z.1) from rfl,<- iQ]
   exact nd.map _ (λ u v h e=>h (Sum.inr.inj e))
  refine ⟨kvs,q,h1,?_,fq⟩
  rw [<- e1,<- e2]
  exact kv_at nd2 e
inductive IspNWant (a:Ad) (vs:List V) (H:Hp) (Q:VK):Prop
 | mk (p:Addr) (ps:List (Str × Rat)) (ds:List WD) (i:Nat) (n:Str) (x:Rat) (h1:vs=[.ref p,.str n]) (h2:NetAt a H p ps ds) (h3:(ps.map (·.1)).Nodup) (h4:ps[i]?=some (n,x)) (h5:∀ q,FrAt a.Fraction H q x->Q (.ref q) H):IspNWant a vs H Q
noncomputable def spNWant (a:Ad):Sp:=λ vs H Q _=>IspNWant a vs H Q
theorem gd (T:TX K mg a):MtB P w K mg base CX0 a.Net "want" 1 ["self","place"] (spNWant a):=by
 refine T.m_Net_want.ok sc_Net_want (λ vs H Q E h=>?_) (λ f cdv A outer s H vs Q E hr h=>?_)
 ·obtain ⟨_,_,_,_,_,_,rfl,_⟩:=h
  rfl
 ·obtain ⟨p,ps,ds,i,n,x,rfl,⟨dx,dw,dy,hp,hw,hy⟩,nd,hi,k⟩:=h
  refine ⟨_,(ag (aS (gH (gv (aZ hr) (pv 1) (aO (pv 0) rfl))) (ah cj) aE)
   (ah (aw (cH (aZ hr) (aO (pv 0) rfl) (pv 1) (λ _ _=>rfl))))),?_⟩
  try dsimp only [aK,Cx.nox,Cx.wish]
  obtain ⟨kvs,q,h1,h2,h3⟩:=hw.at_ nd hi
  refine ⟨_,rfl,_,rfl,p,_,dx,_,_,rfl,hp,T.cl_Net,T.na_Net_wants,fsN_w _ _,dw,_,rfl,DGet.k (k:=Sum.inr n) h1,_,rfl,?_⟩
  rw [h2]
  refine iteF ?_
  refine ⟨_,rfl,p,_,dx,_,_,rfl,hp,T.cl_Net,T.na_Net_wants,fsN_w _ _,_,rfl,dw,.ref q,rfl,?_,k q h3⟩
  rw [<- h2]
  exact DGet.k (k:=Sum.inr n) h1
inductive IspNWayX (a:Ad) (vs:List V) (H:Hp) (E:XK):Prop
 | mk (p:Addr) (ps:List (Str × Rat)) (ds:List WD) (n:Str) (h1:vs=[.ref p,.str n]) (h2:NetAt a H p ps ds) (h3:¬ n∈ds.map (·.nm)) (h4:n.length<=1000) (h5:NoWayE a H n E):IspNWayX a vs H E
noncomputable def spNWayX (a:Ad):Sp:=λ vs H _ E=>IspNWayX a vs H E
theorem ok_Net_wayX (T:TX K mg a):MtB P w K mg base (CX1 P w) a.Net "way" 3 ["self","name"] (spNWayX a):=by
 refine T.m_Net_way.okX sc_Net_way (λ vs H Q E h=>?_) (λ f cdv A outer s H vs Q E hr h=>?_)
 ·obtain ⟨_,_,_,_,rfl,_⟩:=h
  rfl
 ·obtain ⟨p,ps,ds,n,rfl,⟨dx,dw,dy,hp,hw,⟨kvs,h1,h2,h3⟩⟩,hn,ln,kb⟩:=h
  refine ⟨_,(ag (aS (gH (gv (aZ hr) (pv 1) (aO (pv 0) rfl))) (ah (ps_raiseI xout1 rfl hr (by rfl) T.mg_NoWay (xi_NoWay T) (aa (pv 1) ad))) aE)
   (ah (aw (cH (aZ hr) (aO (pv 0) rfl) (pv 1) (λ _ _=>rfl))))),?_⟩
  try dsimp only [aK,Cx.nox,Cx.wish]
  refine ⟨_,rfl,_,rfl,p,_,dx,_,_,rfl,hp,T.cl_Net,T.na_Net_ways,fsN_y _ _,dy,_,rfl,DGet.k (k:=Sum.inr n) h1,_,rfl,?_⟩
  rw [fX (by
   rw [h2,show (λ z:WD=>(Sum.inr z.nm:Key))=(λ n=>(Sum.inr n:Key)) ∘ (λ z:WD=>z.nm) from rfl,<- iQ]
   exact λ z=>hn (inr_in.mp z))]
  refine iteT ?_
  refine ⟨_,rfl,?_⟩
  exact raise_nw ln kb
theorem aN (x:Int) {m:Int} (h:0<m):0<=x % m/\x % m<m:=⟨Int.emod_nonneg x (by omega),Int.emod_lt_of_pos x h⟩
noncomputable def DueIs (H:Hp) (v:V) (c:Int × Int):Prop:=∃ t,v=.ref t/\H t=some (.tup [.int c.1,.int c.2])
theorem DueIs.mono {H H':Hp} {v:V} {c:Int × Int} (h:DueIs H v c) (s:Same H H'):DueIs H' v c:=by
 obtain ⟨t,e,f⟩:=h
 exact ⟨t,e,s _ _ f⟩
noncomputable def OptIs (H:Hp) (v:V):Option (Int × Int)->Prop
 | none=>v=.non
 | some c=>DueIs H v c
theorem OptIs.mono {H H':Hp} {v:V} {o:Option (Int × Int)} (h:OptIs H v o) (s:Same H H'):OptIs H' v o:=by
 cases o with
 | none=>exact h
 | some c=>exact DueIs.mono h s
structure KeepO (H H':Hp):Prop where
 tup:∀ b xs,H b=some (.tup xs)->H' b=some (.tup xs)
 ins:∀ b C dx fs,H b=some (.ins C dx fs)->H' b=some (.ins C dx fs)
theorem KeepO.lst {H:Hp} {l:Addr} {xs:List V} {o:HO} (h:H l=some (.lst xs)):KeepO H (upd H l o):=⟨λ b ys e=>by rw [ai (bz e h (by intro z;cases z))];exact e,λ b C dx fs e=>by rw [ai (bz e h (by intro z;cases z))];exact e⟩
theorem KeepO.dct {H:Hp} {l:Addr} {xs:List (Key × V)} {o:HO} (h:H l=some (.dK xs)):KeepO H (upd H l o):=⟨λ b ys e=>by rw [ai (bz e h (by intro z;cases z))];exact e,λ b C dx fs e=>by rw [ai (bz e h (by intro z;cases z))];exact e⟩
theorem DueIs.ko {H H':Hp} {v:V} {c:Int × Int} (h:DueIs H v c) (s:KeepO H H'):DueIs H' v c:=by
 obtain ⟨t,e,f⟩:=h
 exact ⟨t,e,s.tup _ _ f⟩
theorem OptIs.ko {H H':Hp} {v:V} {o:Option (Int × Int)} (h:OptIs H v o) (s:KeepO H H'):OptIs H' v o:=by
 cases o with
 | none=>exact h
 | some c=>exact DueIs.ko h s
theorem FrIs.ko {H H':Hp} {v:V} {x:Rat} (h:FrIs a H v x) (s:KeepO H H'):FrIs a H' v x:=by
 obtain ⟨q,e,d,f⟩:=h
 exact ⟨q,e,d,s.ins _ _ _ _ f⟩
theorem PlIs.ko {H H':Hp} {v:V} {p:Str × Rat} (h:PlIs a H v p) (s:KeepO H H'):PlIs a H' v p:=by
 obtain ⟨t,q,e,h1,d,f⟩:=h
 exact ⟨t,q,e,s.tup _ _ h1,d,s.ins _ _ _ _ f⟩
theorem WayIs.ko {H H':Hp} {v:V} {x:WD} (h:WayIs a H v x) (s:KeepO H H'):WayIs a H' v x:=h.keep λ b C dx fs _ e=>s.ins b C dx fs e
theorem RowAt.app {α:Type} {R:Hp->V->α->Prop} {H:Hp} {ts us:List V} {xs ys:List α} (d:RowAt R H ts xs) (e:RowAt R H us ys):RowAt R H (ts++us) (xs++ys):=by
 refine ⟨by rw [ir,ir,d.1,e.1],λ i t x h1 h2=>?_⟩
 have hl:=d.1
 by_cases hi:i<ts.length
 ·rw [jr hi] at h1
  rw [jr (by omega)] at h2
  exact d.2 i t x h1 h2
 ·rw [jc (by omega)] at h1
  rw [jc (by omega),<- hl] at h2
  exact e.2 _ t x h1 h2
structure Tn (i:Int):Prop where
 nn:0<=i
 lt:i.natAbs<2 ^ 200
theorem Tn.log {i:Int} (h:Tn i):i.natAbs.log2<1920:=by
 by_cases z:i.natAbs=0
 ·rw [z];decide
 ·exact (Nat.log2_lt z).mpr (iL h.lt (jB (by decide) (by decide)))
theorem Tn.len {i:Int} (h:Tn i):(Str.ofString (toString i)).length<=201:=by
 rw [PySem.ofString_length]
 refine PySem.int_text_length_le (k:=200) (by decide) ?_
 by_cases z:i.natAbs=0
 ·rw [z];decide
 ·exact (Nat.log2_lt z).mpr h.lt
noncomputable def atT (x:Str) (t:Int):Str:=(x ++ ".")++Str.ofString (toString t)
theorem atT_len {x:Str} {t:Int} {n:Nat} (hx:x.length<=n) (h:Tn t):(atT x t).length<=n+202:=by
 have:=h.len
 unfold atT
 rw [iJ,iJ,show (".":Str).length=1 from rfl]
 omega
theorem atT_ne {x y:Str} {t:Int} (h:x≠y):atT x t≠atT y t:=λ e=>h (app_right (app_right e))
theorem atT_next {x:Str} {t:Int} (h:Tn t):atT x t≠atT x (t+1):=by
 intro e
 obtain ⟨n,rfl⟩:=iT h.nn
 exact text_next (app_left e)
noncomputable def Kd.next:Kd->Kd
 | .sto=>.lea
 | k=>k
noncomputable def WayE (a:Ad) (H:Hp) (v:V) (d:WD):Prop:=∃ p vh vc q,v=.ref p/\WayAt a H p d.kd d.nm d.st d.go vh vc q d.x/\(∃ qc,vc=.ref qc/\FrAt a.Fraction H qc d.co)/\HiT a H vh d.hi
theorem WayE.of {H:Hp} {v:V} {d:WD} (h:WayIs a H v d):WayE a H v d:=by
 obtain ⟨p,vh,vc,q,e,W,_,c,hh⟩:=h
 exact ⟨p,vh,vc,q,e,W,c,hh⟩
theorem WayE.mono {H H':Hp} {v:V} {d:WD} (h:WayE a H v d) (s:Same H H'):WayE a H' v d:=by
 obtain ⟨p,vh,vc,q,e,W,⟨qc,ec,fc⟩,hh⟩:=h
 exact ⟨p,vh,vc,q,e,W.mono s,⟨qc,ec,fc.mono s⟩,hh.mono s⟩
theorem WayE.keep {H H':Hp} {v:V} {d:WD} (h:WayE a H v d) (s:Stays a H H'):WayE a H' v d:=by
 obtain ⟨p,vh,vc,q,e,W,⟨qc,ec,fc⟩,hh⟩:=h
 exact ⟨p,vh,vc,q,e,W.keep s,⟨qc,ec,s.fr fc⟩,hh.keep s⟩
structure TrnOk (d:WD) (t:Int):Prop where
 ne:d.kd≠.sto->d.st≠d.go
 eq:d.kd=.sto->d.st=d.go
 ok:d.kd.ok d.x
 hi:∀ h,d.hi=some h->0<=h.num
 ln:d.nm.length<=700
 ls:d.st.length<=700
 lg:d.go.length<=700
 t1:Tn t
 t2:Tn (t+1)
noncomputable def atD (t:Int) (d:WD):WD:=⟨atT d.nm t,atT d.st t,atT d.go (match d.kd with | .sto=>t+1 | _=>t),d.kd.next,d.x,d.hi,d.co⟩
theorem HiT.ok {H:Hp} {v:V} {o:Option Rat} (h:HiT a H v o) (n:∀ x,o=some x->0<=x.num):HiOk a.Fraction H v:=by
 cases o with
 | none=>exact .inl h
 | some x=>exact let ⟨q,e,f⟩:=h;.inr ⟨q,x,e,f,n x rfl⟩
theorem hG {H H':Hp} {p qc:Addr} {vc':V} {x:Rat} (co:CoIs a.Fraction H' p (.ref qc) vc') (f:FrAt a.Fraction H qc x) (s:Same H H'):∃ z,vc'=.ref z/\FrAt a.Fraction H' z x:=by
 rcases co with ⟨_,e⟩ | ⟨e,_⟩
 ·exact ⟨qc,e,f.mono s⟩
 ·cases e
inductive IspNameAt (vs:List V) (H:Hp) (Q:VK):Prop
 | mk (x:Str) (t:Int) (h1:vs=[.str x,.int t]) (h2:x.length<=1000) (h3:Tn t) (h4:Q (.str (atT x t)) H):IspNameAt vs H Q
noncomputable def spNameAt:Sp:=λ vs H Q _=>IspNameAt vs H Q
theorem a9 (T:TX K mg a):FnB P w K mg base CX0 "name_at" 1 ["name","turn"] spNameAt:=by
 refine T.d_name_at.ok sc_name_at (λ vs H Q E h=>?_) (λ f cdv A outer s H vs Q E hr h=>?_)
 ·obtain ⟨x,t,rfl,_⟩:=h
  rfl
 ·obtain ⟨x,t,rfl,hx,ht,k⟩:=h
  refine ⟨_,(ah (aw (ak aI (ak aI (pv 0) dQ) (bX b4 (by rfl) T.z_str jk (aa (pv 1) ad))))),?_⟩
  try dsimp only [aK,Cx.nox,Cx.wish]
  have hl:=ht.len
  walk_at "rd"
  refine ⟨by rw [show (".":Str).length=1 from rfl,iK];omega,?_⟩
  walk_at "rd"
  refine ⟨ht.log,?_⟩
  walk_at "rd"
  refine ⟨by rw [iJ,show (".":Str).length=1 from rfl,iK];omega,?_⟩
  exact k
inductive IspTurn (a:Ad) (kd:Kd) (vs:List V) (H:Hp) (Q:VK):Prop
 | mk (v:V) (t:Int) (d:WD) (h1:vs=[v,.int t]) (h2:WayE a H v d) (h3:d.kd=kd) (h4:TrnOk d t) (h5:∀ p H',H p=none->Same H H'->WayIs a H' (.ref p) (atD t d)->Q (.ref p) H'):IspTurn a kd vs H Q
noncomputable def fZ (a:Ad) (kd:Kd):Sp:=λ vs H Q _=>IspTurn a kd vs H Q
theorem gZ {kd:Kd}:∀ vs H Q E,fZ a kd vs H Q E->vs.length=(["self","turn"]:List Str).length:=λ vs H Q E h=>by
 obtain ⟨_,_,_,rfl,_⟩:=h
 rfl
theorem turn_Way (T:TX K mg a):MtB P w K mg base CX0 a.Way "at_turn" 7 ["self","turn"] (fZ a .way):=by
 refine T.m_Way_at_turn.ok sc_Way_at_turn gZ (λ f cdv A outer s₀ H vs Q E hr h=>?_)
 obtain ⟨v,t,⟨n,s,g,kd,x,hi,co⟩,rfl,⟨p,vh,vc,q,rfl,W,⟨qc,rfl,fc⟩,hh⟩,hk,ok,k⟩:=h
 obtain rfl:kd=.way:=hk
 refine ⟨_,(ag (au (i:=2) sc_Way_at_turn.nd rfl (Or.inl rfl) (ay (a9 T) hr am (aa (aO (pv 0) rfl) (aa (pv 1) ad))))
   (ag (au (i:=3) sc_Way_at_turn.nd rfl (Or.inl rfl) (ay (a9 T) hr am (aa (aO (pv 0) rfl) (aa (pv 1) ad))))
   (ah (aw (gE (mk_Way T) hr T.mg_Way am (aa (ay (a9 T) hr am (aa (aO (pv 0) rfl) (aa (pv 1) ad))) (aa (pv 2) (aa (pv 3) (aa (aO (pv 0) rfl) (aa (aO (pv 0) rfl) ad)))))))))),?_⟩
 try dsimp only [aK,Cx.nox,Cx.wish]
 obtain ⟨dx,fs,ho,h5,_⟩:=W.ob
 have c:=T.wW
 have ln:=ok.ln
 have ls:=ok.ls
 have lg:=ok.lg
 dsimp only at ln ls lg
 refine ⟨_,rfl,p,_,dx,fs,_,rfl,ho,c.cl,c.n2,h5.st,_,rfl,s,t,rfl,by omega,ok.t1,?_⟩
 refine ⟨_,rfl,p,_,dx,fs,_,rfl,ho,c.cl,c.n3,h5.go,_,rfl,g,t,rfl,by omega,ok.t1,?_⟩
 refine ⟨_,rfl,p,_,dx,fs,_,rfl,ho,c.cl,c.n1,h5.nm,_,rfl,n,t,rfl,by omega,ok.t1,_,rfl,_,rfl,_,rfl,p,_,dx,fs,_,rfl,ho,c.cl,c.n4,h5.hi,_,rfl,p,_,dx,fs,_,rfl,ho,c.cl,c.n5,h5.co,?_⟩
 exact mkW (x:=x) T (atT_ne (ok.ne (by nofun))) (hh.ok ok.hi) λ q H' vc' q' nq ss W' co'=>k q H' nq ss ⟨q,_,_,q',rfl,W',by nofun,hG co' fc ss,hh.mono ss⟩
theorem turn_Growing (T:TX K mg a):MtB P w K mg base CX0 a.Growing "at_turn" 7 ["self","turn"] (fZ a .gro):=by
 refine T.m_Growing_at_turn.ok sc_Growing_at_turn gZ (λ f cdv A outer s₀ H vs Q E hr h=>?_)
 obtain ⟨v,t,⟨n,s,g,kd,x,hi,co⟩,rfl,⟨p,vh,vc,q,rfl,W,⟨qc,rfl,fc⟩,hh⟩,hk,ok,k⟩:=h
 obtain rfl:kd=.gro:=hk
 refine ⟨_,(ag (au (i:=2) sc_Growing_at_turn.nd rfl (Or.inl rfl) (ay (a9 T) hr am (aa (aO (pv 0) rfl) (aa (pv 1) ad))))
   (ag (au (i:=3) sc_Growing_at_turn.nd rfl (Or.inl rfl) (ay (a9 T) hr am (aa (aO (pv 0) rfl) (aa (pv 1) ad))))
   (ah (aw (gE (fK T) hr T.mg_Growing am (aa (ay (a9 T) hr am (aa (aO (pv 0) rfl) (aa (pv 1) ad))) (aa (pv 2) (aa (pv 3) (aa (aO (pv 0) rfl) (aa (aO (pv 0) rfl) (aa (aO (pv 0) rfl) ad))))))))))),?_⟩
 try dsimp only [aK,Cx.nox,Cx.wish]
 obtain ⟨dx,fs,ho,h5,hl⟩:=W.ob
 have c:=T.wG
 have ln:=ok.ln
 have ls:=ok.ls
 have lg:=ok.lg
 dsimp only at ln ls lg
 refine ⟨_,rfl,p,_,dx,fs,_,rfl,ho,c.cl,c.n2,h5.st,_,rfl,s,t,rfl,by omega,ok.t1,?_⟩
 refine ⟨_,rfl,p,_,dx,fs,_,rfl,ho,c.cl,c.n3,h5.go,_,rfl,g,t,rfl,by omega,ok.t1,?_⟩
 refine ⟨_,rfl,p,_,dx,fs,_,rfl,ho,c.cl,c.n1,h5.nm,_,rfl,n,t,rfl,by omega,ok.t1,_,rfl,_,rfl,_,rfl,p,_,dx,fs,_,rfl,ho,c.cl,T.na_Growing_rate,hl (by nofun),_,rfl,p,_,dx,fs,_,rfl,ho,c.cl,c.n4,h5.hi,_,rfl,p,_,dx,fs,_,rfl,ho,c.cl,c.n5,h5.co,?_⟩
 exact mkG T (atT_ne (ok.ne (by nofun))) (W.fq (by nofun)) ok.ok (hh.ok ok.hi) λ q H' vc' q' nq ss W' co'=>k q H' nq ss ⟨q,_,_,q',rfl,W',by nofun,hG co' fc ss,hh.mono ss⟩
theorem turn_Leaking (T:TX K mg a):MtB P w K mg base CX0 a.Leaking "at_turn" 7 ["self","turn"] (fZ a .lea):=by
 refine T.m_Leaking_at_turn.ok sc_Leaking_at_turn gZ (λ f cdv A outer s₀ H vs Q E hr h=>?_)
 obtain ⟨v,t,⟨n,s,g,kd,x,hi,co⟩,rfl,⟨p,vh,vc,q,rfl,W,⟨qc,rfl,fc⟩,hh⟩,hk,ok,k⟩:=h
 obtain rfl:kd=.lea:=hk
 refine ⟨_,(ag (au (i:=2) sc_Leaking_at_turn.nd rfl (Or.inl rfl) (ay (a9 T) hr am (aa (aO (pv 0) rfl) (aa (pv 1) ad))))
   (ag (au (i:=3) sc_Leaking_at_turn.nd rfl (Or.inl rfl) (ay (a9 T) hr am (aa (aO (pv 0) rfl) (aa (pv 1) ad))))
   (ah (aw (gE (eN T) hr T.mg_Leaking am (aa (ay (a9 T) hr am (aa (aO (pv 0) rfl) (aa (pv 1) ad))) (aa (pv 2) (aa (pv 3) (aa (aO (pv 0) rfl) (aa (aO (pv 0) rfl) (aa (aO (pv 0) rfl) ad))))))))))),?_⟩
 try dsimp only [aK,Cx.nox,Cx.wish]
 obtain ⟨dx,fs,ho,h5,hl⟩:=W.ob
 have c:=T.wL
 have ln:=ok.ln
 have ls:=ok.ls
 have lg:=ok.lg
 dsimp only at ln ls lg
 refine ⟨_,rfl,p,_,dx,fs,_,rfl,ho,c.cl,c.n2,h5.st,_,rfl,s,t,rfl,by omega,ok.t1,?_⟩
 refine ⟨_,rfl,p,_,dx,fs,_,rfl,ho,c.cl,c.n3,h5.go,_,rfl,g,t,rfl,by omega,ok.t1,?_⟩
 refine ⟨_,rfl,p,_,dx,fs,_,rfl,ho,c.cl,c.n1,h5.nm,_,rfl,n,t,rfl,by omega,ok.t1,_,rfl,_,rfl,_,rfl,p,_,dx,fs,_,rfl,ho,c.cl,T.na_Leaking_loss,hl (by nofun),_,rfl,p,_,dx,fs,_,rfl,ho,c.cl,c.n4,h5.hi,_,rfl,p,_,dx,fs,_,rfl,ho,c.cl,c.n5,h5.co,?_⟩
 exact mkL T (atT_ne (ok.ne (by nofun))) (W.fq (by nofun)) ok.ok (hh.ok ok.hi) λ q H' vc' q' nq ss W' co'=>k q H' nq ss ⟨q,_,_,q',rfl,W',by nofun,hG co' fc ss,hh.mono ss⟩
theorem turn_Store (T:TX K mg a):MtB P w K mg base CX0 a.Store "at_turn" 7 ["self","turn"] (fZ a .sto):=by
 refine T.m_Store_at_turn.ok sc_Store_at_turn gZ (λ f cdv A outer s₀ H vs Q E hr h=>?_)
 obtain ⟨v,t,⟨n,s,g,kd,x,hi,co⟩,rfl,⟨p,vh,vc,q,rfl,W,⟨qc,rfl,fc⟩,hh⟩,hk,ok,k⟩:=h
 obtain rfl:kd=.sto:=hk
 obtain rfl:s=g:=ok.eq rfl
 refine ⟨_,(ag (au (i:=2) sc_Store_at_turn.nd rfl (Or.inl rfl) (ay (a9 T) hr am (aa (aO (pv 0) rfl) (aa (pv 1) ad))))
   (ag (au (i:=3) sc_Store_at_turn.nd rfl (Or.inl rfl) (ay (a9 T) hr am (aa (aO (pv 0) rfl) (aa (ak aJ (pv 1) ae) ad))))
   (ah (aw (gE (eN T) hr T.mg_Leaking am (aa (ay (a9 T) hr am (aa (aO (pv 0) rfl) (aa (pv 1) ad))) (aa (pv 2) (aa (pv 3) (aa (aO (pv 0) rfl) (aa (aO (pv 0) rfl) (aa (aO (pv 0) rfl) ad))))))))))),?_⟩
 try dsimp only [aK,Cx.nox,Cx.wish]
 obtain ⟨dx,fs,ho,h5,hl⟩:=W.ob
 have c:=T.wS
 have ln:=ok.ln
 have ls:=ok.ls
 dsimp only at ln ls
 refine ⟨_,rfl,p,_,dx,fs,_,rfl,ho,c.cl,c.n2,h5.st,_,rfl,s,t,rfl,by omega,ok.t1,?_⟩
 refine ⟨_,rfl,p,_,dx,fs,_,rfl,ho,c.cl,c.n3,h5.go,_,rfl,_,_,rfl,rfl,s,t+1,rfl,by omega,ok.t2,?_⟩
 refine ⟨_,rfl,p,_,dx,fs,_,rfl,ho,c.cl,c.n1,h5.nm,_,rfl,n,t,rfl,by omega,ok.t1,_,rfl,_,rfl,_,rfl,p,_,dx,fs,_,rfl,ho,c.cl,T.na_Store_loss,hl (by nofun),_,rfl,p,_,dx,fs,_,rfl,ho,c.cl,c.n4,h5.hi,_,rfl,p,_,dx,fs,_,rfl,ho,c.cl,c.n5,h5.co,?_⟩
 exact mkL T (atT_next ok.t1) (W.fq (by nofun)) ok.ok (hh.ok ok.hi) λ q H' vc' q' nq ss W' co'=>k q H' nq ss ⟨q,_,_,q',rfl,W',by nofun,hG co' fc ss,hh.mono ss⟩
theorem turn_any (T:TX K mg a) (kd:Kd):MtB P w K mg base CX0 (kd.C a) "at_turn" 7 ["self","turn"] (fZ a kd):=by
 cases kd
 ·exact turn_Way T
 ·exact turn_Growing T
 ·exact turn_Leaking T
 ·exact turn_Store T
noncomputable def OwnIs (_:Hp) (v:V) (_:Unit):Prop:=v=.bl true
inductive IspRS (K:W.Frag) (a:Ad) (vs:List V) (H:Hp) (Q:VK):Prop
 | mk (p ls:Addr) (ps:List (Str × Rat)) (ds ss:List WD) (ts:List V) (h1:vs=[.ref p,.ref ls]) (h2:NetAt a H p ps ds) (h3:(ps.map (·.1)).Nodup) (h4:SqL K H ls ts) (h5:RowAt (WayE a) H ts ss) (h6:ss.length<=100) (h7:ds.length<=100) (h8:(∀ x∈ss,x.st∈ps.map (·.1))) (h9:(ds.map (·.nm)++ss.map (·.nm)).Nodup) (h10:∀ H',Same H H'->Q .non H'):IspRS K a vs H Q
noncomputable def spRS (K:W.Frag) (a:Ad):Sp:=λ vs H Q _=>IspRS K a vs H Q
theorem ok_refuse_stores (T:TX K mg a):FnB P w K mg base CX0 "refuse_stores" 2 ["net","stores"] (spRS K a):=by
 refine T.d_refuse_stores.ok sc_refuse_stores (λ vs H Q E h=>?_) (λ f cdv A outer s H vs Q E hr h=>?_)
 ·obtain ⟨_,_,_,_,_,_,rfl,_⟩:=h
  rfl
 ·obtain ⟨p,ls,ps,ds,ss,ts,rfl,hn,np,hS,hss,l1,l2,st,nd,k⟩:=h
  refine ⟨_,(ag (au (i:=2) sc_refuse_stores.nd rfl (Or.inl rfl) bL)
   (aX (aR ix rfl (aU (eU (CX:=CX0) (pv 0) hr am)) (aq (i:=3) sc_refuse_stores.nd rfl (Or.inl rfl)) (ah (bw (aZ hr) (pv 2) (aO (pv 3) rfl) f9 rfl)))
   (ah (aR ix rfl (aU (pv 1)) (aq (i:=4) sc_refuse_stores.nd rfl (Or.inl rfl)) (ag (aS (gH (pc_din (aZ hr) (aO (pv 4) rfl) (pv 2))) (ah cj) aE)
   (ag (aT (pe_mtD (CX:=CX0) (pv 0) hr am (aa (aO (pv 4) rfl) ad)))
   (ah (bw (aZ hr) (pv 2) (aO (pv 4) rfl) f9 rfl)))))))),?_⟩
  try dsimp only [aK,Cx.nox,Cx.wish]
  obtain ⟨dx,dw,dy,hp,hw,hy⟩:=id hn
  have noa:=eO dw dy (m:="all_ways") (by decide +kernel) (by decide +kernel)
  have noc:=eO dw dy (m:="want") (by decide +kernel) (by decide +kernel)
  have nd1:(ds.map (·.nm)).Nodup:=(jb.mp nd).1
  intro d nd0
  have s1:=aj (o:=.dK []) nd0
  have hd0:upd H d (.dK []) d=some (.dK []):=ac
  generalize upd H d (.dK [])=H1 at s1 hd0 ⊢
  refine ⟨λ σ' H'=>∃ z3 kvs,σ'=[some (.ref p),some (.ref ls),some (.ref d),z3,none]/\Same H H'/\H' d=some (.dK kvs)/\Tab OwnIs H' kvs (ds.map (·.nm)) (λ _=>()),?_,?_⟩
  ·refine ⟨_,rfl,p,a.Net,dx,_,1,["self"],spNAll a,rfl,s1 _ _ hp,noa,T.cl_Net,by decide,d8 T,p,ps,ds,rfl,hn.mono s1,λ lw H2 tw nlw s2 hlw hvw=>?_⟩
   have n2:lw≠d:=λ z=>by rw [z,hd0] at nlw;cases nlw
   refine ⟨lw,rfl,⟨_,SqL.of hlw⟩,bn (K:=K) (a:=lw) (xs:=tw) (λ i σ H3=>i<=ds.length/\∃ z3 kvs,σ=[some (.ref p),some (.ref ls),some (.ref d),z3,none]/\Same H H3/\H3 lw=some (.lst tw)/\RowAt (WayE a) H3 tw ds/\H3 d=some (.dK kvs)/\Tab OwnIs H3 kvs ((ds.map (·.nm)).take i) (λ _=>())) ⟨im _,_,[],rfl,s1.trans s2,hlw,⟨hvw.1,λ i u x e1 e2=>.of (hvw.2 i u x e1 e2)⟩,s2 _ _ hd0,Tab.nil⟩ (λ i σ H3 _ ⟨_,_,_,_,_,h,_⟩=>SqL.of h) ?_ ?_⟩
   ·rintro i x σ H3 hx ⟨_,z3,kvs,rfl,s3,hlw3,hr3,hd3,tb⟩
    obtain ⟨y,ey,p1,vh,vc,q,rfl,W,hc,hh⟩:=hr3.get hx
    have hi:=(hV.mp ey).1
    obtain ⟨dx1,fs1,ho1,h51,_⟩:=id W.ob
    have c1:=cT T y.kd
    have en:(ds.map (·.nm))[i]?=some y.nm:=by rw [iq,ey];rfl
    obtain ⟨tk,nk⟩:=bE nd1 en
    have lk:kvs.length<=900:=by rw [tb.len,iz,hZ];omega
    refine ⟨_,rfl,_,rfl,p1,_,dx1,fs1,_,rfl,ho1,c1.cl,c1.n1,h51.nm,d,_,rfl,DPut.k (k:=Sum.inr y.nm) hd3 (ax (by omega)),?_⟩
    have stay:Stays a H3 (upd H3 d (.dK (bo kvs (Sum.inr y.nm) (.bl true)))):=.put hd3 (λ _ _ _ z=>by cases z)
    refine ⟨hi,_,_,rfl,aC nd0 s3,by rw [ai n2];exact hlw3,hr3.mono (λ v x z=>z.keep stay),ac,?_⟩
    rw [tk,<- cu nk]
    exact (Tab.put (H:=upd H3 d (.dK (bo kvs (Sum.inr y.nm) (.bl true)))) (n:=y.nm) (y:=()) (tb.mono λ v x z=>z) rfl).congr λ _ _=>rfl
   ·rintro σ H3 ⟨_,z3,kvs,rfl,s3,_,_,hd3,tb⟩
    rw [hvw.1,show ds.length=(ds.map (·.nm)).length by rw [hZ],iB] at tb
    exact ⟨_,kvs,rfl,s3,hd3,tb⟩
  rintro σ' H2 ⟨z3,kvs,rfl,s2,hd2,tb2⟩
  refine ⟨_,rfl,ls,rfl,⟨_,s2.seq hS⟩,bn (K:=K) (a:=ls) (xs:=ts) (λ i σ H3=>i<=ss.length/\∃ z4 kvs,σ=[some (.ref p),some (.ref ls),some (.ref d),z3,z4]/\Same H H3/\H3 d=some (.dK kvs)/\Tab OwnIs H3 kvs (ds.map (·.nm)++(ss.map (·.nm)).take i) (λ _=>())) ⟨im _,_,kvs,rfl,s2,hd2,by rw [List.take_zero,jf];exact tb2⟩ (λ i σ H3 _ ⟨_,_,_,_,s3,_⟩=>s3.seq hS) ?_ ?_⟩
  ·rintro i x σ H3 hx ⟨_,z4,kvs,rfl,s3,hd3,tb⟩
   obtain ⟨y,ey,hy⟩:=hss.get hx
   have hi:=(hV.mp ey).1
   obtain ⟨p1,vh,vc,q,rfl,W,hc,hh⟩:=hy.mono s3
   obtain ⟨dx1,fs1,ho1,h51,_⟩:=id W.ob
   have c1:=cT T y.kd
   have en:(ss.map (·.nm))[i]?=some y.nm:=by rw [iq,ey];rfl
   obtain ⟨_,nd2,nd3⟩:=jb.mp nd
   obtain ⟨tk,nk⟩:=bE nd2 en
   have nk2:¬ y.nm∈ds.map (·.nm)++(ss.map (·.nm)).take i:=λ z=>by
    rcases iS.mp z with z | z
    ·exact nd3 _ z _ (ig en) rfl
    ·exact nk z
   have lk:kvs.length<=900:=by rw [tb.len,ir,iz,hZ,hZ];omega
   obtain ⟨j,hj⟩:=jj.mp (st y (ig ey))
   rw [iq] at hj
   cases ez:ps[j]? with
   | none=>rw [ez] at hj;cases hj
   | some z=>
    rw [ez] at hj
    have e1:z.1=y.st:=iG hj
    refine ⟨_,rfl,p1,_,dx1,fs1,_,rfl,ho1,c1.cl,c1.n1,h51.nm,_,rfl,d,_,rfl,DGet.k (k:=Sum.inr y.nm) hd3,_,rfl,?_⟩
    rw [tb.none nk2]
    refine iteF ?_
    refine ⟨_,rfl,p,a.Net,dx,_,1,["self","place"],spNWant a,rfl,s3 _ _ hp,noc,T.cl_Net,by decide,gd T,_,rfl,p1,_,dx1,fs1,_,rfl,ho1,c1.cl,c1.n2,h51.st,p,ps,ds,j,y.st,z.2,rfl,hn.mono s3,np,by rw [ez,<- e1],λ qw fw=>?_⟩
    refine ⟨_,rfl,_,rfl,p1,_,dx1,fs1,_,rfl,ho1,c1.cl,c1.n1,h51.nm,d,_,rfl,DPut.k (k:=Sum.inr y.nm) hd3 (ax (by omega)),?_⟩
    refine ⟨hi,_,_,rfl,aC nd0 s3,ac,?_⟩
    rw [tk,<- List.append_assoc,<- cu nk2]
    exact (Tab.put (H:=upd H3 d (.dK (bo kvs (Sum.inr y.nm) (.bl true)))) (n:=y.nm) (y:=()) (tb.mono λ v x z=>z) rfl).congr λ _ _=>rfl
  ·rintro σ H3 ⟨_,z4,kvs,rfl,s3,_⟩
   exact k H3 s3
noncomputable abbrev ck:=List Str × (Str->Rat)
noncomputable def DctIs (a:Ad) (H:Hp) (v:V) (r:ck):Prop:=∃ d kvs,v=.ref d/\H d=some (.dK kvs)/\Tab (FrIs a) H kvs r.1 r.2/\r.1.Nodup
theorem DctIs.mono {H H':Hp} {v:V} {r:ck} (h:DctIs a H v r) (s:Same H H'):DctIs a H' v r:=by
 obtain ⟨d,kvs,e,f,t,n⟩:=h
 exact ⟨d,kvs,e,s _ _ f,t.mono λ _ _ z=>FrIs.mono z s,n⟩
noncomputable def NetAp (a:Ad) (H:Hp) (p d:Addr) (ps:List (Str × Rat)) (ds:List WD):Prop:=∃ dx dw dy,H p=some (.ins a.Net dx (fsN dw dy))/\WantsAt a H dw ps/\WaysAt a H dy ds/\dw≠d/\dy≠d
theorem NetAp.mono {H H':Hp} {p d:Addr} {ps:List (Str × Rat)} {ds:List WD} (h:NetAp a H p d ps ds) (s:Same H H'):NetAp a H' p d ps ds:=by
 obtain ⟨dx,dw,dy,h1,h2,h3,n⟩:=h
 exact ⟨dx,dw,dy,s _ _ h1,h2.mono s,h3.mono s,n⟩
theorem NetAp.but {H H':Hp} {p d:Addr} {o:HO} {ps:List (Str × Rat)} {ds:List WD} (h:NetAp a H p d ps ds) (hd:H d=some o) (no:∀ C dx fs,o≠.ins C dx fs) (k:∀ b u,H b=some u->b≠d->H' b=some u):NetAt a H' p ps ds:=by
 obtain ⟨dx,dw,dy,h1,⟨kw,w1,w2,w3⟩,⟨ky,y1,y2,y3⟩,n1,n2⟩:=h
 have st:Stays a H H':=λ b C dx fs _ e=>k _ _ e λ z=>by rw [z,hd] at e;exact no _ _ _ (iG e)
 refine ⟨dx,dw,dy,k _ _ h1 (λ z=>by rw [z,hd] at h1;exact no _ _ _ (iG h1)),⟨kw,k _ _ w1 n1,w2,w3.mono λ v x ⟨q,e,f⟩=>⟨q,e,st.fr f⟩⟩,⟨ky,k _ _ y1 n2,y2,y3.mono λ v x z=>z.keep st⟩⟩
inductive IspRW (K:W.Frag) (a:Ad) (vs:List V) (H:Hp) (Q:VK):Prop
 | mk (p lw:Addr) (ps:List (Str × Rat)) (ds:List WD) (ws:List ck) (tw:List V) (h1:vs=[.ref p,.ref lw]) (h2:(ps.map (·.1)).Nodup) (h3:SqL K H lw tw) (h4:RowAt (DctIs a) H tw ws) (h5:(∀ d,V.ref d∈tw->NetAp a H p d ps ds)) (h6:(∀ r∈ws,∀ n∈r.1,n∈ps.map (·.1))) (h7:∀ H',Same H H'->Q .non H'):IspRW K a vs H Q
noncomputable def spRW (K:W.Frag) (a:Ad):Sp:=λ vs H Q _=>IspRW K a vs H Q
theorem ok_refuse_wants (T:TX K mg a):FnB P w K mg base CX0 "refuse_wants" 2 ["net","wants"] (spRW K a):=by
 refine T.d_refuse_wants.ok sc_refuse_wants (λ vs H Q E h=>?_) (λ f cdv A outer s H vs Q E hr h=>?_)
 ·obtain ⟨_,_,_,_,_,_,rfl,_⟩:=h
  rfl
 ·obtain ⟨p,lw,ps,ds,ws,tw,rfl,np,hW,hws,ap,sub,k⟩:=h
  refine ⟨_,(ah (aR ix rfl (aU (pv 1)) (aq (i:=2) sc_refuse_wants.nd rfl (Or.inl rfl)) (ah (eR (aR ix rfl (eS (pv 2)) (aq (i:=3) sc_refuse_wants.nd rfl (Or.inl rfl)) (ah (aT (pe_mtD (CX:=CX0) (pv 0) hr am (aa (pv 3) ad))))))))),?_⟩
  try dsimp only [aK,Cx.nox,Cx.wish]
  refine ⟨_,rfl,lw,rfl,⟨_,hW⟩,bn (K:=K) (a:=lw) (xs:=tw) (λ i σ H2=>∃ z2 z3,σ=[some (.ref p),some (.ref lw),z2,z3]/\Same H H2) ⟨_,_,rfl,Same.refl _⟩ (λ i σ H2 _ ⟨_,_,_,s2⟩=>s2.seq hW) ?_ ?_⟩
  ·rintro i x σ H2 hx ⟨z2,z3,rfl,s2⟩
   obtain ⟨r,er,hr0⟩:=hws.get hx
   obtain ⟨d,kvs,rfl,hd,tb,nk⟩:=hr0.mono s2
   have apd:=(ap d (ig hx)).mono s2
   refine ⟨d,.dK kvs,hd,(by intro o z e;cases e),_,rfl,d,kvs,rfl,hd,λ o=>?_⟩
   refine gj (a:=d) (o:=o) (kvs:=kvs) (λ j σ H3=>∃ z3,σ=[some (.ref p),some (.ref lw),some (.ref d),z3]/\H3 d=some (.frz o (.dK kvs))/\∀ b ob,H2 b=some ob->b≠d->H3 b=some ob)
    ⟨_,rfl,ac,λ b ob e ne=>by rw [ai ne];exact e⟩ (λ j σ H3 _ ⟨_,_,h,_⟩=>h) ?_ ?_
   ·rintro j kv σ H3 hkv ⟨z3',rfl,hf,k3⟩
    obtain ⟨n,en,e1,ev,_⟩:=tb.at_ nk hkv
    have ekv:kV kv.1=.str n:=by rw [e1];rfl
    rw [ekv]
    have hn3:=apd.but hd (by intro _ _ _ z;cases z) k3
    obtain ⟨dx,dw,dy,hp,_⟩:=id hn3
    have noc:=eO dw dy (m:="want") (by decide +kernel) (by decide +kernel)
    obtain ⟨m,hm⟩:=jj.mp (sub r (ig er) n (ig en))
    rw [iq] at hm
    cases ez:ps[m]? with
    | none=>rw [ez] at hm;cases hm
    | some z=>
     rw [ez] at hm
     have e2:z.1=n:=iG hm
     exact ⟨_,rfl,p,a.Net,dx,_,1,["self","place"],spNWant a,rfl,hp,noc,T.cl_Net,by decide,gd T,_,rfl,p,ps,ds,m,n,z.2,rfl,hn3,np,by rw [ez,<- e2],λ qw fw=>⟨_,rfl,hf,k3⟩⟩
   ·rintro σ H3 ⟨z3',rfl,hf,k3⟩
    refine ⟨o,hf,_,_,rfl,s2.trans λ b ob e=>?_⟩
    by_cases hb:b=d
    ·subst hb
     rw [ac,<- hd,e]
    ·rw [ai hb]
     exact k3 _ _ e hb
  ·rintro σ H2 ⟨z2,z3,rfl,s2⟩
   exact k H2 s2
noncomputable def wantF (r:ck) (z:Str × Rat):Rat:=if z.1∈r.1 then r.2 z.1 else z.2
noncomputable def placeF (t:Int) (r:ck) (z:Str × Rat):Str × Rat:=(atT z.1 t,wantF r z)
inductive IspPlA (a:Ad) (vs:List V) (H:Hp) (Q:VK):Prop
 | mk (p d:Addr) (t:Int) (ps:List (Str × Rat)) (ds:List WD) (r:ck) (h1:vs=[.ref p,.ref d,.int t]) (h2:NetAt a H p ps ds) (h3:(ps.map (·.1)).Nodup) (h4:DctIs a H (.ref d) r) (h5:ps.length<=100) (h6:(∀ z∈ps,z.1.length<=700)) (h7:Tn t) (h8:∀ l H' ts,H l=none->Same H H'->H' l=some (.lst ts)->RowAt (PlIs a) H' ts (ps.map (placeF t r))->Q (.ref l) H'):IspPlA a vs H Q
noncomputable def spPlA (a:Ad):Sp:=λ vs H Q _=>IspPlA a vs H Q
theorem ok_places_at (T:TX K mg a):FnB P w K mg base CX0 "places_at" 3 ["net","own_wants","turn"] (spPlA a):=by
 refine T.d_places_at.ok sc_places_at (λ vs H Q E h=>?_) (λ f cdv A outer s H vs Q E hr h=>?_)
 ·obtain ⟨_,_,_,_,_,_,rfl,_⟩:=h
  rfl
 ·obtain ⟨p,d,t,ps,ds,r,rfl,hn,np,hr0,l100,ln,ht,k⟩:=h
  refine ⟨_,(ah (aw (cV (xs:=["place"]) (rest:=["net","own_wants","turn"]) rfl (aU (eU (CX:=CX0) (pv 0) hr am))
   (λ pins fp C' s' H'=>(aq (i:=0) (show (["place","net","own_wants","turn"]:List Str).Nodup by decide +kernel) rfl (Or.inl rfl))) (λ pins fp C' s' H'=>cF)
   (λ pins fp C' s' H'=>(aV (aa (ay (a9 T) hr am (aa (pv 0) (aa (pv 3) ad))) (aa (eL (aZ hr) (pv 2) (pv 0) (pe_mtDK (CX:=CX0) (P:=P) (w:=w) (K:=K) (mg:=mg) (base:=base) rfl rfl rfl rfl rfl (pv 1) hr am (aa (pv 0) ad)) ⟨rfl,rfl,rfl,rfl⟩) ad))))
   (Clos.many (ys:=["turn","own_wants","net"]) rfl ⟨rfl,rfl,rfl,True.intro⟩ rfl (by decide +kernel)) (Reads.many (ys:=["net","own_wants","turn"]) (js:=[0,1,2]) ⟨⟨rfl,rfl,rfl⟩,⟨rfl,rfl,rfl⟩,⟨rfl,rfl,rfl⟩,True.intro⟩)))),?_⟩
  try dsimp only [aK,Cx.nox,Cx.wish]
  obtain ⟨d',kvs,e,hd,tb,nk⟩:=hr0
  cases e
  obtain ⟨dx,dw,dy,hp,hw,hy⟩:=id hn
  have nob:=eO dw dy (m:="names") (by decide +kernel) (by decide +kernel)
  have noc:=eO dw dy (m:="want") (by decide +kernel) (by decide +kernel)
  refine ⟨_,rfl,p,a.Net,dx,_,1,["self"],gQ a,rfl,hp,nob,T.cl_Net,by decide,fJ T,p,ps,ds,rfl,hn,λ ln' nln=>?_⟩
  have s1:=aj (o:=.lst (ps.map λ x=>V.str x.1)) nln
  have hln:upd H ln' (.lst (ps.map λ x=>V.str x.1)) ln'=some (.lst (ps.map λ x=>V.str x.1)):=ac
  generalize upd H ln' (.lst (ps.map λ x=>V.str x.1))=H1 at s1 hln ⊢
  refine ⟨ln',rfl,⟨_,SqL.of hln⟩,λ l nl=>?_⟩
  refine bB (K:=K) (a:=ln') (xs:=ps.map λ x=>V.str x.1) (λ i H2=>i<=ps.length/\Same H1 H2/\∃ ts,H2 l=some (.lst ts)/\RowAt (PlIs a) H2 ts ((ps.take i).map (placeF t r))) ⟨im _,aj nl,[],ac,RowAt.nil⟩ (λ i H2 ⟨_,s2,_⟩=>SqL.of (s2 _ _ hln)) ?_ ?_
  ·rintro i x H2 hx ⟨_,s2,ts,h2,hv⟩
   rw [iq] at hx
   cases ez:ps[i]? with
   | none=>rw [ez] at hx;cases hx
   | some z=>
    rw [ez] at hx
    cases hx
    have hi:i<ps.length:=(hV.mp ez).1
    have s12:=s1.trans s2
    have hd2:=s12 _ _ hd
    have lts:ts.length<=100:=by rw [hv.1,hZ,iz];omega
    have lz:=ln z (ig ez)
    refine g1 ⟨⟨[_],rfl,rfl⟩,yes ?_⟩
    refine ⟨_,rfl,_,rfl,z.1,t,rfl,by omega,ht,_,rfl,d,rfl,.inl ⟨kvs,.inl hd2⟩,_,rfl,?_⟩
    refine ⟨_,rfl,p,a.Net,dx,_,1,["self","place"],spNWant a,rfl,s12 _ _ hp,noc,T.cl_Net,by decide,gd T,_,rfl,p,ps,ds,i,z.1,z.2,rfl,hn.mono s12,np,ez,λ qw fw=>?_⟩
    obtain ⟨y,ey,fy⟩:∃ y,(bY kvs (Sum.inr z.1)).getD (.ref qw)=.ref y/\FrAt a.Fraction H2 y (wantF r z):=by
     unfold wantF
     by_cases hz:z.1∈r.1
     ·obtain ⟨v,ev,q,rfl,fq⟩:=tb.vals z.1 hz
      rw [ev,if_pos hz]
      exact ⟨q,rfl,fq.mono s12⟩
     ·rw [tb.none hz,if_neg hz]
      exact ⟨qw,rfl,fw⟩
    refine ⟨bY kvs (Sum.inr z.1),.inl ⟨kvs,Sum.inr z.1,.inl hd2,rfl,rfl⟩,?_⟩
    rw [ey]
    refine ⟨by show 2<=sizeLine;decide,λ t2 nt2=>?_⟩
    have s3:=aj (o:=.tup [.str (atT z.1 t),.ref y]) nt2
    have ht2:upd H2 t2 (.tup [.str (atT z.1 t),.ref y]) t2=some (.tup [.str (atT z.1 t),.ref y]):=ac
    generalize upd H2 t2 (.tup [.str (atT z.1 t),.ref y])=H3 at s3 ht2 ⊢
    have h3:=s3 _ _ h2
    refine ⟨_,h3,ax (by omega),dj (by rw [hZ];exact hi) ⟨hi,aC nl (s2.trans s3),_,ac,?_⟩⟩
    rw [iH,ez,iE,iu]
    exact RowAt.snoc (hv.mono λ v x z=>(z.mono s3).ko (.lst h3)) (PlIs.ko ⟨t2,y,rfl,ht2,fy.mono s3⟩ (.lst h3))
  ·rintro H2 ⟨_,s2,ts,h2,hv⟩
   rw [hZ,iB] at hv
   exact k l H2 ts (s1.free nl) (s1.trans s2) h2 hv
noncomputable def psN (ps:List (Str × Rat)) (ws:List ck):Nat->List (Str × Rat)
 | 0=>[]
 | i+1=>psN ps ws i++ps.map (placeF ((i+1:Nat):Int) (ws.getD i ([],λ _=>0)))
noncomputable def dsN (ds ss:List WD) (n:Nat):Nat->List WD
 | 0=>[]
 | i+1=>dsN ds ss n i++ds.map (atD ((i+1:Nat):Int))++(if i+1<n then ss.map (atD ((i+1:Nat):Int)) else [])
theorem psN_len (ps:List (Str × Rat)) (ws:List ck):∀ i,(psN ps ws i).length=i*ps.length
 | 0=>by rw [Nat.zero_mul];rfl
 | i+1=>by
  show (psN ps ws i++_).length=_
  rw [ir,psN_len ps ws i,hZ,Nat.succ_mul]
theorem dsN_len (ds ss:List WD) (n:Nat):∀ i,(dsN ds ss n i).length<=i*(ds.length+ss.length)
 | 0=>im _
 | i+1=>by
  have ih:=dsN_len ds ss n i
  show (dsN ds ss n i++_++_).length<=_
  rw [ir,ir,hZ,Nat.succ_mul]
  have:(if i+1<n then ss.map (atD ((i+1:Nat):Int)) else []).length<=ss.length:=by
   split
   ·rw [hZ];exact ic _
   ·exact im _
  omega
structure TuIn (K:W.Frag) (a:Ad) (H:Hp) (p ls lw:Addr) (ps:List (Str × Rat)) (ds ss:List WD) (ws:List ck) (ts tw:List V):Prop where
 net:NetAt a H p ps ds
 np:(ps.map (·.1)).Nodup
 hs:SqL K H ls ts
 rs:RowAt (WayE a) H ts ss
 hw:SqL K H lw tw
 rw:RowAt (DctIs a) H tw ws
 ap:∀ d,V.ref d∈tw->NetAp a H p d ps ds
 sub:∀ r∈ws,∀ n∈r.1,n∈ps.map (·.1)
 st:∀ x∈ss,x.st∈ps.map (·.1)
 nd:(ds.map (·.nm)++ss.map (·.nm)).Nodup
 lp:ps.length<=12
 ld:ds.length<=12
 lss:ss.length<=12
 lws:ws.length<=12
 ln:∀ z∈ps,z.1.length<=700
 td:∀ x∈ds,∀ t:Nat,t<=13->TrnOk x (t:Int)
 ts':∀ x∈ss,∀ t:Nat,t<=13->TrnOk x (t:Int)
 ok:NetOk (psN ps ws ws.length) (dsN ds ss ws.length ws.length)
theorem cU {t:Nat} (h:t<=1000):Tn (t:Int):=⟨by omega,by
 have:(1000:Nat)<2 ^ 200:=by decide
 omega⟩
inductive IspTurned (K:W.Frag) (a:Ad) (vs:List V) (H:Hp) (Q:VK):Prop
 | mk (p ls lw:Addr) (ps:List (Str × Rat)) (ds ss:List WD) (ws:List ck) (ts tw:List V) (h1:vs=[.ref p,.ref ls,.ref lw]) (h2:TuIn K a H p ls lw ps ds ss ws ts tw) (h3:∀ q H',H q=none->Same H H'->NetNew a H H' q (psN ps ws ws.length) (dsN ds ss ws.length ws.length)->Q (.ref q) H'):IspTurned K a vs H Q
noncomputable def spTurned (K:W.Frag) (a:Ad):Sp:=λ vs H Q _=>IspTurned K a vs H Q
theorem ok_turned (T:TX K mg a):FnB P w K mg base CX0 "turned" 9 ["net","stores","wants"] (spTurned K a):=by
 refine T.d_turned.ok sc_turned (λ vs H Q E h=>?_) (λ f cdv A outer s H vs Q E hr h=>?_)
 ·obtain ⟨_,_,_,_,_,_,_,_,_,rfl,_⟩:=h
  rfl
 ·obtain ⟨p,ls,lw,ps,ds,ss,ws,ts,tw,rfl,D,k⟩:=h
  refine ⟨_,(ag (aT (ay (ok_refuse_stores T) hr am (aa (pv 0) (aa (pv 1) ad))))
   (ag (aT (ay (ok_refuse_wants T) hr am (aa (pv 0) (aa (pv 2) ad))))
   (ag (au (i:=3) sc_turned.nd rfl (Or.inl rfl) (dR ad))
   (ag (au (i:=4) sc_turned.nd rfl (Or.inl rfl) (dR ad))
   (aX (aR ix rfl (pi_enum1 (by rfl) T.z_enumerate (aa (pv 2) ad)) (dm rfl (aF (aq (i:=5) sc_turned.nd rfl (Or.inr rfl)) (aF (aq (i:=6) sc_turned.nd rfl (Or.inl rfl)) cG))) (ag (aT (eV iO PySem.F.slot_list_extend PySem.F.type_list_extend fz (pv 3) (aa (ay (ok_places_at T) hr am (aa (pv 0) (aa (pv 6) (aa (pv 5) ad)))) ad)))
   (ag (aT (eV iO PySem.F.slot_list_extend PySem.F.type_list_extend fz (pv 4) (aa (cV (xs:=["way"]) (rest:=["turn"]) rfl (aU (eU (CX:=CX0) (pv 0) hr am))
   (λ pins fp C' s' H'=>(aq (i:=0) (show (["way","turn"]:List Str).Nodup by decide +kernel) rfl (Or.inl rfl))) (λ pins fp C' s' H'=>cF)
   (λ pins fp C' s' H'=>(pe_mtDK (CX:=CX0) (P:=P) (w:=w) (K:=K) (mg:=mg) (base:=base) rfl rfl rfl rfl rfl (pv 0) hr am (aa (pv 1) ad)))
   (Clos.many (ys:=["turn"]) rfl ⟨rfl,True.intro⟩ rfl (by decide +kernel)) (Reads.many (ys:=["turn"]) (js:=[5]) ⟨⟨rfl,rfl,rfl⟩,True.intro⟩)) ad)))
   (ah (aS (aG gX (pv 5) (aH a8 (by rfl) T.z_len iU (aa (pv 2) ad)) (aM _)) (ah (aT (eV iO PySem.F.slot_list_extend PySem.F.type_list_extend fz (pv 4) (aa (cV (xs:=["store"]) (rest:=["turn"]) rfl (aU (pv 1))
   (λ pins fp C' s' H'=>(aq (i:=0) (show (["store","turn"]:List Str).Nodup by decide +kernel) rfl (Or.inl rfl))) (λ pins fp C' s' H'=>cF)
   (λ pins fp C' s' H'=>(pe_mtDK (CX:=CX0) (P:=P) (w:=w) (K:=K) (mg:=mg) (base:=base) rfl rfl rfl rfl rfl (pv 0) hr am (aa (pv 1) ad)))
   (Clos.many (ys:=["turn"]) rfl ⟨rfl,True.intro⟩ rfl (by decide +kernel)) (Reads.many (ys:=["turn"]) (js:=[5]) ⟨⟨rfl,rfl,rfl⟩,True.intro⟩)) ad)))) aE)))))
   (ah (aw (gE (mk_Net T) hr T.mg_Net am (aa (pv 3) (aa (pv 4) ad)))))))))),?_⟩
  try dsimp only [aK,Cx.nox,Cx.wish]
  have lp:=D.lp
  have ld:=D.ld
  have lss:=D.lss
  have lws:=D.lws
  refine ⟨_,rfl,_,rfl,p,ls,ps,ds,ss,ts,rfl,D.net,D.np,D.hs,D.rs,by omega,by omega,D.st,D.nd,λ H1 s1=>?_⟩
  refine ⟨_,rfl,_,rfl,p,lw,ps,ds,ws,tw,rfl,D.np,s1.seq D.hw,D.rw.mono (λ _ _ z=>z.mono s1),λ d hd=>(D.ap d hd).mono s1,D.sub,λ H2 s2'=>?_⟩
  have s2:=s1.trans s2'
  refine ⟨by decide,λ l1 nl1=>?_⟩
  have nl1':=s2.free nl1
  have s3:=s2.trans (aj (o:=.lst []) nl1)
  have h1:upd H2 l1 (.lst []) l1=some (.lst []):=ac
  generalize upd H2 l1 (.lst [])=H3 at s3 h1 ⊢
  refine ⟨by decide,λ l2 nl2=>?_⟩
  have nl2':=s3.free nl2
  have n12:l1≠l2:=λ z=>by rw [z,nl2] at h1;cases h1
  have s4:=s3.trans (aj (o:=.lst []) nl2)
  have h2:upd H3 l2 (.lst []) l2=some (.lst []):=ac
  have h12:=aj (o:=.lst []) nl2 _ _ h1
  generalize upd H3 l2 (.lst [])=H4 at s4 h2 h12 ⊢
  clear h1 s3
  refine ⟨λ σ' H'=>∃ z5 z6 t1 t2,σ'=[some (.ref p),some (.ref ls),some (.ref lw),some (.ref l1),some (.ref l2),z5,z6]/\Same H H'/\H' l1=some (.lst t1)/\H' l2=some (.lst t2)/\RowAt (PlIs a) H' t1 (psN ps ws ws.length)/\RowAt (WayIs a) H' t2 (dsN ds ss ws.length ws.length),?_,?_⟩
  ·have ltw:tw.length=ws.length:=D.rw.1
   refine ⟨_,rfl,lw,tw,rfl,s4.seq D.hw,for_enum1 (K:=K) (a:=lw) (xs:=tw) (λ i σ H5=>i<=ws.length/\∃ z5 z6 t1 t2,σ=[some (.ref p),some (.ref ls),some (.ref lw),some (.ref l1),some (.ref l2),z5,z6]/\Same H H5/\H5 l1=some (.lst t1)/\H5 l2=some (.lst t2)/\RowAt (PlIs a) H5 t1 (psN ps ws i)/\RowAt (WayIs a) H5 t2 (dsN ds ss ws.length i)) ⟨im _,_,_,[],[],rfl,s4,h12,h2,RowAt.nil,RowAt.nil⟩ (λ i σ H5 ⟨_,_,_,_,_,_,s5,_⟩=>s5.seq D.hw) ?_ ?_⟩
   ·rintro i x tt σ H5 hx ntt ⟨_,z5,z6,t1,t2,rfl,s5,h15,h25,hr1,hr2⟩
    obtain ⟨r,er,hr0⟩:=D.rw.get hx
    have hi:i<ws.length:=(hV.mp er).1
    obtain ⟨d,kvs,rfl,_⟩:=id hr0
    have er':ws.getD i ([],λ _=>0)=r:=by rw [iR,er];rfl
    have s6':=aj (o:=.tup [.int ((i+1:Nat):Int),.ref d]) ntt
    have htt:upd H5 tt (.tup [.int ((i+1:Nat):Int),.ref d]) tt=some (.tup [.int ((i+1:Nat):Int),.ref d]):=ac
    generalize upd H5 tt (.tup [.int ((i+1:Nat):Int),.ref d])=H6 at s6' htt ⊢
    have s6:=s5.trans s6'
    have h16:=s6' _ _ h15
    have h26:=s6' _ _ h25
    have b1:(psN ps ws i).length<=12*12:=by rw [psN_len];exact i4 (by omega) lp
    have b2:(dsN ds ss ws.length i).length<=12*24:=ie (dsN_len _ _ _ _) (i4 (by omega) (by omega))
    have lt1:t1.length<=144:=by rw [hr1.1];exact b1
    have lt2:t2.length<=288:=by rw [hr2.1];exact b2
    refine ⟨tt,_,rfl,SqT.of htt,rfl,_,_,rfl,_,_,rfl,rfl,?_⟩
    refine ⟨_,rfl,.inl ⟨rfl,_,SqL.of h16⟩,?_⟩
    refine ⟨_,rfl,_,rfl,_,rfl,p,d,((i+1:Nat):Int),ps,ds,r,rfl,D.net.mono s6,D.np,hr0.mono s6,by omega,D.ln,cU (by omega),λ l3 H7 t3 nl3 s7 h3 hr3=>?_⟩
    have h17:=s7 _ _ h16
    have l13:t3.length<=12:=by rw [hr3.1,hZ];exact lp
    refine ⟨l1,l3,_,_,rfl,rfl,h17,h3,ie (show _<=1000 by omega) (Nat.le_of_lt (ax (ic 1000))),?_⟩
    have ko:KeepO H7 (upd H7 l1 (.lst (t1++t3))):=.lst h17
    have hr1':RowAt (PlIs a) (upd H7 l1 (.lst (t1++t3))) (t1++t3) (psN ps ws (i+1)):=by
     show RowAt _ _ _ (psN ps ws i++ps.map (placeF ((i+1:Nat):Int) (ws.getD i ([],λ _=>0))))
     rw [er']
     exact RowAt.app (hr1.mono λ v x z=>(z.mono (s6'.trans s7)).ko ko) (hr3.mono λ v x z=>z.ko ko)
    have hr2':RowAt (WayIs a) (upd H7 l1 (.lst (t1++t3))) t2 (dsN ds ss ws.length i):=hr2.mono λ v x z=>(z.mono (s6'.trans s7)).ko ko
    have s8:Same H (upd H7 l1 (.lst (t1++t3))):=aC nl1' (s6.trans s7)
    have h18:upd H7 l1 (.lst (t1++t3)) l1=some (.lst (t1++t3)):=ac
    have h28:upd H7 l1 (.lst (t1++t3)) l2=some (.lst t2):=by rw [ai n12.symm];exact s7 _ _ h26
    generalize upd H7 l1 (.lst (t1++t3))=H8 at hr1' hr2' s8 h18 h28 ⊢
    clear hr1 hr2 hr3 h3 h17 ko
    have hn8:=D.net.mono s8
    obtain ⟨dx,dw,dy,hp,hw,hy⟩:=id hn8
    have noa:=eO dw dy (m:="all_ways") (by decide +kernel) (by decide +kernel)
    refine ⟨_,rfl,.inl ⟨rfl,_,SqL.of h28⟩,?_⟩
    refine ⟨_,rfl,p,a.Net,dx,_,1,["self"],spNAll a,rfl,hp,noa,T.cl_Net,by decide,d8 T,p,ps,ds,rfl,hn8,λ la H9 ta nla s9 hla hra=>?_⟩
    refine ⟨la,rfl,⟨_,SqL.of hla⟩,λ q nq=>?_⟩
    refine bB (K:=K) (a:=la) (xs:=ta) (λ j H10=>j<=ds.length/\Same H9 H10/\∃ us,H10 q=some (.lst us)/\RowAt (WayIs a) H10 us ((ds.take j).map (atD ((i+1:Nat):Int)))) ⟨im _,aj nq,[],ac,RowAt.nil⟩ (λ j H10 ⟨_,s10,_⟩=>SqL.of (s10 _ _ hla)) ?_ ?_
    ·rintro j y H10 hy ⟨_,s10,us,h10,hv⟩
     obtain ⟨e,ee,he⟩:=hra.get hy
     have hj:j<ds.length:=(hV.mp ee).1
     have lus:us.length<=100:=by rw [hv.1,hZ,iz];omega
     have he10:=WayE.of (he.mono s10)
     obtain ⟨p1,vh,vc,qx,rfl,W,_⟩:=id he10
     obtain ⟨dx1,fs1,ho1,h51,_⟩:=id W.ob
     refine g1 ⟨⟨[_],rfl,rfl⟩,yes ?_⟩
     refine ⟨_,rfl,p1,_,dx1,fs1,7,["self","turn"],fZ a e.kd,rfl,ho1,h51.ou,(cT T e.kd).cl,by decide,turn_any T e.kd,_,rfl,.ref p1,((i+1:Nat):Int),e,rfl,he10,rfl,D.td e (ig ee) (i+1) (by omega),λ p2 H11 np2 s11 W2=>?_⟩
     have h11:=s11 _ _ h10
     refine ⟨_,h11,ax (by omega),dj (by rw [hra.1];exact hj) ⟨hj,aC nq (s10.trans s11),_,ac,?_⟩⟩
     rw [iH,ee,iE,iu]
     exact RowAt.snoc (hv.mono λ v x z=>(z.mono s11).ko (.lst h11)) (W2.ko (.lst h11))
    rintro H10 ⟨_,s10,us,h10,hv⟩
    rw [hra.1,iB] at hv
    have s810:=s9.trans s10
    have h210:=s810 _ _ h28
    have lus:us.length<=12:=by rw [hv.1,hZ];exact ld
    refine ⟨l2,q,_,_,rfl,rfl,h210,h10,ie (show _<=1000 by omega) (Nat.le_of_lt (ax (ic 1000))),?_⟩
    have ko2:KeepO H10 (upd H10 l2 (.lst (t2++us))):=.lst h210
    have hr1x:RowAt (PlIs a) (upd H10 l2 (.lst (t2++us))) (t1++t3) (psN ps ws (i+1)):=hr1'.mono λ v x z=>(z.mono s810).ko ko2
    have hr2x:RowAt (WayIs a) (upd H10 l2 (.lst (t2++us))) (t2++us) (dsN ds ss ws.length i++ds.map (atD ((i+1:Nat):Int))):=RowAt.app (hr2'.mono λ v x z=>(z.mono s810).ko ko2) (hv.mono λ v x z=>z.ko ko2)
    have s11:Same H (upd H10 l2 (.lst (t2++us))):=aC nl2' (s8.trans s810)
    have h111:upd H10 l2 (.lst (t2++us)) l1=some (.lst (t1++t3)):=by rw [ai n12];exact s810 _ _ h18
    have h211:upd H10 l2 (.lst (t2++us)) l2=some (.lst (t2++us)):=ac
    generalize upd H10 l2 (.lst (t2++us))=H11 at hr1x hr2x s11 h111 h211 ⊢
    clear hr1' hr2' hv h10 h210 ko2
    refine ⟨_,rfl,_,rfl,lw,_,rfl,.inl (s11.seq D.hw),_,_,rfl,rfl,_,rfl,?_⟩
    by_cases hlt:i+1<ws.length
    ·refine iteC (iM (show ((i+1:Nat):Int)<(tw.length:Int) by omega)) ?_
     refine ⟨_,rfl,.inl ⟨rfl,_,SqL.of h211⟩,?_⟩
     refine ⟨_,rfl,ls,rfl,⟨_,s11.seq D.hs⟩,λ q2 nq2=>?_⟩
     refine bB (K:=K) (a:=ls) (xs:=ts) (λ j H12=>j<=ss.length/\Same H11 H12/\∃ us2,H12 q2=some (.lst us2)/\RowAt (WayIs a) H12 us2 ((ss.take j).map (atD ((i+1:Nat):Int)))) ⟨im _,aj nq2,[],ac,RowAt.nil⟩ (λ j H12 ⟨_,s12,_⟩=>s12.seq (s11.seq D.hs)) ?_ ?_
     ·rintro j y H12 hy ⟨_,s12,us2,h12',hv⟩
      obtain ⟨e,ee,he⟩:=D.rs.get hy
      have hj:j<ss.length:=(hV.mp ee).1
      have lus2:us2.length<=100:=by rw [hv.1,hZ,iz];omega
      have he10:=he.mono (s11.trans s12)
      obtain ⟨p1,vh,vc,qx,rfl,W,_⟩:=id he10
      obtain ⟨dx1,fs1,ho1,h51,_⟩:=id W.ob
      refine g1 ⟨⟨[_],rfl,rfl⟩,yes ?_⟩
      refine ⟨_,rfl,p1,_,dx1,fs1,7,["self","turn"],fZ a e.kd,rfl,ho1,h51.ou,(cT T e.kd).cl,by decide,turn_any T e.kd,_,rfl,.ref p1,((i+1:Nat):Int),e,rfl,he10,rfl,D.ts' e (ig ee) (i+1) (by omega),λ p2 H13 np2 s13 W2=>?_⟩
      have h13:=s13 _ _ h12'
      refine ⟨_,h13,ax (by omega),dj (by rw [D.rs.1];exact hj) ⟨hj,aC nq2 (s12.trans s13),_,ac,?_⟩⟩
      rw [iH,ee,iE,iu]
      exact RowAt.snoc (hv.mono λ v x z=>(z.mono s13).ko (.lst h13)) (W2.ko (.lst h13))
     rintro H12 ⟨_,s12,us2,h12',hv⟩
     rw [D.rs.1,iB] at hv
     have h212:=s12 _ _ h211
     have lus2:us2.length<=12:=by rw [hv.1,hZ];exact lss
     refine ⟨l2,q2,_,_,rfl,rfl,h212,h12',ie (show _<=1000 by rw [ir];omega) (Nat.le_of_lt (ax (ic 1000))),?_⟩
     have ko3:KeepO H12 (upd H12 l2 (.lst (t2++us++us2))):=.lst h212
     refine ⟨hi,_,_,_,_,rfl,aC nl2' (s11.trans s12),by rw [ai n12];exact s12 _ _ h111,ac,hr1x.mono λ v x z=>(z.mono s12).ko ko3,?_⟩
     show RowAt _ _ _ (dsN ds ss ws.length i++ds.map (atD ((i+1:Nat):Int))++(if i+1<ws.length then ss.map (atD ((i+1:Nat):Int)) else []))
     rw [if_pos hlt]
     exact RowAt.app (hr2x.mono λ v x z=>(z.mono s12).ko ko3) (hv.mono λ v x z=>z.ko ko3)
    ·refine fM (iF (show ¬ ((i+1:Nat):Int)<(tw.length:Int) by omega)) ?_
     refine ⟨hi,_,_,_,_,rfl,s11,h111,h211,hr1x,?_⟩
     show RowAt _ _ _ (dsN ds ss ws.length i++ds.map (atD ((i+1:Nat):Int))++(if i+1<ws.length then ss.map (atD ((i+1:Nat):Int)) else []))
     rw [if_neg hlt,jf]
     exact hr2x
   ·rintro σ H5 ⟨_,z5,z6,t1,t2,rfl,s5,h15,h25,hr1,hr2⟩
    rw [ltw] at hr1 hr2
    exact ⟨_,_,t1,t2,rfl,s5,h15,h25,hr1,hr2⟩
  clear h12 h2 s4
  rintro σ' H5 ⟨z5,z6,t1,t2,rfl,s5,h15,h25,hr1,hr2⟩
  refine ⟨_,rfl,_,rfl,?_⟩
  intro q dq n1 n2 n3
  have sq:=fh (C:=a.Net) n1 n2
  exact ⟨q,dq,l1,l2,t1,t2,_,_,rfl,ac,sq.seq (SqL.of h15),hr1.mono (λ v x z=>z.mono sq),sq.seq (SqL.of h25),hr2.mono (λ v x z=>z.mono sq),D.ok,λ H' hs' hn'=>⟨rfl,k q H' (s5.free n1) (s5.trans (fj n1 n2 hs')) (let ⟨d1,d2,d3,g1,g2,g3,g4,g5⟩:=hn';⟨d1,d2,d3,g1,g2,g3,(s5.trans sq).free g4,(s5.trans sq).free g5⟩)⟩⟩
theorem sgn_zero {x:Rat}:sgn x=0↔x=0:=by
 unfold sgn
 constructor
 ·intro h
  have:x.num=0:=by
   split at h
   ·cases h
   ·split at h
    ·cases h
    ·omega
  exact Rat.num_eq_zero.mp this
 ·rintro rfl
  rfl
noncomputable def fO (f:Str->Rat) (ks:List Str):List Str:=ks.filter (λ n=>decide (f n≠0))
theorem some0_snoc (f:Str->Rat) (ks:List Str) (n:Str):fO f (ks++[n])=if f n=0 then fO f ks else fO f ks++[n]:=by
 unfold fO
 rw [List.filter_append]
 by_cases h:f n=0
 ·rw [if_pos h]
  simp [h]
 ·rw [if_neg h]
  simp [h]
inductive IspNoughts (a:Ad) (vs:List V) (H:Hp) (Q:VK):Prop
 | mk (d:Addr) (kvs:List (Key × V)) (ks:List Str) (f:Str->Rat) (h1:vs=[.ref d]) (h2:H d=some (.dK kvs)) (h3:Tab (FrIs a) H kvs ks f) (h4:ks.Nodup) (h5:ks.length<=900) (h6:∀ r H' kvs',H r=none->Same H H'->H' r=some (.dK kvs')->Tab (FrIs a) H' kvs' (fO f ks) f->Q (.ref r) H'):IspNoughts a vs H Q
noncomputable def spNoughts (a:Ad):Sp:=λ vs H Q _=>IspNoughts a vs H Q
theorem gI (T:TX K mg a):FnB P w K mg base CX0 "without_noughts" 5 ["plan"] (spNoughts a):=by
 refine T.d_without_noughts.ok sc_without_noughts (λ vs H Q E h=>?_) (λ f cdv A outer s H vs Q E hr h=>?_)
 ·obtain ⟨_,_,_,_,rfl,_⟩:=h
  rfl
 ·obtain ⟨d,kvs,ks,f,rfl,hd,tb,nd,hl,k⟩:=h
  refine ⟨_,(ag (au (i:=1) sc_without_noughts.nd rfl (Or.inl rfl) bL)
   (ag (eR (aR ix rfl (pi_items (pv 0)) (dm rfl (aF (aq (i:=2) sc_without_noughts.nd rfl (Or.inl rfl)) (aF (aq (i:=3) sc_without_noughts.nd rfl (Or.inl rfl)) cG))) (ah (aS (aG op_ne (pe_frm0 T.fr (pv 3) (ok_sign T) hr am) ae (aM _)) (ah (bw (aZ hr) (pv 1) (pv 2) (pv 3) rfl)) aE))))
   (ah (aw (pv 1))))),?_⟩
  try dsimp only [aK,Cx.nox,Cx.wish]
  intro r nr
  have s0:Same H (upd H r (.dK [])):=aj nr
  have hd0:=s0 _ _ hd
  have hr0:upd H r (.dK []) r=some (.dK []):=ac
  have tb0:=tb.mono λ v x z=>z.mono s0
  generalize upd H r (.dK [])=H0 at s0 hd0 hr0 tb0 ⊢
  have ndr:d≠r:=λ z=>by rw [z,nr] at hd;cases hd
  refine ⟨d,.dK kvs,hd0,(by intro o z e;cases e),_,rfl,d,kvs,rfl,hd0,λ o=>?_⟩
  refine for_items (a:=d) (o:=o) (kvs:=kvs) (λ i σ H2=>i<=ks.length/\∃ z2 z3 kv2,σ=[some (.ref d),some (.ref r),z2,z3]/\H2 d=some (.frz o (.dK kvs))/\(∀ b ob,H b=some ob->b≠d->H2 b=some ob)/\KeepD H0 H2/\H2 r=some (.dK kv2)/\Tab (FrIs a) H2 kv2 (fO f (ks.take i)) f)
   ⟨im _,_,_,[],rfl,ac,(λ b ob e ne=>by rw [ai ne];exact s0 _ _ e),KeepD.put hd0,by rw [ai ndr.symm];exact hr0,Tab.nil⟩ (λ i σ H2 _ ⟨_,_,_,_,_,h,_⟩=>h) ?_ ?_
  ·rintro i kv t σ H2 hkv nt ⟨_,z2,z3,kv2,rfl,hf,k2,kp,hr2,tb2⟩
   obtain ⟨n,en,e1,ev,q,eq,fq⟩:=tb0.at_ nd hkv
   have hi:i<ks.length:=(hV.mp en).1
   have ekv:kV kv.1=.str n:=by rw [e1];rfl
   rw [ekv,eq]
   have s3:=aj (o:=.tup [.str n,.ref q]) nt
   have ht:upd H2 t (.tup [.str n,.ref q]) t=some (.tup [.str n,.ref q]):=ac
   generalize upd H2 t (.tup [.str n,.ref q])=H3 at s3 ht ⊢
   have fq3:FrAt a.Fraction H3 q (f n):=by
    obtain ⟨q',e',f'⟩:=FrIs.keep ⟨q,rfl,fq⟩ (kp.trans (.of s3))
    cases e'
    exact f'
   obtain ⟨tk,nk⟩:=bE nd en
   refine ⟨t,[.str n,.ref q],rfl,SqT.of ht,rfl,.str n,[.ref q],rfl,⟨.ref q,[],rfl,⟨rfl,?_⟩⟩⟩
   have fr:=fq3
   refine ⟨_,rfl,q,_,rfl,fq3,?_⟩
   walk_at "rd"
   by_cases hz:f n=0
   ·refine fM (by rw [sgn_zero.mpr hz];rfl) ?_
    refine ⟨hi,_,_,kv2,rfl,s3 _ _ hf,(λ b ob e ne=>s3 _ _ (k2 _ _ e ne)),kp.trans (.of s3),s3 _ _ hr2,?_⟩
    rw [tk,some0_snoc,if_pos hz]
    exact tb2.mono λ v x z=>z.mono s3
   ·refine iteC (by
     rw [iF (λ z=>hz (sgn_zero.mp (V.int.inj z)))];rfl) ?_
    have hr3:=s3 _ _ hr2
    have ns0:¬ n∈fO f (ks.take i):=λ z=>nk (List.mem_filter.mp z).1
    have ls:kv2.length<=900:=by
     rw [tb2.len]
     have h1:=List.length_filter_le (λ n=>decide (f n≠0)) (ks.take i)
     rw [iz] at h1
     unfold fO
     omega
    refine ⟨_,rfl,_,rfl,_,rfl,r,_,rfl,DPut.k (k:=Sum.inr n) hr3 (ax (by omega)),?_⟩
    have kp3:KeepD H3 (upd H3 r (.dK (bo kv2 (Sum.inr n) (.ref q)))):=KeepD.put hr3
    refine ⟨hi,_,_,_,rfl,by rw [ai ndr];exact s3 _ _ hf,(λ b ob e ne=>?_),(kp.trans (.of s3)).trans kp3,ac,?_⟩
    ·rw [ai (av e nr)]
     exact s3 _ _ (k2 _ _ e ne)
    ·rw [tk,some0_snoc,if_neg hz,<- cu ns0]
     refine (Tab.put (tb2.mono λ v x z=>(z.mono s3).keep kp3) (y:=f n) (FrIs.keep ⟨q,rfl,fq3⟩ kp3)).congr λ m _=>?_
     unfold upf
     split
     ·rename_i e
      rw [e]
     ·rfl
  ·rintro σ H2 ⟨_,z2,z3,kv2,rfl,hf,k2,kp,hr2,tb2⟩
   rw [tb.len,iB] at tb2
   refine ⟨o,hf,_,rfl,k r _ kv2 nr (λ b ob e=>?_) (by rw [ai ndr.symm];exact hr2) (tb2.mono λ v x z=>z.keep (.frz hf))⟩
   by_cases hb:b=d
   ·subst hb
    rw [ac,<- hd,e]
   ·rw [ai hb]
    exact k2 _ _ e hb
structure BadP (a:Ad) (H:Hp) (p d:Addr) (ps:List (Str × Rat)) (ds:List WD) (kvs:List (Key × V)) (ks:List Str) (f:Str->Rat) (i:Nat) (n:Str):Prop where
 net:NetOff a H p d ps ds
 nd:(ds.map (·.nm)).Nodup
 hd:H d=some (.dK kvs)
 tb:Tab (FrIs a) H kvs ks f
 nk:ks.Nodup
 at_:ks[i]?=some n
 nin:¬ n∈ds.map (·.nm)
 ahead:∀ j m,j<i->ks[j]?=some m->m∈ds.map (·.nm)
 ln:n.length<=1000
inductive IspBadP (a:Ad) (vs:List V) (H:Hp) (E:XK):Prop
 | mk (p d:Addr) (ps:List (Str × Rat)) (ds:List WD) (kvs:List (Key × V)) (ks:List Str) (f:Str->Rat) (i:Nat) (n:Str) (h1:vs=[.ref p,.ref d]) (h2:BadP a H p d ps ds kvs ks f i n) (h3:∀ H' dx o,(∀ b u,H b=some u->b≠d->H' b=some u)->H' d=some (.frz o (.dK kvs))->H' dx=some (.xd [("name",.str n)])->E (.ref a.NoWay) (some dx) H'):IspBadP a vs H E
noncomputable def spBadP (a:Ad):Sp:=λ vs H _ E=>IspBadP a vs H E
theorem fH (T:TX K mg a):FnB P w K mg base (CX1 P w) "refuse_other_names" 4 ["net","plan"] (spBadP a):=by
 refine T.d_refuse_other_names.okX sc_refuse_other_names (λ vs H Q E h=>?_) (λ f cdv A outer s H vs Q E hr h=>?_)
 ·obtain ⟨_,_,_,_,_,_,_,_,_,rfl,_⟩:=h
  rfl
 ·obtain ⟨p,d,ps,ds,kvs,ks,f,i0,n0,rfl,⟨hn,nd,hd,tb,ndk,e0,nin,ahead,ln⟩,kb⟩:=h
  refine ⟨_,(ah (eR (aR owns1 rfl (eS (pv 1)) (aq (i:=2) sc_refuse_other_names.nd rfl (Or.inl rfl)) (ah (aT (pe_mtD (CX:=CX1 P w) (pv 0) hr pass1 (aa (pv 2) ad))))))),?_⟩
  try dsimp only [aK,Cx.nox,Cx.wish]
  refine ⟨d,.dK kvs,hd,(by intro o z e;cases e),_,rfl,d,kvs,rfl,hd,λ o=>?_⟩
  refine gj (a:=d) (o:=o) (kvs:=kvs) (λ i σ H2=>i<=i0/\∃ z,σ=[some (.ref p),some (.ref d),z]/\H2 d=some (.frz o (.dK kvs))/\∀ b ob,H b=some ob->b≠d->H2 b=some ob)
   ⟨im _,_,rfl,ac,λ b ob e ne=>by rw [ai ne];exact e⟩ (λ i σ H2 _ ⟨_,_,_,h,_⟩=>h) ?_ ?_
  ·rintro i kv σ H2 hkv ⟨hi,z,rfl,hf,k2⟩
   obtain ⟨n,en,e1,ev,_⟩:=tb.at_ ndk hkv
   have ekv:kV kv.1=.str n:=by rw [e1];rfl
   rw [ekv]
   have hnet:=(hn.but k2).at_
   obtain ⟨dx,dw,dy,hp,hw,hy⟩:=id hnet
   have noa:=eO dw dy (m:="way") (by decide +kernel) (by decide +kernel)
   by_cases hii:i=i0
   ·subst hii
    rw [en] at e0
    cases e0
    exact ⟨_,rfl,p,a.Net,dx,_,3,["self","name"],spNWayX a,rfl,hp,noa,T.cl_Net,by decide,ok_Net_wayX T,_,rfl,p,ps,ds,_,rfl,hnet,nin,ln,λ H' dx' s' hx=>kb H' dx' o (λ b u e ne=>s' _ _ (k2 _ _ e ne)) (s' _ _ hf) hx⟩
   ·obtain ⟨y,my,rfl⟩:=iy.mp (ahead i n (by omega) en)
    refine ⟨_,rfl,p,a.Net,dx,_,1,["self","name"],spNetWay a,rfl,hp,noa,T.cl_Net,by decide,(ok_Net_way T).up,_,rfl,p,ps,ds,y,rfl,hnet,nd,my,λ v _=>?_⟩
    exact ⟨by omega,_,rfl,hf,k2⟩
  ·rintro σ H2 ⟨hi,_⟩
   have:=(hV.mp e0).1
   rw [tb.len] at hi
   omega
theorem gR {α:Type} {P:List α->Prop} (h0:P []) (h1:∀ xs x,P xs->P (xs++[x])) (xs:List α):P xs:=by
 rw [<- List.reverse_reverse xs]
 induction xs.reverse with
 | nil=>exact h0
 | cons x r ih=>rw [List.reverse_cons];exact h1 _ _ ih
theorem BdS.of {m:Nat} (xs:List Rat):(∀ x∈xs,Bd m x)->BdS xs (xs.length*(m+1)):=by
 refine gR (P:=λ xs=>(∀ x∈xs,Bd m x)->BdS xs (xs.length*(m+1))) (λ _=>by rw [List.length_nil,Nat.zero_mul];exact .nil) (λ xs x ih h=>?_) xs
 rw [ir,ja,List.length_nil,Nat.add_mul,Nat.zero_add,Nat.one_mul]
 exact (ih λ y hy=>h y (iV _ hy)).snoc (h x (by simp))
theorem NetAp.off {H:Hp} {p d:Addr} {kvs:List (Key × V)} {ps:List (Str × Rat)} {ds:List WD} (h:NetAp a H p d ps ds) (hd:H d=some (.dK kvs)):NetOff a H p d ps ds:=by
 refine ⟨λ b=>if b=d then none else H b,h.but hd (by intro _ _ _ z;cases z) (λ b u e ne=>?_),λ b u e=>?_,if_pos rfl⟩
 ·show (if b=d then none else H b)=_
  rw [if_neg ne]
  exact e
 ·have e2:(if b=d then none else H b)=some u:=e
  split at e2
  ·cases e2
  ·exact e2
theorem DctIs.lst {H:Hp} {l:Addr} {ts us:List V} {v:V} {r:ck} (h:DctIs a H v r) (hl:H l=some (.lst ts)):DctIs a (upd H l (.lst us)) v r:=by
 obtain ⟨d,kvs,e,f,t,n⟩:=h
 exact ⟨d,kvs,e,by rw [ai (bz f hl (by intro z;cases z))];exact f,t.mono λ _ _ z=>FrIs.ko z (.lst hl),n⟩
noncomputable def ownF (r:ck) (t:Int):Str->Rat:=λ n=>fT r.1 r.2 (atT n t)
inductive IspOwn (a:Ad) (vs:List V) (H:Hp) (Q:VK):Prop
 | mk (p d:Addr) (t:Int) (ps:List (Str × Rat)) (ds:List WD) (r:ck) (h1:vs=[.ref p,.ref d,.int t]) (h2:NetAt a H p ps ds) (h3:(ds.map (·.nm)).Nodup) (h4:ds.length<=100) (h5:DctIs a H (.ref d) r) (h6:(∀ x∈ds,x.nm.length<=700)) (h7:Tn t) (h8:∀ q H',H q=none->Same H H'->DctIs a H' (.ref q) (fO (ownF r t) (ds.map (·.nm)),ownF r t)->Q (.ref q) H'):IspOwn a vs H Q
noncomputable def spOwn (a:Ad):Sp:=λ vs H Q _=>IspOwn a vs H Q
theorem ok_own_plan (T:TX K mg a):FnB P w K mg base CX0 "own_plan" 6 ["net","plan","turn"] (spOwn a):=by
 refine T.d_own_plan.ok sc_own_plan (λ vs H Q E h=>?_) (λ f cdv A outer s H vs Q E hr h=>?_)
 ·obtain ⟨_,_,_,_,_,_,rfl,_⟩:=h
  rfl
 ·obtain ⟨p,d,t,ps,ds,r,rfl,hn,nd,ld,⟨d',kv0,e0,hd0,tb0,nk0⟩,ln,ht,k⟩:=h
  cases e0
  refine ⟨_,(ag (au (i:=3) sc_own_plan.nd rfl (Or.inl rfl) bL)
   (aX (aR ix rfl (aU (eU (CX:=CX0) (pv 0) hr am)) (aq (i:=4) sc_own_plan.nd rfl (Or.inl rfl)) (ah (bw (aZ hr) (pv 3) (aO (pv 4) rfl) (ay (ok_amount T) hr am (aa (pv 1) (aa (ay (a9 T) hr am (aa (aO (pv 4) rfl) (aa (pv 2) ad))) ad))) rfl)))
   (ah (aw (ay (gI T) hr am (aa (pv 3) ad)))))),?_⟩
  try dsimp only [aK,Cx.nox,Cx.wish]
  intro o no
  have s1:=aj (o:=.dK []) no
  have ho0:upd H o (.dK []) o=some (.dK []):=ac
  generalize upd H o (.dK [])=H1 at s1 ho0 ⊢
  obtain ⟨dx,dw,dy,hp,hw,hy⟩:=id (hn.mono s1)
  have noa:=eO dw dy (m:="all_ways") (by decide +kernel) (by decide +kernel)
  refine ⟨λ σ' H'=>∃ z kvs,σ'=[some (.ref p),some (.ref d),some (.int t),some (.ref o),z]/\Same H H'/\H' o=some (.dK kvs)/\Tab (FrIs a) H' kvs (ds.map (·.nm)) (ownF r t),?_,?_⟩
  ·refine ⟨_,rfl,p,a.Net,dx,_,1,["self"],spNAll a,rfl,hp,noa,T.cl_Net,by decide,d8 T,p,ps,ds,rfl,hn.mono s1,λ lw H2 tw nlw s2 hlw hvw=>?_⟩
   have n2:lw≠o:=λ z=>by rw [z,ho0] at nlw;cases nlw
   refine ⟨lw,rfl,⟨_,SqL.of hlw⟩,bn (K:=K) (a:=lw) (xs:=tw) (λ i σ H3=>i<=ds.length/\∃ z kvs,σ=[some (.ref p),some (.ref d),some (.int t),some (.ref o),z]/\Same H H3/\H3 lw=some (.lst tw)/\RowAt (WayE a) H3 tw ds/\H3 o=some (.dK kvs)/\Tab (FrIs a) H3 kvs ((ds.map (·.nm)).take i) (ownF r t)) ⟨im _,_,[],rfl,s1.trans s2,hlw,⟨hvw.1,λ i u x e1 e2=>.of (hvw.2 i u x e1 e2)⟩,s2 _ _ ho0,Tab.nil⟩ (λ i σ H3 _ ⟨_,_,_,_,_,h,_⟩=>SqL.of h) ?_ ?_⟩
   ·rintro i x σ H3 hx ⟨_,z,kvs,rfl,s3,hlw3,hr3,ho3,tb⟩
    obtain ⟨y,ey,p1,vh,vc,q,rfl,W,hc,hh⟩:=hr3.get hx
    have hi:=(hV.mp ey).1
    obtain ⟨dx1,fs1,hob,h51,_⟩:=id W.ob
    have c1:=cT T y.kd
    have en:(ds.map (·.nm))[i]?=some y.nm:=by rw [iq,ey];rfl
    obtain ⟨tk,nk⟩:=bE nd en
    have lk:kvs.length<=900:=by rw [tb.len,iz,hZ];omega
    have lnm:=ln y (ig ey)
    refine ⟨_,rfl,_,rfl,p1,_,dx1,fs1,_,rfl,hob,c1.cl,c1.n1,h51.nm,_,rfl,y.nm,t,rfl,by omega,ht,d,kv0,r.1,r.2,atT y.nm t,rfl,.inl (s3 _ _ hd0),tb0.mono (λ _ _ z=>z.mono s3),λ qa H4 s4 f4=>?_⟩
    have ho4:=s4 _ _ ho3
    refine ⟨_,rfl,_,rfl,p1,_,dx1,fs1,_,rfl,s4 _ _ hob,c1.cl,c1.n1,h51.nm,o,_,rfl,DPut.k (k:=Sum.inr y.nm) ho4 (ax (by omega)),?_⟩
    have kp:KeepD H4 (upd H4 o (.dK (bo kvs (Sum.inr y.nm) (.ref qa)))):=KeepD.put ho4
    have stay:Stays a H4 (upd H4 o (.dK (bo kvs (Sum.inr y.nm) (.ref qa)))):=.put ho4 (λ _ _ _ z=>by cases z)
    refine ⟨hi,_,_,rfl,aC no (s3.trans s4),by rw [ai n2];exact s4 _ _ hlw3,hr3.mono (λ v x z=>(z.mono s4).keep stay),ac,?_⟩
    rw [tk,<- cu nk]
    refine (Tab.put (n:=y.nm) (tb.mono λ v x z=>(FrIs.mono z s4).keep kp) (y:=ownF r t y.nm) (FrIs.keep ⟨qa,rfl,f4⟩ kp)).congr λ m _=>?_
    unfold upf
    split
    ·rename_i e
     rw [e]
    ·rfl
   ·rintro σ H3 ⟨_,z,kvs,rfl,s3,_,_,ho3,tb⟩
    rw [hvw.1,show ds.length=(ds.map (·.nm)).length by rw [hZ],iB] at tb
    exact ⟨_,kvs,rfl,s3,ho3,tb⟩
  rintro σ' H2 ⟨z,kvs,rfl,s2,ho2,tb⟩
  exact ⟨_,rfl,o,kvs,_,_,rfl,ho2,tb,nd,by rw [hZ];omega,λ q H3 kv2 nq s3 hq tb2=>k q H3 (s2.free nq) (s2.trans s3) ⟨q,kv2,rfl,hq,tb2,nd.filter _⟩⟩
noncomputable def du (ss:List WD) (pl:Str):List WD:=ss.filter (λ s=>decide (s.st=pl))
noncomputable def takG (r:ck) (t:Int) (s:WD):Rat:=fT r.1 r.2 (atT s.nm (t-1))*fg s.kd s.x
noncomputable def putG (r:ck) (t:Int) (s:WD):Rat:=fT r.1 r.2 (atT s.nm t)
noncomputable def inR (g:ck->Int->WD->Rat) (ps:List (Str × Rat)) (ss:List WD) (r:ck) (t:Int):ck:=(ps.map (·.1),λ n=>((du ss n).map (g r t)).sum)
structure InIn (K:W.Frag) (a:Ad) (H:Hp) (p ls d:Addr) (t:Int) (ps:List (Str × Rat)) (ds ss:List WD) (ts:List V) (r:ck):Prop where
 net:NetAt a H p ps ds
 np:(ps.map (·.1)).Nodup
 lp:ps.length<=12
 hs:SqL K H ls ts
 rs:RowAt (WayE a) H ts ss
 lss:ss.length<=12
 pl:DctIs a H (.ref d) r
 ln:∀ x∈ss,x.nm.length<=700
 t1:1<=t
 t2:t<=13
 bx:∀ x∈ss,Bd 20 x.x/\Bd 20 (fg x.kd x.x)
 ba:∀ n,Bd 30 (fT r.1 r.2 n)
theorem tn_int {t:Int} (h0:0<=t) (h1:t<=1000):Tn t:=by
 obtain ⟨n,rfl⟩:=iT h0
 exact cU (by omega)
theorem hereL_next {ss:List WD} {j:Nat} {e:WD} (ee:ss[j]?=some e) (pl:Str):du (ss.take (j+1)) pl=du (ss.take j) pl++[e].filter (λ s=>decide (s.st=pl)):=by
 unfold du
 rw [iH,ee,iE,List.filter_append]
theorem gy (ss:List WD) (pl:Str):(du ss pl).length<=ss.length:=List.length_filter_le _ _
theorem hereL_mem {ss:List WD} {pl:Str} {x:WD} (h:x∈du ss pl):x∈ss:=(List.mem_filter.mp h).1
theorem bds_in {ss:List WD} {g:WD->Rat} (h:∀ x∈ss,Bd 60 (g x)) (hl:ss.length<=12):∃ N,BdS (ss.map g) N/\N<9000:=by
 refine ⟨_,BdS.of (m:=60) _ λ z hz=>?_,?_⟩
 ·obtain ⟨x,hx,rfl⟩:=iy.mp hz
  exact h x hx
 ·rw [hZ]
  omega
inductive IspIn (K:W.Frag) (a:Ad) (g:ck->Int->WD->Rat) (vs:List V) (H:Hp) (Q:VK):Prop
 | mk (p ls d:Addr) (t:Int) (ps:List (Str × Rat)) (ds ss:List WD) (ts:List V) (r:ck) (h1:vs=[.ref p,.ref ls,.ref d,.int t]) (h2:InIn K a H p ls d t ps ds ss ts r) (h3:∀ q H',H q=none->Same H H'->DctIs a H' (.ref q) (inR g ps ss r t)->Q (.ref q) H'):IspIn K a g vs H Q
noncomputable def spIn (K:W.Frag) (a:Ad) (g:ck->Int->WD->Rat):Sp:=λ vs H Q _=>IspIn K a g vs H Q
theorem ok_taken_in (T:TX K mg a):FnB P w K mg base CX0 "taken_in" 9 ["net","stores","plan","turn"] (spIn K a takG):=by
 refine T.d_taken_in.ok sc_taken_in (λ vs H Q E h=>?_) (λ f cdv A outer s H vs Q E hr h=>?_)
 ·obtain ⟨_,_,_,_,_,_,_,_,_,rfl,_⟩:=h
  rfl
 ·obtain ⟨p,ls,d,t,ps,ds,ss,ts,r,rfl,D,k⟩:=h
  refine ⟨_,(ag (au (i:=4) sc_taken_in.nd rfl (Or.inl rfl) bL)
   (ag (aR ix rfl (aU (eU (CX:=CX0) (pv 0) hr am)) (aq (i:=5) sc_taken_in.nd rfl (Or.inr rfl)) (ag (eK (i:=6) (xs:=["store"]) (rest:=["place"]) sc_taken_in.nd rfl rfl rfl (aU (pv 1))
   (λ pins fp C' s' H'=>(aq (i:=0) (show (["store","place"]:List Str).Nodup by decide +kernel) rfl (Or.inl rfl))) (λ pins fp C' s' H'=>(pts_one (aG dZ (pe_fldK (K:=K) rfl (pv 0) rfl) (pv 1) (aM _))))
   (λ pins fp C' s' H'=>(pv 0))
   (Clos.many (ys:=["place"]) rfl ⟨rfl,True.intro⟩ rfl (by decide +kernel)) (Reads.many (ys:=["place"]) (js:=[5]) ⟨⟨rfl,rfl,rfl⟩,True.intro⟩))
   (ah (bw (aZ hr) (pv 4) (pv 5) (ay (ok_total T) hr am (aa (cV (xs:=["store"]) (rest:=["plan","turn"]) rfl (aU (pv 6))
   (λ pins fp C' s' H'=>(aq (i:=0) (show (["store","plan","turn"]:List Str).Nodup by decide +kernel) rfl (Or.inl rfl))) (λ pins fp C' s' H'=>cF)
   (λ pins fp C' s' H'=>(pe_mtDK (CX:=CX0) (P:=P) (w:=w) (K:=K) (mg:=mg) (base:=base) rfl rfl rfl rfl rfl (pv 0) hr am (aa (ay (ok_amount T) hr am (aa (pv 1) (aa (ay (a9 T) hr am (aa (pe_fldK (K:=K) rfl (pv 0) rfl) (aa (ak gc (pv 2) ae) ad))) ad))) ad)))
   (Clos.many (ys:=["turn","plan"]) rfl ⟨rfl,rfl,True.intro⟩ rfl (by decide +kernel)) (Reads.many (ys:=["plan","turn"]) (js:=[2,3]) ⟨⟨rfl,rfl,rfl⟩,⟨rfl,rfl,rfl⟩,True.intro⟩)) ad)) rfl))))
   (ah (aw (pv 4))))),?_⟩
  try dsimp only [aK,Cx.nox,Cx.wish]
  intro o no
  have lp:=D.lp
  have lss:=D.lss
  have t1:=D.t1
  have t2:=D.t2
  have s1:=aj (o:=.dK []) no
  have ho0:upd H o (.dK []) o=some (.dK []):=ac
  generalize upd H o (.dK [])=H1 at s1 ho0 ⊢
  obtain ⟨dx,dw,dy,hp,hw,hy⟩:=id (D.net.mono s1)
  have nob:=eO dw dy (m:="names") (by decide +kernel) (by decide +kernel)
  obtain ⟨d',kv0,e0,hd0,tb0,nk0⟩:=id D.pl
  cases e0
  refine ⟨_,rfl,p,a.Net,dx,_,1,["self"],gQ a,rfl,hp,nob,T.cl_Net,by decide,fJ T,p,ps,ds,rfl,D.net.mono s1,λ l nl=>?_⟩
  have s2:=s1.trans (aj (o:=.lst (ps.map λ x=>V.str x.1)) nl)
  have ho1:=aj (o:=.lst (ps.map λ x=>V.str x.1)) nl _ _ ho0
  have hl:upd H1 l (.lst (ps.map λ x=>V.str x.1)) l=some (.lst (ps.map λ x=>V.str x.1)):=ac
  have nlo:l≠o:=λ z=>by rw [z,ho0] at nl;cases nl
  generalize upd H1 l (.lst (ps.map λ x=>V.str x.1))=H2 at s2 ho1 hl ⊢
  refine ⟨l,rfl,⟨_,SqL.of hl⟩,bn (K:=K) (a:=l) (xs:=ps.map λ x=>V.str x.1) (λ i σ H3=>i<=ps.length/\∃ z5 z6 kvs,σ=[some (.ref p),some (.ref ls),some (.ref d),some (.int t),some (.ref o),z5,z6]/\Same H H3/\H3 l=some (.lst (ps.map λ x=>V.str x.1))/\H3 o=some (.dK kvs)/\Tab (FrIs a) H3 kvs ((ps.map (·.1)).take i) (inR takG ps ss r t).2) ⟨im _,_,_,[],rfl,s2,hl,ho1,Tab.nil⟩ (λ i σ H3 _ ⟨_,_,_,_,_,_,h,_⟩=>SqL.of h) ?_ ?_⟩
  ·rintro i x' σ H3 hx ⟨_,z5,z6,kvs,rfl,s3,hl3,ho3,tb⟩
   rw [iq] at hx
   cases ex:ps[i]? with
   | none=>rw [ex] at hx;cases hx
   | some x=>
    rw [ex] at hx
    cases hx
    have hi:=(hV.mp ex).1
    have en:(ps.map (·.1))[i]?=some x.1:=by rw [iq,ex];rfl
    obtain ⟨tk,nk⟩:=bE D.np en
    have lk:kvs.length<=900:=by rw [tb.len,iz,hZ];omega
    refine ⟨_,rfl,ls,rfl,⟨_,s3.seq D.hs⟩,λ hq nhq=>?_⟩
    refine bB (K:=K) (a:=ls) (xs:=ts) (λ j H4=>j<=ss.length/\Same H3 H4/\∃ us,H4 hq=some (.lst us)/\RowAt (WayE a) H4 us (du (ss.take j) x.1)) ⟨im _,aj nhq,[],ac,RowAt.nil⟩ (λ j H4 ⟨_,s4,_⟩=>s4.seq (s3.seq D.hs)) ?_ ?_
    ·rintro j y H4 hy ⟨_,s4,us,h4,hv⟩
     obtain ⟨e,ee,he⟩:=D.rs.get hy
     have hj:j<ss.length:=(hV.mp ee).1
     have he4:=he.mono (s3.trans s4)
     obtain ⟨p1,vh,vc,qx,rfl,W,hc,hh⟩:=id he4
     obtain ⟨dx1,fs1,ho1,h51,_⟩:=id W.ob
     have c1:=cT T e.kd
     have tk2:=hereL_next ee x.1
     have lus:us.length<=100:=by
      rw [hv.1]
      exact ie (gy _ _) (by rw [iz];omega)
     refine g1 ⟨⟨[_],rfl,rfl⟩,?_⟩
     refine ⟨_,rfl,p1,_,dx1,fs1,_,rfl,ho1,c1.cl,c1.n2,h51.st,_,rfl,rfl,_,rfl,?_⟩
     by_cases hin:e.st=x.1
     ·refine iteC (iM (i7 V.str hin)) ?_
      have sy:Stays a H4 (upd H4 hq (.lst (us++[.ref p1]))):=.put h4 (λ _ _ _ z=>by cases z)
      refine ⟨_,rfl,_,h4,ax (by omega),dj (by rw [D.rs.1];exact hj) ⟨hj,aC nhq s4,_,ac,?_⟩⟩
      rw [tk2,jI (by simpa using hin),jL]
      exact RowAt.snoc (hv.mono λ v x z=>z.keep sy) (he4.keep sy)
     ·refine fM (iF λ z=>hin (V.str.inj z)) ?_
      refine dj (by rw [D.rs.1];exact hj) ⟨hj,s4,us,h4,?_⟩
      rw [tk2,jJ (by simpa using hin),jL,jf]
      exact hv
    rintro H4 ⟨_,s4,us,h4,hv⟩
    rw [D.rs.1,iB] at hv
    have lh:=gy ss x.1
    refine ⟨_,rfl,hq,rfl,⟨_,SqL.of h4⟩,λ q2 nq2=>?_⟩
    refine bB (K:=K) (a:=hq) (xs:=us) (λ j H5=>j<=(du ss x.1).length/\Same H4 H5/\∃ vs,H5 q2=some (.lst vs)/\RowAt (FrIs a) H5 vs (((du ss x.1).take j).map (takG r t))) ⟨im _,aj nq2,[],ac,RowAt.nil⟩ (λ j H5 ⟨_,s5,_⟩=>SqL.of (s5 _ _ h4)) ?_ ?_
    ·rintro j y H5 hy ⟨_,s5,vs,h5,hv5⟩
     obtain ⟨e,ee,he⟩:=hv.get hy
     have hj:j<(du ss x.1).length:=(hV.mp ee).1
     have me:e∈ss:=hereL_mem (ig ee)
     have lnm:=D.ln e me
     have lvs:vs.length<=100:=by rw [hv5.1,hZ,iz];omega
     obtain ⟨p1,vh,vc,qx,rfl,W,hc,hh⟩:=he.mono s5
     obtain ⟨dx1,fs1,ho1,h51,_⟩:=id W.ob
     have c1:=cT T e.kd
     refine g1 ⟨⟨[_],rfl,rfl⟩,yes ?_⟩
     refine ⟨_,rfl,p1,_,dx1,fs1,8,["self","amount"],spOut a e.kd,rfl,ho1,h51.ox,c1.cl,by decide,out_any T e.kd,_,rfl,_,rfl,p1,_,dx1,fs1,_,rfl,ho1,c1.cl,c1.n1,h51.nm,_,rfl,_,_,rfl,rfl,e.nm,t-1,rfl,by omega,tn_int (by omega) (by omega),d,kv0,r.1,r.2,_,rfl,.inl ((s3.trans (s4.trans s5)) _ _ hd0),tb0.mono (λ _ _ z=>z.mono (s3.trans (s4.trans s5))),λ qa H6 s6 f6=>?_⟩
     obtain ⟨b1,b2⟩:=D.bx e me
     refine ⟨p1,qa,e.nm,e.st,e.go,vh,vc,qx,e.x,_,rfl,W.mono s6,f6,b1.smr (by decide),(D.ba _).smr (by decide),b2.smr (by decide),λ r' H7 s7 f7=>?_⟩
     have s67:=s6.trans s7
     have h7:=s67 _ _ h5
     refine ⟨_,h7,ax (by omega),dj (by rw [hv.1];exact hj) ⟨hj,aC nq2 (s5.trans s67),_,ac,?_⟩⟩
     rw [iH,ee,iE,iu]
     exact RowAt.snoc (hv5.mono λ v x z=>(FrIs.mono z s67).ko (.lst h7)) (FrIs.ko ⟨r',rfl,f7⟩ (.lst h7))
    rintro H5 ⟨_,s5,vs,h5,hv5⟩
    rw [hv.1,iB] at hv5
    obtain ⟨N,bN,lN⟩:=bds_in (ss:=du ss x.1) (g:=takG r t) (λ e he=>Bd.mono (Bd.mul (D.ba _) (D.bx e (hereL_mem he)).2) (by decide)) (by omega)
    refine ⟨q2,vs,_,N,rfl,SqL.of h5,hv5,bN,lN,λ rr H6 nrr s6 f6=>?_⟩
    have s46:=s4.trans (s5.trans s6)
    have ho6:=s46 _ _ ho3
    refine ⟨_,rfl,_,rfl,o,_,rfl,DPut.k (k:=Sum.inr x.1) ho6 (ax (by omega)),?_⟩
    have kp:KeepD H6 (upd H6 o (.dK (bo kvs (Sum.inr x.1) (.ref rr)))):=KeepD.put ho6
    refine ⟨hi,_,_,_,rfl,aC no (s3.trans s46),by rw [ai nlo];exact s46 _ _ hl3,ac,?_⟩
    rw [tk,<- cu nk]
    refine (Tab.put (n:=x.1) (tb.mono λ v x z=>(FrIs.mono z s46).keep kp) (y:=(inR takG ps ss r t).2 x.1) (FrIs.keep ⟨rr,rfl,f6⟩ kp)).congr λ m _=>?_
    unfold upf
    split
    ·rename_i e
     rw [e]
    ·rfl
  ·rintro σ H3 ⟨_,z5,z6,kvs,rfl,s3,hl3,ho3,tb⟩
   rw [hZ,show ps.length=(ps.map (·.1)).length by rw [hZ],iB] at tb
   exact ⟨_,rfl,k o H3 no s3 ⟨o,kvs,rfl,ho3,tb,D.np⟩⟩
theorem ok_put_in (T:TX K mg a):FnB P w K mg base CX0 "put_in" 9 ["net","stores","plan","turn"] (spIn K a putG):=by
 refine T.d_put_in.ok sc_put_in (λ vs H Q E h=>?_) (λ f cdv A outer s H vs Q E hr h=>?_)
 ·obtain ⟨_,_,_,_,_,_,_,_,_,rfl,_⟩:=h
  rfl
 ·obtain ⟨p,ls,d,t,ps,ds,ss,ts,r,rfl,D,k⟩:=h
  refine ⟨_,(ag (au (i:=4) sc_put_in.nd rfl (Or.inl rfl) bL)
   (ag (aR ix rfl (aU (eU (CX:=CX0) (pv 0) hr am)) (aq (i:=5) sc_put_in.nd rfl (Or.inr rfl)) (ag (eK (i:=6) (xs:=["store"]) (rest:=["place"]) sc_put_in.nd rfl rfl rfl (aU (pv 1))
   (λ pins fp C' s' H'=>(aq (i:=0) (show (["store","place"]:List Str).Nodup by decide +kernel) rfl (Or.inl rfl))) (λ pins fp C' s' H'=>(pts_one (aG dZ (pe_fldK (K:=K) rfl (pv 0) rfl) (pv 1) (aM _))))
   (λ pins fp C' s' H'=>(pv 0))
   (Clos.many (ys:=["place"]) rfl ⟨rfl,True.intro⟩ rfl (by decide +kernel)) (Reads.many (ys:=["place"]) (js:=[5]) ⟨⟨rfl,rfl,rfl⟩,True.intro⟩))
   (ah (bw (aZ hr) (pv 4) (pv 5) (ay (ok_total T) hr am (aa (cV (xs:=["store"]) (rest:=["plan","turn"]) rfl (aU (pv 6))
   (λ pins fp C' s' H'=>(aq (i:=0) (show (["store","plan","turn"]:List Str).Nodup by decide +kernel) rfl (Or.inl rfl))) (λ pins fp C' s' H'=>cF)
   (λ pins fp C' s' H'=>(ay (ok_amount T) hr am (aa (pv 1) (aa (ay (a9 T) hr am (aa (pe_fldK (K:=K) rfl (pv 0) rfl) (aa (pv 2) ad))) ad))))
   (Clos.many (ys:=["turn","plan"]) rfl ⟨rfl,rfl,True.intro⟩ rfl (by decide +kernel)) (Reads.many (ys:=["plan","turn"]) (js:=[2,3]) ⟨⟨rfl,rfl,rfl⟩,⟨rfl,rfl,rfl⟩,True.intro⟩)) ad)) rfl))))
   (ah (aw (pv 4))))),?_⟩
  try dsimp only [aK,Cx.nox,Cx.wish]
  intro o no
  have lp:=D.lp
  have lss:=D.lss
  have t1:=D.t1
  have t2:=D.t2
  have s1:=aj (o:=.dK []) no
  have ho0:upd H o (.dK []) o=some (.dK []):=ac
  generalize upd H o (.dK [])=H1 at s1 ho0 ⊢
  obtain ⟨dx,dw,dy,hp,hw,hy⟩:=id (D.net.mono s1)
  have nob:=eO dw dy (m:="names") (by decide +kernel) (by decide +kernel)
  obtain ⟨d',kv0,e0,hd0,tb0,nk0⟩:=id D.pl
  cases e0
  refine ⟨_,rfl,p,a.Net,dx,_,1,["self"],gQ a,rfl,hp,nob,T.cl_Net,by decide,fJ T,p,ps,ds,rfl,D.net.mono s1,λ l nl=>?_⟩
  have s2:=s1.trans (aj (o:=.lst (ps.map λ x=>V.str x.1)) nl)
  have ho1:=aj (o:=.lst (ps.map λ x=>V.str x.1)) nl _ _ ho0
  have hl:upd H1 l (.lst (ps.map λ x=>V.str x.1)) l=some (.lst (ps.map λ x=>V.str x.1)):=ac
  have nlo:l≠o:=λ z=>by rw [z,ho0] at nl;cases nl
  generalize upd H1 l (.lst (ps.map λ x=>V.str x.1))=H2 at s2 ho1 hl ⊢
  refine ⟨l,rfl,⟨_,SqL.of hl⟩,bn (K:=K) (a:=l) (xs:=ps.map λ x=>V.str x.1) (λ i σ H3=>i<=ps.length/\∃ z5 z6 kvs,σ=[some (.ref p),some (.ref ls),some (.ref d),some (.int t),some (.ref o),z5,z6]/\Same H H3/\H3 l=some (.lst (ps.map λ x=>V.str x.1))/\H3 o=some (.dK kvs)/\Tab (FrIs a) H3 kvs ((ps.map (·.1)).take i) (inR putG ps ss r t).2) ⟨im _,_,_,[],rfl,s2,hl,ho1,Tab.nil⟩ (λ i σ H3 _ ⟨_,_,_,_,_,_,h,_⟩=>SqL.of h) ?_ ?_⟩
  ·rintro i x' σ H3 hx ⟨_,z5,z6,kvs,rfl,s3,hl3,ho3,tb⟩
   rw [iq] at hx
   cases ex:ps[i]? with
   | none=>rw [ex] at hx;cases hx
   | some x=>
    rw [ex] at hx
    cases hx
    have hi:=(hV.mp ex).1
    have en:(ps.map (·.1))[i]?=some x.1:=by rw [iq,ex];rfl
    obtain ⟨tk,nk⟩:=bE D.np en
    have lk:kvs.length<=900:=by rw [tb.len,iz,hZ];omega
    refine ⟨_,rfl,ls,rfl,⟨_,s3.seq D.hs⟩,λ hq nhq=>?_⟩
    refine bB (K:=K) (a:=ls) (xs:=ts) (λ j H4=>j<=ss.length/\Same H3 H4/\∃ us,H4 hq=some (.lst us)/\RowAt (WayE a) H4 us (du (ss.take j) x.1)) ⟨im _,aj nhq,[],ac,RowAt.nil⟩ (λ j H4 ⟨_,s4,_⟩=>s4.seq (s3.seq D.hs)) ?_ ?_
    ·rintro j y H4 hy ⟨_,s4,us,h4,hv⟩
     obtain ⟨e,ee,he⟩:=D.rs.get hy
     have hj:j<ss.length:=(hV.mp ee).1
     have he4:=he.mono (s3.trans s4)
     obtain ⟨p1,vh,vc,qx,rfl,W,hc,hh⟩:=id he4
     obtain ⟨dx1,fs1,ho1,h51,_⟩:=id W.ob
     have c1:=cT T e.kd
     have tk2:=hereL_next ee x.1
     have lus:us.length<=100:=by
      rw [hv.1]
      exact ie (gy _ _) (by rw [iz];omega)
     refine g1 ⟨⟨[_],rfl,rfl⟩,?_⟩
     refine ⟨_,rfl,p1,_,dx1,fs1,_,rfl,ho1,c1.cl,c1.n2,h51.st,_,rfl,rfl,_,rfl,?_⟩
     by_cases hin:e.st=x.1
     ·refine iteC (iM (i7 V.str hin)) ?_
      have sy:Stays a H4 (upd H4 hq (.lst (us++[.ref p1]))):=.put h4 (λ _ _ _ z=>by cases z)
      refine ⟨_,rfl,_,h4,ax (by omega),dj (by rw [D.rs.1];exact hj) ⟨hj,aC nhq s4,_,ac,?_⟩⟩
      rw [tk2,jI (by simpa using hin),jL]
      exact RowAt.snoc (hv.mono λ v x z=>z.keep sy) (he4.keep sy)
     ·refine fM (iF λ z=>hin (V.str.inj z)) ?_
      refine dj (by rw [D.rs.1];exact hj) ⟨hj,s4,us,h4,?_⟩
      rw [tk2,jJ (by simpa using hin),jL,jf]
      exact hv
    rintro H4 ⟨_,s4,us,h4,hv⟩
    rw [D.rs.1,iB] at hv
    have lh:=gy ss x.1
    refine ⟨_,rfl,hq,rfl,⟨_,SqL.of h4⟩,λ q2 nq2=>?_⟩
    refine bB (K:=K) (a:=hq) (xs:=us) (λ j H5=>j<=(du ss x.1).length/\Same H4 H5/\∃ vs,H5 q2=some (.lst vs)/\RowAt (FrIs a) H5 vs (((du ss x.1).take j).map (putG r t))) ⟨im _,aj nq2,[],ac,RowAt.nil⟩ (λ j H5 ⟨_,s5,_⟩=>SqL.of (s5 _ _ h4)) ?_ ?_
    ·rintro j y H5 hy ⟨_,s5,vs,h5,hv5⟩
     obtain ⟨e,ee,he⟩:=hv.get hy
     have hj:j<(du ss x.1).length:=(hV.mp ee).1
     have me:e∈ss:=hereL_mem (ig ee)
     have lnm:=D.ln e me
     have lvs:vs.length<=100:=by rw [hv5.1,hZ,iz];omega
     obtain ⟨p1,vh,vc,qx,rfl,W,hc,hh⟩:=he.mono s5
     obtain ⟨dx1,fs1,ho1,h51,_⟩:=id W.ob
     have c1:=cT T e.kd
     refine g1 ⟨⟨[_],rfl,rfl⟩,yes ?_⟩
     refine ⟨_,rfl,_,rfl,p1,_,dx1,fs1,_,rfl,ho1,c1.cl,c1.n1,h51.nm,_,rfl,e.nm,t,rfl,by omega,tn_int (by omega) (by omega),d,kv0,r.1,r.2,_,rfl,.inl ((s3.trans (s4.trans s5)) _ _ hd0),tb0.mono (λ _ _ z=>z.mono (s3.trans (s4.trans s5))),λ qa H6 s6 f6=>?_⟩
     have h7:=s6 _ _ h5
     refine ⟨_,h7,ax (by omega),dj (by rw [hv.1];exact hj) ⟨hj,aC nq2 (s5.trans s6),_,ac,?_⟩⟩
     rw [iH,ee,iE,iu]
     exact RowAt.snoc (hv5.mono λ v x z=>(FrIs.mono z s6).ko (.lst h7)) (FrIs.ko ⟨qa,rfl,f6⟩ (.lst h7))
    rintro H5 ⟨_,s5,vs,h5,hv5⟩
    rw [hv.1,iB] at hv5
    obtain ⟨N,bN,lN⟩:=bds_in (ss:=du ss x.1) (g:=putG r t) (λ e he=>Bd.mono (D.ba _) (by decide)) (by omega)
    refine ⟨q2,vs,_,N,rfl,SqL.of h5,hv5,bN,lN,λ rr H6 nrr s6 f6=>?_⟩
    have s46:=s4.trans (s5.trans s6)
    have ho6:=s46 _ _ ho3
    refine ⟨_,rfl,_,rfl,o,_,rfl,DPut.k (k:=Sum.inr x.1) ho6 (ax (by omega)),?_⟩
    have kp:KeepD H6 (upd H6 o (.dK (bo kvs (Sum.inr x.1) (.ref rr)))):=KeepD.put ho6
    refine ⟨hi,_,_,_,rfl,aC no (s3.trans s46),by rw [ai nlo];exact s46 _ _ hl3,ac,?_⟩
    rw [tk,<- cu nk]
    refine (Tab.put (n:=x.1) (tb.mono λ v x z=>(FrIs.mono z s46).keep kp) (y:=(inR putG ps ss r t).2 x.1) (FrIs.keep ⟨rr,rfl,f6⟩ kp)).congr λ m _=>?_
    unfold upf
    split
    ·rename_i e
     rw [e]
    ·rfl
  ·rintro σ H3 ⟨_,z5,z6,kvs,rfl,s3,hl3,ho3,tb⟩
   rw [hZ,show ps.length=(ps.map (·.1)).length by rw [hZ],iB] at tb
   exact ⟨_,rfl,k o H3 no s3 ⟨o,kvs,rfl,ho3,tb,D.np⟩⟩
noncomputable abbrev Tr3:=ck × ck × ck
noncomputable def TrIs (a:Ad) (H0 H:Hp) (v:V) (x:Tr3):Prop:=∃ t d1 d2 d3,v=.ref t/\H t=some (.tup [.ref d1,.ref d2,.ref d3])/\DctIs a H (.ref d1) x.1/\DctIs a H (.ref d2) x.2.1/\DctIs a H (.ref d3) x.2.2/\H0 d1=none/\H0 d2=none/\H0 d3=none
theorem TrIs.mono {H0 H H':Hp} {v:V} {x:Tr3} (h:TrIs a H0 H v x) (s:Same H H'):TrIs a H0 H' v x:=by
 obtain ⟨t,d1,d2,d3,e,f,h1,h2,h3,n⟩:=h
 exact ⟨t,d1,d2,d3,e,s _ _ f,h1.mono s,h2.mono s,h3.mono s,n⟩
theorem TrIs.lst {H0 H:Hp} {l:Addr} {ts us:List V} {v:V} {x:Tr3} (h:TrIs a H0 H v x) (hl:H l=some (.lst ts)):TrIs a H0 (upd H l (.lst us)) v x:=let ⟨t,d1,d2,d3,e,f,h1,h2,h3,n⟩:=h;⟨t,d1,d2,d3,e,by rw [ai (bz f hl (by intro z;cases z))];exact f,h1.lst hl,h2.lst hl,h3.lst hl,n⟩
noncomputable def byR (ps:List (Str × Rat)) (ds ss:List WD) (r:ck) (t:Int):Tr3:=((fO (ownF r t) (ds.map (·.nm)),ownF r t),inR takG ps ss r t,inR putG ps ss r t)
structure ByIn (K:W.Frag) (a:Ad) (H:Hp) (p ls lw d:Addr) (ps:List (Str × Rat)) (ds ss:List WD) (ws:List ck) (ts tw:List V) (r:ck):Prop where
 tu:TuIn K a H p ls lw ps ds ss ws ts tw
 pl:DctIs a H (.ref d) r
 bx:∀ x∈ss,Bd 20 x.x/\Bd 20 (fg x.kd x.x)
 ba:∀ n,Bd 30 (fT r.1 r.2 n)
 nd2:((dsN ds ss ws.length ws.length).map (·.nm)).Nodup
theorem NetNew.ap {H H':Hp} {q d:Addr} {o:HO} {ps:List (Str × Rat)} {ds:List WD} (h:NetNew a H H' q ps ds) (hd:H d=some o):NetAp a H' q d ps ds:=let ⟨dx,dw,dy,g1,g2,g3,g4,g5⟩:=h;⟨dx,dw,dy,g1,g2,g3,(λ z=>by rw [z,hd] at g4;cases g4),(λ z=>by rw [z,hd] at g5;cases g5)⟩
inductive IspBy (K:W.Frag) (a:Ad) (vs:List V) (H:Hp) (Q:VK):Prop
 | mk (p ls lw d:Addr) (ps:List (Str × Rat)) (ds ss:List WD) (ws:List ck) (ts tw:List V) (r:ck) (h1:vs=[.ref p,.ref ls,.ref lw,.ref d]) (h2:ByIn K a H p ls lw d ps ds ss ws ts tw r) (h3:(∀ n∈r.1,n∈(dsN ds ss ws.length ws.length).map (·.nm))) (h4:∀ l H' us,H l=none->Same H H'->H' l=some (.lst us)->RowAt (TrIs a H) H' us ((List.range ws.length).map λ i:Nat=>byR ps ds ss r ((i+1:Nat):Int))->Q (.ref l) H'):IspBy K a vs H Q
noncomputable def spBy (K:W.Frag) (a:Ad):Sp:=λ vs H Q _=>IspBy K a vs H Q
theorem ok_by_turns (T:TX K mg a):FnB P w K mg base CX0 "by_turns" 10 ["net","stores","wants","plan"] (spBy K a):=by
 refine T.d_by_turns.ok sc_by_turns (λ vs H Q E h=>?_) (λ f cdv A outer s H vs Q E hr h=>?_)
 ·obtain ⟨_,_,_,_,_,_,_,_,_,_,_,rfl,_⟩:=h
  rfl
 ·obtain ⟨p,ls,lw,d,ps,ds,ss,ws,ts,tw,r,rfl,B,sub,k⟩:=h
  refine ⟨_,(ag (aT (ay (fU T) hr am (aa (ay (ok_turned T) hr am (aa (pv 0) (aa (pv 1) (aa (pv 2) ad)))) (aa (pv 3) ad))))
   (ag (au (i:=4) sc_by_turns.nd rfl (Or.inl rfl) (dR ad))
   (ag (aR ix rfl (pi_range2 rfl T.z_range (aa ae (aa (ak aJ (aH a8 (by rfl) T.z_len iU (aa (pv 2) ad)) ae) ad))) (aq (i:=5) sc_by_turns.nd rfl (Or.inl rfl)) (ag (au (i:=6) sc_by_turns.nd rfl (Or.inl rfl) (ay (ok_own_plan T) hr am (aa (pv 0) (aa (pv 3) (aa (pv 5) ad)))))
   (ah (aT (eV iO i8 i9 cD (pv 4) (aa (aV (aa (pv 6) (aa (ay (ok_taken_in T) hr am (aa (pv 0) (aa (pv 1) (aa (pv 3) (aa (pv 5) ad))))) (aa (ay (ok_put_in T) hr am (aa (pv 0) (aa (pv 1) (aa (pv 3) (aa (pv 5) ad))))) ad)))) ad))))))
   (ah (aw (pv 4)))))),?_⟩
  try dsimp only [aK,Cx.nox,Cx.wish]
  have D:=B.tu
  have lp:=D.lp
  have ld:=D.ld
  have lss:=D.lss
  have lws:=D.lws
  obtain ⟨d',kv0,e0,hd0,tb0,nk0⟩:=id B.pl
  cases e0
  refine ⟨_,rfl,_,rfl,_,rfl,p,ls,lw,ps,ds,ss,ws,ts,tw,rfl,D,λ q H1 nq s1 hq=>?_⟩
  refine ⟨_,rfl,q,d,_,_,kv0,r.1,r.2,rfl,(hq.ap hd0).off (s1 _ _ hd0),B.nd2,s1 _ _ hd0,tb0.mono (λ _ _ z=>z.mono s1),nk0,sub,λ H2 s2'=>?_⟩
  have s2:=s1.trans s2'
  clear hq nq s1 s2'
  refine ⟨by decide,λ l nl=>?_⟩
  have nl':=s2.free nl
  have s3:=s2.trans (aj (o:=.lst []) nl)
  have h3:upd H2 l (.lst []) l=some (.lst []):=ac
  generalize upd H2 l (.lst [])=H3 at s3 h3 ⊢
  have ltw:tw.length=ws.length:=D.rw.1
  refine ⟨_,rfl,lw,_,rfl,.inl (s3.seq D.hw),_,_,rfl,rfl,_,_,rfl,⟨by decide,by decide,by omega,by omega⟩,eI (λ i σ H4=>i<=ws.length/\∃ z5 z6 us,σ=[some (.ref p),some (.ref ls),some (.ref lw),some (.ref d),some (.ref l),z5,z6]/\Same H H4/\H4 l=some (.lst us)/\RowAt (TrIs a H) H4 us ((List.range i).map λ i:Nat=>byR ps ds ss r ((i+1:Nat):Int))) ⟨im _,_,_,[],rfl,s3,h3,RowAt.nil⟩ ?_ ?_⟩
  ·rintro i σ H4 hi ⟨_,z5,z6,us,rfl,s4,h4,hv⟩
   have hi':i<ws.length:=by omega
   have lus:us.length<=12:=by rw [hv.1,hZ,List.length_range];omega
   have et:(1:Int)+(i:Int)=((i+1:Nat):Int):=by omega
   rw [et]
   have I:∀ H5,Same H H5->InIn K a H5 p ls d ((i+1:Nat):Int) ps ds ss ts r:=λ H5 s5=>⟨D.net.mono s5,D.np,lp,s5.seq D.hs,D.rs.mono (λ _ _ z=>z.mono s5),lss,B.pl.mono s5,λ x hx=>(D.ts' x hx 1 (by decide)).ln,by omega,by omega,B.bx,B.ba⟩
   refine ⟨_,rfl,_,rfl,_,rfl,p,d,((i+1:Nat):Int),ps,ds,r,rfl,D.net.mono s4,(jb.mp D.nd).1,by omega,B.pl.mono s4,λ x hx=>(D.td x hx 1 (by decide)).ln,cU (by omega),λ q1 H5 nq1 s5 hq1=>?_⟩
   have s45:=s4.trans s5
   refine ⟨_,rfl,.inl ⟨rfl,_,SqL.of (s5 _ _ h4)⟩,_,rfl,?_⟩
   refine ⟨_,rfl,_,rfl,_,rfl,_,rfl,p,ls,d,((i+1:Nat):Int),ps,ds,ss,ts,r,rfl,I _ s45,λ q2 H6 nq2 s6 hq2=>?_⟩
   refine ⟨_,rfl,_,rfl,_,rfl,_,rfl,p,ls,d,((i+1:Nat):Int),ps,ds,ss,ts,r,rfl,I _ (s45.trans s6),λ q3 H7 nq3 s7 hq3=>?_⟩
   refine ⟨by show 3<=sizeLine;decide,λ t nt=>?_⟩
   have s47:=s5.trans (s6.trans s7)
   have s8:=aj (o:=.tup [.ref q1,.ref q2,.ref q3]) nt
   have ht:upd H7 t (.tup [.ref q1,.ref q2,.ref q3]) t=some (.tup [.ref q1,.ref q2,.ref q3]):=ac
   generalize upd H7 t (.tup [.ref q1,.ref q2,.ref q3])=H8 at s8 ht ⊢
   have s48:=s47.trans s8
   have h8:=s48 _ _ h4
   refine ⟨l,_,_,rfl,rfl,h8,ax (by omega),?_⟩
   refine ⟨hi',_,_,_,rfl,aC nl' (s4.trans s48),ac,?_⟩
   rw [List.range_succ,iu]
   exact RowAt.snoc (hv.mono λ v x z=>(z.mono s48).lst h8) (TrIs.lst ⟨t,q1,q2,q3,rfl,ht,hq1.mono (s6.trans (s7.trans s8)),hq2.mono (s7.trans s8),hq3.mono s8,s4.free nq1,(s45).free nq2,(s45.trans s6).free nq3⟩ h8)
  ·rintro σ H4 ⟨_,z5,z6,us,rfl,s4,h4,hv⟩
   refine ⟨_,rfl,k l H4 us nl' s4 h4 ?_⟩
   rw [show ws.length=((tw.length:Int)+1-1).toNat by omega]
   exact hv
inductive IspByX (K:W.Frag) (a:Ad) (vs:List V) (H:Hp) (E:XK):Prop
 | mk (p ls lw d:Addr) (ps:List (Str × Rat)) (ds ss:List WD) (ws:List ck) (ts tw:List V) (r:ck) (i:Nat) (n:Str) (h1:vs=[.ref p,.ref ls,.ref lw,.ref d]) (h2:ByIn K a H p ls lw d ps ds ss ws ts tw r) (h3:r.1[i]?=some n) (h4:¬ n∈(dsN ds ss ws.length ws.length).map (·.nm)) (h5:(∀ j m,j<i->r.1[j]?=some m->m∈(dsN ds ss ws.length ws.length).map (·.nm))) (h6:n.length<=1000) (h7:∀ H' dx,(∀ b u,H b=some u->b≠d->H' b=some u)->H' dx=some (.xd [("name",.str n)])->E (.ref a.NoWay) (some dx) H'):IspByX K a vs H E
noncomputable def spByX (K:W.Frag) (a:Ad):Sp:=λ vs H _ E=>IspByX K a vs H E
theorem ok_by_turnsX (T:TX K mg a):FnB P w K mg base (CX1 P w) "by_turns" 10 ["net","stores","wants","plan"] (spByX K a):=by
 refine T.d_by_turns.okX sc_by_turns (λ vs H Q E h=>?_) (λ f cdv A outer s H vs Q E hr h=>?_)
 ·obtain ⟨_,_,_,_,_,_,_,_,_,_,_,_,_,rfl,_⟩:=h
  rfl
 ·obtain ⟨p,ls,lw,d,ps,ds,ss,ws,ts,tw,r,i,n,rfl,B,e1,nin,ahead,ln,k⟩:=h
  refine ⟨_,(ag (aT (ay (fH T) hr pass1 (aa (ay (ok_turned T) hr am (aa (pv 0) (aa (pv 1) (aa (pv 2) ad)))) (aa (pv 3) ad))))
   (ag (au (i:=4) sc_by_turns.nd rfl (Or.inl rfl) (dR ad))
   (ag (aR owns1 rfl (pi_range2 rfl T.z_range (aa ae (aa (ak aJ (aH a8 (by rfl) T.z_len iU (aa (pv 2) ad)) ae) ad))) (aq (i:=5) sc_by_turns.nd rfl (Or.inl rfl)) (ag (au (i:=6) sc_by_turns.nd rfl (Or.inl rfl) (ay (ok_own_plan T) hr am (aa (pv 0) (aa (pv 3) (aa (pv 5) ad)))))
   (ah (aT (eV iO i8 i9 cD (pv 4) (aa (aV (aa (pv 6) (aa (ay (ok_taken_in T) hr am (aa (pv 0) (aa (pv 1) (aa (pv 3) (aa (pv 5) ad))))) (aa (ay (ok_put_in T) hr am (aa (pv 0) (aa (pv 1) (aa (pv 3) (aa (pv 5) ad))))) ad)))) ad))))))
   (ah (aw (pv 4)))))),?_⟩
  try dsimp only [aK,Cx.nox,Cx.wish]
  have D:=B.tu
  obtain ⟨d',kv0,e0,hd0,tb0,nk0⟩:=id B.pl
  cases e0
  refine ⟨_,rfl,_,rfl,_,rfl,p,ls,lw,ps,ds,ss,ws,ts,tw,rfl,D,λ q H1 nq s1 hq=>?_⟩
  exact ⟨_,rfl,q,d,_,_,kv0,r.1,r.2,i,n,rfl,⟨(hq.ap hd0).off (s1 _ _ hd0),B.nd2,s1 _ _ hd0,tb0.mono (λ _ _ z=>z.mono s1),nk0,e1,nin,ahead,ln⟩,λ H' dx o h1 h2 h3=>k H' dx (λ b u e ne=>h1 b u (s1 _ _ e) ne) h3⟩
noncomputable def aP (ns:List Int) (k:Nat):Int:=if k<ns.length then ns.getD k 0 else if ns.length=0 then 0 else (ns.getD (k % ns.length) 0 % 1000003*48271+(k:Int)*k*7919) % 1000003
noncomputable def bC (k c:Int):Str:=Txt.mul ⟨#[sgAt (c % 37)]⟩ (c / 37 % 4*(1+c / 5 % 9 / 8*12))++⟨#[sgAt ((k*5+c / 148) % 37)]⟩++Txt.mul ⟨#[sgAt (c / 11 % 37)]⟩ (c / 7 % 3)
theorem nameA_inj {i j c:Int} (i0:0<=i) (i1:i<37) (j0:0<=j) (j1:j<37) (h:bC i c=bC j c):i=j:=by
 unfold bC at h
 have:=app_left (app_right h)
 injection this with e
 have e2:sgAt ((i*5+c / 148) % 37)=sgAt ((j*5+c / 148) % 37):=by simpa using e
 obtain ⟨a1,a2⟩:=aN (i*5+c / 148) (show (0:Int)<37 by decide)
 obtain ⟨b1,b2⟩:=aN (j*5+c / 148) (show (0:Int)<37 by decide)
 have:=sgAt_inj _ (by omega) _ (by omega) e2
 omega
noncomputable def cM (c:Int) (n:Nat):List Str:=(List.range n).map λ i:Nat=>bC (i:Int) c
theorem gw {c:Int} {n:Nat} (h:n<=37):(cM c n).Nodup:=by
 unfold cM
 rw [List.nodup_iff_pairwise_ne,List.pairwise_map]
 refine (List.nodup_range (n:=n)).imp_of_mem ?_
 intro i j hi hj ne e
 have hi:=jT.mp hi
 have hj:=jT.mp hj
 have:=nameA_inj (by omega) (by omega) (by omega) (by omega) e
 omega
theorem namesA_succ (c:Int) (n:Nat):cM c (n+1)=cM c n++[bC (n:Int) c]:=by unfold cM;rw [List.range_succ,iu];rfl
structure N50 (c:Int × Int):Prop where
 t:c.1.natAbs<=1000000
 b:1<=c.2
 b':c.2<=997
theorem N50.sm {c:Int × Int} (h:N50 c):Sm c.1/\Sm c.2:=by
 have:=h.t
 have:=h.b
 have:=h.b'
 exact ⟨Sm.of_le (n:=20) (by omega) (by decide),Sm.of_le (n:=20) (by omega) (by decide)⟩
noncomputable def vC (c:Int × Int):Rat:=Rat.divInt c.1 c.2
theorem N50.bd {c:Int × Int} (h:N50 c):Bd 20 (vC c):=by
 have:=h.t
 have:=h.b
 have:=h.b'
 exact Bd.divInt (by omega) (by omega)
noncomputable abbrev Ent:=Str × (Int × Int)
noncomputable def EntIs (H:Hp) (v:V) (e:Ent):Prop:=∃ t vp,v=.ref t/\H t=some (.tup [.str e.1,vp])/\DueIs H vp e.2
theorem EntIs.mono {H H':Hp} {v:V} {e:Ent} (h:EntIs H v e) (s:Same H H'):EntIs H' v e:=by
 obtain ⟨t,vp,x,y,z⟩:=h
 exact ⟨t,vp,x,s _ _ y,z.mono s⟩
theorem EntIs.ko {H H':Hp} {v:V} {e:Ent} (h:EntIs H v e) (s:KeepO H H'):EntIs H' v e:=by
 obtain ⟨t,vp,x,y,z⟩:=h
 exact ⟨t,vp,x,s.tup _ _ y,z.ko s⟩
structure W7 where
 nm:Str
 st:Str
 go:Str
 kd:Int
 gain:Int × Int
 hi:Option (Int × Int)
 co:Int × Int
noncomputable def W7Is (H:Hp) (v:V) (r:W7):Prop:=∃ p vg vh vc,v=.ref p/\H p=some (.tup [.str r.nm,.str r.st,.str r.go,.int r.kd,vg,vh,vc])/\DueIs H vg r.gain/\OptIs H vh r.hi/\DueIs H vc r.co
theorem W7Is.mono {H H':Hp} {v:V} {r:W7} (h:W7Is H v r) (s:Same H H'):W7Is H' v r:=by
 obtain ⟨p,vg,vh,vc,e,f,h1,h3,h4⟩:=h
 exact ⟨p,vg,vh,vc,e,s _ _ f,h1.mono s,h3.mono s,h4.mono s⟩
theorem W7Is.ko {H H':Hp} {v:V} {r:W7} (h:W7Is H v r) (s:KeepO H H'):W7Is H' v r:=by
 obtain ⟨p,vg,vh,vc,e,f,h1,h3,h4⟩:=h
 exact ⟨p,vg,vh,vc,e,s.tup _ _ f,h1.ko s,h3.ko s,h4.ko s⟩
structure W7Ok (sp:List Str) (r:W7):Prop where
 st:r.st∈sp
 go:r.go∈sp
 ne:r.st≠r.go
 k0:r.kd=0->r.gain=(1,1)
 k2:r.kd=2->r.gain.1<=r.gain.2
 g1:1<=r.gain.1/\r.gain.1<=997
 g2:1<=r.gain.2/\r.gain.2<=997
 hi:∀ c,r.hi=some c->0<=c.1/\N50 c
 co:N50 r.co
 kr:0<=r.kd/\r.kd<4
inductive IspCellA (K:W.Frag) (vs:List V) (H:Hp) (Q:VK):Prop
 | mk (l:Addr) (ns:List Int) (k:Nat) (h1:vs=[.ref l,.int (k:Int)]) (h2:SqL K H l (ns.map V.int)) (h3:k<=1000) (h4:Q (.int (aP ns k)) H):IspCellA K vs H Q
noncomputable def spCellA (K:W.Frag):Sp:=λ vs H Q _=>IspCellA K vs H Q
theorem aA (T:TX K mg a):FnB P w K mg base CX0 "_law_cell_at" 1 ["_law_script","_law_k"] (spCellA K):=by
 refine T.d_law_cell_at.ok sc_law_cell_at (λ vs H Q E h=>?_) (λ f cdv A outer s H vs Q E hr h=>?_)
 ·obtain ⟨l,ns,i,rfl,_⟩:=h
  rfl
 ·obtain ⟨l,ns,i,rfl,hS,i1000,k⟩:=h
  refine ⟨_,(ag (aS (aG gX (pv 1) (aH a8 (by rfl) T.z_len iU (aa (pv 0) ad)) (aM _)) (ah (aw (aD fL (pv 0) (pv 1) (λ _ _=>rfl)))) aE)
   (ag (aS (aG dZ (aH a8 (by rfl) T.z_len iU (aa (pv 0) ad)) ae (aM _)) (ah (aw ae)) aE)
   (ah (aw (ak aL (ak aJ (ak aQ (ak aL (aD fL (pv 0) (ak aL (pv 1) (aH a8 (by rfl) T.z_len iU (aa (pv 0) ad))) (λ _ _=>rfl)) ae) ae) (ak aQ (ak aQ (pv 1) (pv 1)) ae)) ae))))),?_⟩
  try dsimp only [aK,Cx.nox,Cx.wish]
  have at_:∀ j:Nat,j<ns.length->atI (ns.map V.int) (j:Int)=some (.int (ns.getD j 0)):=λ j hj=>atI_nat (by rw [iq,iR,ii hj];rfl)
  refine ⟨_,rfl,_,rfl,_,_,rfl,.inl hS,_,_,rfl,rfl,_,rfl,?_⟩
  rw [hZ]
  unfold aP at k
  refine ite2 (λ hlt=>?_) (λ hge=>?_)
  ·have hlt':(i:Int)<(ns.length:Int):=of_decide_eq_true hlt
   have hl:i<ns.length:=by omega
   rw [if_pos hl] at k
   exact ⟨_,rfl,_,rfl,_,_,_,_,rfl,rfl,hS,at_ i hl,k⟩
  ·have hge':¬ (i:Int)<(ns.length:Int):=λ z=>hge (iM z)
   rw [if_neg (show ¬ i<ns.length by omega)] at k
   refine ⟨_,rfl,_,_,rfl,.inl hS,rfl,_,rfl,?_⟩
   rw [hZ]
   refine ifV (λ h0=>?_) (λ h0=>?_)
   ·rw [if_pos (show ns.length=0 by omega)] at k
    exact k
   ·have hpos:0<ns.length:=by omega
    rw [if_neg (show ¬ ns.length=0 by omega)] at k
    have em:(i:Int) % ((ns.map V.int).length:Int)=((i % ns.length:Nat):Int):=by rw [hZ];exact (Int.natCast_emod _ _).symm
    refine ⟨_,rfl,_,rfl,_,rfl,_,_,rfl,.inl hS,_,_,rfl,rfl,by rw [hZ];omega,l,_,_,_,rfl,rfl,hS,by rw [em];exact at_ _ (Nat.mod_lt _ hpos),?_⟩
    have b1:=Int.emod_nonneg (ns.getD (i % ns.length) 0) (show (1000003:Int)≠0 by decide)
    have b2:=Int.emod_lt_of_pos (ns.getD (i % ns.length) 0) (show (0:Int)<1000003 by decide)
    refine ⟨_,_,rfl,rfl,by show (0:Int)<1000003;decide,_,_,rfl,rfl,?m1,_,rfl,_,rfl,_,_,rfl,rfl,?m2,_,_,rfl,rfl,?m3,_,_,rfl,rfl,_,_,rfl,rfl,by show (0:Int)<1000003;decide,k⟩
    case m1=>exact ⟨Sm.of_le (n:=20) (by omega) (by decide),Sm.of_le (n:=20) (by decide) (by decide)⟩
    case m2=>exact ⟨Sm.of_le (n:=20) (by omega) (by decide),Sm.of_le (n:=20) (by omega) (by decide)⟩
    case m3=>exact ⟨Sm.of_le (n:=20) (by rw [jo];exact ie (i4 (show (i:Int).natAbs<=1000 by omega) (show (i:Int).natAbs<=1000 by omega)) (by decide)) (by decide),Sm.of_le (n:=20) (by decide) (by decide)⟩
inductive IspNameA (vs:List V) (H:Hp) (Q:VK):Prop
 | mk (k c:Int) (h1:vs=[.int k,.int c]) (h2:0<=k) (h3:k<37) (h4:Q (.str (bC k c)) H):IspNameA vs H Q
noncomputable def spNameA:Sp:=λ vs H Q _=>IspNameA vs H Q
theorem gY {c:Nat}:(⟨#[c]⟩:Str).length=1:=rfl
theorem eW (T:TX K mg a):FnB P w K mg base CX0 "_law_name" 1 ["_law_at","_law_cell"] spNameA:=by
 refine T.d_law_name.ok sc_law_name (λ vs H Q E h=>?_) (λ f cdv A outer s H vs Q E hr h=>?_)
 ·obtain ⟨k,c,rfl,_⟩:=h
  rfl
 ·obtain ⟨i,c,rfl,h0,h1,k⟩:=h
  refine ⟨_,(ag (au (i:=2) sc_law_name.nd rfl (Or.inl rfl) dQ)
   (ag (au (i:=3) sc_law_name.nd rfl (Or.inl rfl) (ak op_rep_str (aD ix_str (pv 2) (ak aL (pv 1) ae) (λ _ _=>rfl)) (ak aQ (ak aL (ak aY (pv 1) ae) ae) (ak aJ ae (ak aQ (ak aY (ak aL (ak aY (pv 1) ae) ae) ae) ae)))))
   (ag (au (i:=4) sc_law_name.nd rfl (Or.inl rfl) (aD ix_str (pv 2) (ak aL (ak aJ (ak aQ (pv 0) ae) (ak aY (pv 1) ae)) ae) (λ _ _=>rfl)))
   (ah (aw (ak aI (ak aI (pv 3) (pv 4)) (ak op_rep_str (aD ix_str (pv 2) (ak aL (ak aY (pv 1) ae) ae) (λ _ _=>rfl)) (ak aL (ak aY (pv 1) ae) ae)))))))),?_⟩
  try dsimp only [aK,Cx.nox,Cx.wish]
  obtain ⟨p1,p2⟩:=aN c (show (0:Int)<37 by decide)
  obtain ⟨q1,q2⟩:=aN (c / 37) (show (0:Int)<4 by decide)
  obtain ⟨r1,r2⟩:=aN (c / 5) (show (0:Int)<9 by decide)
  obtain ⟨t1,t2⟩:=aN (i*5+c / 148) (show (0:Int)<37 by decide)
  obtain ⟨u1,u2⟩:=aN (c / 11) (show (0:Int)<37 by decide)
  obtain ⟨v1,v2⟩:=aN (c / 7) (show (0:Int)<3 by decide)
  unfold bC at k
  have d1:0<=c / 5 % 9 / 8/\c / 5 % 9 / 8<=1:=by omega
  have e1:0<=c / 37 % 4*(1+c / 5 % 9 / 8*12)/\c / 37 % 4*(1+c / 5 % 9 / 8*12)<=39:=by
   have g1:0<=1+c / 5 % 9 / 8*12:=by omega
   have g2:1+c / 5 % 9 / 8*12<=13:=by omega
   refine ⟨Int.mul_nonneg q1 g1,Int.le_trans (Int.mul_le_mul (show c / 37 % 4<=3 by omega) g2 g1 (by decide)) (by decide)⟩
  have l1:(Txt.mul (⟨#[sgAt (c % 37)]⟩:Str) (c / 37 % 4*(1+c / 5 % 9 / 8*12))).length<=39:=by rw [len_cps,mul_cps,jw];omega
  have l2:(Txt.mul (⟨#[sgAt (c / 11 % 37)]⟩:Str) (c / 7 % 3)).length<=3:=by rw [len_cps,mul_cps,jw];omega
  walk_at "rd"
  refine ⟨by rw [iK];decide,sgAt_some p1 p2,?_⟩
  walk_at "rd"
  refine ⟨⟨Sm.of_le (n:=20) (by omega) (by decide),Sm.of_le (n:=20) (by decide) (by decide)⟩,?_⟩
  walk_at "rd"
  refine ⟨⟨Sm.of_le (n:=20) (by omega) (by decide),Sm.of_le (n:=20) (by omega) (by decide)⟩,?_⟩
  walk_at "rd"
  refine ⟨show (c / 37 % 4*(1+c / 5 % 9 / 8*12)).natAbs<1000 by omega,?_⟩
  walk_at "rd"
  refine ⟨⟨Sm.of_le (n:=20) (by omega) (by decide),Sm.of_le (n:=20) (by decide) (by decide)⟩,?_⟩
  walk_at "rd"
  refine ⟨by rw [iK];decide,sgAt_some t1 t2,?_⟩
  walk_at "rd"
  refine ⟨by rw [iK,gY];omega,?_⟩
  walk_at "rd"
  refine ⟨by rw [iK];decide,sgAt_some u1 u2,?_⟩
  walk_at "rd"
  refine ⟨by omega,?_⟩
  walk_at "rd"
  refine ⟨by rw [iK,iJ,gY];omega,?_⟩
  exact k
inductive IspNum (vs:List V) (H:Hp) (Q:VK):Prop
 | mk (c:Int) (h1:vs=[.int c]) (h2:∀ (z:Int × Int) p,H p=none->N50 z->Q (.ref p) (upd H p (.tup [.int z.1,.int z.2]))):IspNum vs H Q
noncomputable def spNum:Sp:=λ vs H Q _=>IspNum vs H Q
theorem cW (T:TX K mg a):FnB P w K mg base CX0 "_law_number" 1 ["_law_cell"] spNum:=by
 refine T.d_law_number.ok sc_law_number (λ vs H Q E h=>?_) (λ f cdv A outer s H vs Q E hr h=>?_)
 ·obtain ⟨c,rfl,_⟩:=h
  rfl
 ·obtain ⟨c,rfl,k⟩:=h
  refine ⟨_,(ag (aS (aG dZ (ak aL (ak aY (pv 0) ae) ae) ae (aM _)) (ah (aw (aV (aa ae (aa ae ad))))) aE)
   (ag (aS (aG dZ (ak aL (ak aY (pv 0) ae) ae) ae (aM _)) (ah (aw (aV (aa (ak gc (ak aL (ak aY (pv 0) ae) ae) ae) (aa ae ad))))) aE)
   (ah (aw (aV (aa (ak gc (ak aL (pv 0) ae) ae) (aa (ak aJ ae (ak aL (ak aY (pv 0) ae) ae)) ad))))))),?_⟩
  try dsimp only [aK,Cx.nox,Cx.wish]
  walk_at "rd"
  refine ifV (λ h1=>⟨by show 2<=sizeLine;decide,λ p np=>k (0,1) p np ⟨by decide,by decide,by decide⟩⟩) (λ h1=>?_)
  walk_at "rd"
  refine ifV (λ h2=>?_) (λ h2=>?_)
  ·walk_at "rd"
   obtain ⟨e0,e1⟩:=aN (c / 750) (show (0:Int)<2000001 by decide)
   exact ⟨by show 2<=sizeLine;decide,λ p np=>k (c / 750 % 2000001-1000000,1) p np ⟨by dsimp only;omega,by dsimp only;decide,by dsimp only;decide⟩⟩
  ·walk_at "rd"
   obtain ⟨e0,e1⟩:=aN c (show (0:Int)<25 by decide)
   obtain ⟨f0,f1⟩:=aN (c / 25) (show (0:Int)<6 by decide)
   exact ⟨by show 2<=sizeLine;decide,λ p np=>k (c % 25-9,1+c / 25 % 6) p np ⟨by dsimp only;omega,by dsimp only;omega,by dsimp only;omega⟩⟩
inductive IspNotU (vs:List V) (H:Hp) (Q:VK):Prop
 | mk (c:Int) (h1:vs=[.int c]) (h2:∀ (z:Int × Int) p,H p=none->0<=z.1->N50 z->Q (.ref p) (upd H p (.tup [.int z.1,.int z.2]))):IspNotU vs H Q
noncomputable def spNotU:Sp:=λ vs H Q _=>IspNotU vs H Q
theorem ok_law_not_under (T:TX K mg a):FnB P w K mg base CX0 "_law_not_under" 1 ["_law_cell"] spNotU:=by
 refine T.d_law_not_under.ok sc_law_not_under (λ vs H Q E h=>?_) (λ f cdv A outer s H vs Q E hr h=>?_)
 ·obtain ⟨c,rfl,_⟩:=h
  rfl
 ·obtain ⟨c,rfl,k⟩:=h
  refine ⟨_,(ag (aS (aG dZ (ak aL (ak aY (pv 0) ae) ae) ae (aM _)) (ah (aw (aV (aa (ak aL (ak aY (pv 0) ae) ae) (aa ae ad))))) aE)
   (ah (aw (aV (aa (ak aL (pv 0) ae) (aa (ak aJ ae (ak aL (ak aY (pv 0) ae) ae)) ad)))))),?_⟩
  try dsimp only [aK,Cx.nox,Cx.wish]
  walk_at "rd"
  refine ifV (λ h1=>?_) (λ h1=>?_)
  ·walk_at "rd"
   obtain ⟨e0,e1⟩:=aN (c / 360) (show (0:Int)<1000001 by decide)
   exact ⟨by show 2<=sizeLine;decide,λ p np=>k (c / 360 % 1000001,1) p np e0 ⟨by dsimp only;omega,by dsimp only;decide,by dsimp only;decide⟩⟩
  ·walk_at "rd"
   obtain ⟨e0,e1⟩:=aN c (show (0:Int)<15 by decide)
   obtain ⟨f0,f1⟩:=aN (c / 15) (show (0:Int)<4 by decide)
   exact ⟨by show 2<=sizeLine;decide,λ p np=>k (c % 15,1+c / 15 % 4) p np e0 ⟨by dsimp only;omega,by dsimp only;omega,by dsimp only;omega⟩⟩
inductive IspHigh50 (vs:List V) (H:Hp) (Q:VK):Prop
 | mk (c:Int) (h1:vs=[.int c]) (h2:∀ (v:V) (o:Option (Int × Int)) H',Same H H'->OptIs H' v o->(∀ z,o=some z->0<=z.1/\N50 z)->Q v H'):IspHigh50 vs H Q
noncomputable def spHigh50:Sp:=λ vs H Q _=>IspHigh50 vs H Q
theorem ok_law_high (T:TX K mg a):FnB P w K mg base CX0 "_law_high" 2 ["_law_cell"] spHigh50:=by
 refine T.d_law_high.ok sc_law_high (λ vs H Q E h=>?_) (λ f cdv A outer s H vs Q E hr h=>?_)
 ·obtain ⟨c,rfl,_⟩:=h
  rfl
 ·obtain ⟨c,rfl,k⟩:=h
  refine ⟨_,(ag (aS (aG dZ (ak aL (pv 0) ae) ae (aM _)) (ah (aw dr)) aE)
   (ah (aw (ay (ok_law_not_under T) hr am (aa (ak aY (pv 0) ae) ad))))),?_⟩
  try dsimp only [aK,Cx.nox,Cx.wish]
  walk_at "rd"
  refine ifV (λ h1=>k .non none H (Same.refl _) rfl (λ z hz=>by cases hz)) (λ h1=>?_)
  refine ⟨_,rfl,_,_,rfl,rfl,⟨by decide,by decide⟩,_,rfl,λ z p np z0 nz=>k (.ref p) (some z) _ (aj np) ⟨p,rfl,ac⟩ (λ y hy=>by cases hy;exact ⟨z0,nz⟩)⟩
inductive IspGainBy (vs:List V) (H:Hp) (Q:VK):Prop
 | mk (c:Int) (h1:vs=[.int c]) (h2:∀ (g:Int × Int) p,H p=none->(c % 4=0->g=(1,1))->(c % 4=2->g.1<=g.2)->1<=g.1/\g.1<=997->1<=g.2/\g.2<=997->Q (.ref p) (upd H p (.tup [.int g.1,.int g.2]))):IspGainBy vs H Q
noncomputable def spGainBy:Sp:=λ vs H Q _=>IspGainBy vs H Q
theorem ok_law_gain_by (T:TX K mg a):FnB P w K mg base CX0 "_law_gain_by" 1 ["_law_cell"] spGainBy:=by
 refine T.d_law_gain_by.ok sc_law_gain_by (λ vs H Q E h=>?_) (λ f cdv A outer s H vs Q E hr h=>?_)
 ·obtain ⟨c,rfl,_⟩:=h
  rfl
 ·obtain ⟨c,rfl,k⟩:=h
  refine ⟨_,(ag (aS (aG dZ (ak aL (pv 0) ae) ae (aM _)) (ah (aw (aV (aa ae (aa ae ad))))) aE)
   (ag (aS (aG dZ (ak aL (pv 0) ae) ae (aM _)) (ah (aw (aV (aa (ak aJ ae (ak aL (ak aY (pv 0) ae) ae)) (aa (ak aJ (ak aJ ae (ak aL (ak aY (pv 0) ae) ae)) (ak aL (ak aY (pv 0) ae) ae)) ad))))) aE)
   (ag (aS (aG dZ (ak aL (pv 0) ae) ae (aM _)) (ah (aw (aV (aa (ak aJ ae (ak aL (ak aY (pv 0) ae) ae)) (aa (ak aJ ae (ak aL (ak aY (pv 0) ae) ae)) ad))))) aE)
   (ah (aw (aV (aa (ak aJ ae (ak aL (ak aY (pv 0) ae) ae)) (aa (ak aJ ae (ak aL (ak aY (pv 0) ae) ae)) ad)))))))),?_⟩
  try dsimp only [aK,Cx.nox,Cx.wish]
  walk_at "rd"
  refine ifV (λ h1=>⟨by show 2<=sizeLine;decide,λ p np=>k (1,1) p np (λ _=>rfl) (λ z=>by omega) ⟨by decide,by decide⟩ ⟨by decide,by decide⟩⟩) (λ h1=>?_)
  walk_at "rd"
  refine ifV (λ h2=>?_) (λ h2=>?_)
  ·walk_at "rd"
   obtain ⟨e0,e1⟩:=aN (c / 4) (show (0:Int)<5 by decide)
   obtain ⟨f0,f1⟩:=aN (c / 20) (show (0:Int)<5 by decide)
   exact ⟨by show 2<=sizeLine;decide,λ p np=>k (1+c / 4 % 5,1+c / 4 % 5+c / 20 % 5) p np (λ z=>by omega) (λ z=>by dsimp only;omega) (by dsimp only;omega) (by dsimp only;omega)⟩
  walk_at "rd"
  refine ifV (λ h3=>?_) (λ h3=>?_)
  ·walk_at "rd"
   obtain ⟨e0,e1⟩:=aN (c / 4) (show (0:Int)<997 by decide)
   obtain ⟨f0,f1⟩:=aN (c / 3988) (show (0:Int)<997 by decide)
   exact ⟨by show 2<=sizeLine;decide,λ p np=>k (1+c / 4 % 997,1+c / 3988 % 997) p np (λ z=>by omega) (λ z=>by omega) (by dsimp only;omega) (by dsimp only;omega)⟩
  ·walk_at "rd"
   obtain ⟨e0,e1⟩:=aN (c / 4) (show (0:Int)<6 by decide)
   obtain ⟨f0,f1⟩:=aN (c / 24) (show (0:Int)<6 by decide)
   exact ⟨by show 2<=sizeLine;decide,λ p np=>k (1+c / 4 % 6,1+c / 24 % 6) p np (λ z=>by omega) (λ z=>by omega) (by dsimp only;omega) (by dsimp only;omega)⟩
inductive IspEnds (K:W.Frag) (vs:List V) (H:Hp) (Q:VK):Prop
 | mk (c:Int) (l:Addr) (ts:List V) (es:List Ent) (h1:vs=[.int c,.ref l]) (h2:SqL K H l ts) (h3:RowAt EntIs H ts es) (h4:(es.map (·.1)).Nodup) (h5:2<=es.length) (h6:es.length<=100) (h7:∀ (st go:Str) p,H p=none->st∈es.map (·.1)->go∈es.map (·.1)->st≠go->Q (.ref p) (upd H p (.tup [.str st,.str go]))):IspEnds K vs H Q
noncomputable def spEnds (K:W.Frag):Sp:=λ vs H Q _=>IspEnds K vs H Q
theorem ok_law_ends (T:TX K mg a):FnB P w K mg base CX0 "_law_ends" 1 ["_law_cell","_law_places"] (spEnds K):=by
 refine T.d_law_ends.ok sc_law_ends (λ vs H Q E h=>?_) (λ f cdv A outer s H vs Q E hr h=>?_)
 ·obtain ⟨c,l,ts,es,rfl,_⟩:=h
  rfl
 ·obtain ⟨c,l,ts,es,rfl,hl,hes,nd,l2,l100,k⟩:=h
  refine ⟨_,(ag (au (i:=2) sc_law_ends.nd rfl (Or.inl rfl) (aH a8 (by rfl) T.z_len iU (aa (pv 1) ad)))
   (ag (au (i:=3) sc_law_ends.nd rfl (Or.inl rfl) (ak aL (pv 0) (pv 2)))
   (ag (au (i:=4) sc_law_ends.nd rfl (Or.inl rfl) (ak aL (ak aJ (ak aJ (pv 3) ae) (ak aL (ak bh (pv 0) (pv 2)) (ak gc (pv 2) ae))) (pv 2)))
   (ah (aw (aV (aa (aD az (aD fL (pv 1) (pv 3) (λ _ _=>rfl)) ae (λ _ _=>rfl)) (aa (aD az (aD fL (pv 1) (pv 4) (λ _ _=>rfl)) ae (λ _ _=>rfl)) ad)))))))),?_⟩
  try dsimp only [aK,Cx.nox,Cx.wish]
  have lt:ts.length=es.length:=hes.1
  have np:(0:Int)<(ts.length:Int):=by omega
  have np1:(0:Int)<(ts.length:Int)-1:=by omega
  obtain ⟨a0,a1⟩:=aN c np
  obtain ⟨b0,b1⟩:=aN (c.fdiv (ts.length:Int)) np1
  obtain ⟨g0,g1'⟩:=aN (c % (ts.length:Int)+1+c.fdiv (ts.length:Int) % ((ts.length:Int)-1)) np
  obtain ⟨i,hi⟩:=iT a0
  obtain ⟨j,hj⟩:=iT g0
  have il:i<es.length:=by omega
  have jl:j<es.length:=by omega
  have ij:i≠j:=by
   intro z
   have h1:(c % (ts.length:Int)+1+c.fdiv (ts.length:Int) % ((ts.length:Int)-1)) % (ts.length:Int)=c % (ts.length:Int):=by omega
   generalize c.fdiv (ts.length:Int) % ((ts.length:Int)-1)=u at *
   generalize c % (ts.length:Int)=v at *
   have h2:(v+1+u) % (ts.length:Int)=v:=h1
   by_cases h3:v+1+u<ts.length
   ·rw [Int.emod_eq_of_lt (by omega) h3] at h2
    omega
   ·rw [show v+1+u=(v+1+u-(ts.length:Int))+(ts.length:Int) by omega,Int.add_emod_right,Int.emod_eq_of_lt (by omega) (by omega)] at h2
    omega
  obtain ⟨x,ex⟩:∃ x,es[i]?=some x:=⟨_,ii il⟩
  obtain ⟨y,ey⟩:∃ y,es[j]?=some y:=⟨_,ii jl⟩
  obtain ⟨tx,etx,t1,v1,rfl,ht1,_⟩:=hes.get' ex
  obtain ⟨ty,ety,t2,v2,rfl,ht2,_⟩:=hes.get' ey
  have ne:x.1≠y.1:=λ e=>ij ((List.getElem?_inj (by rw [hZ];exact il) nd).mp (by rw [iq,iq,ex,ey];exact i7 some e))
  refine ⟨_,rfl,l,_,rfl,.inl hl,_,rfl,_,rfl,_,_,rfl,rfl,np,?_⟩
  refine ⟨_,rfl,_,_,rfl,rfl,_,rfl,_,rfl,_,_,rfl,rfl,?d1,_,rfl,_,_,rfl,rfl,_,_,rfl,rfl,np1,_,_,rfl,rfl,_,rfl,_,_,rfl,rfl,np,?_⟩
  case d1=>exact ⟨by omega,Sm.of_le (n:=20) (by omega) (by decide)⟩
  refine ⟨_,rfl,_,rfl,l,_,_,_,rfl,rfl,hl,by rw [hi];exact atI_nat etx,t1,_,_,_,rfl,rfl,SqT.of ht1,rfl,_,rfl,_,rfl,l,_,_,_,rfl,rfl,hl,by rw [hj];exact atI_nat ety,t2,_,_,_,rfl,rfl,SqT.of ht2,rfl,by show 2<=sizeLine;decide,λ p np=>?_⟩
  exact k x.1 y.1 p np (iy.mpr ⟨x,ig ex,rfl⟩) (iy.mpr ⟨y,ig ey,rfl⟩) ne
theorem lt_one {n d:Int} (hd:0<d) (h:n<d):Rat.divInt n d<1:=by
 rw [show (1:Rat)=Rat.divInt 1 1 from rfl,lt_div hd (by decide)]
 omega
theorem gK {n d:Int} (hd:0<d) (h:0<=n):0<=(Rat.divInt n d).num:=Rat.num_nonneg.mpr ((divInt_nn n hd).mpr h)
theorem pos_num {n d:Int} (hd:0<d) (h:0<n):0<(Rat.divInt n d).num:=by
 have h1:=gK hd (Int.le_of_lt h)
 have h2:(Rat.divInt n d).num≠0:=λ e=>by
  have h3:=Rat.num_divInt_den (Rat.divInt n d)
  rw [e,Rat.zero_divInt] at h3
  have:=(Rat.divInt_eq_divInt_iff (show (1:Int)≠0 by decide) (show d≠0 by omega)).mp (show Rat.divInt 0 1=Rat.divInt n d from by rw [<- h3,Rat.zero_divInt])
  omega
 omega
noncomputable def W7.d (r:W7):WD:=if r.kd=0 then ⟨r.nm,r.st,r.go,.way,0,r.hi.map vC,vC r.co⟩ else if r.kd=2 then ⟨r.nm,r.st,r.go,.lea,Rat.divInt (r.gain.2-r.gain.1) r.gain.2,r.hi.map vC,vC r.co⟩ else ⟨r.nm,r.st,r.go,.gro,Rat.divInt r.gain.1 r.gain.2,r.hi.map vC,vC r.co⟩
theorem W7.d_nm (r:W7):r.d.nm=r.nm:=by unfold W7.d;split <;> (try split) <;> rfl
theorem W7.d_st (r:W7):r.d.st=r.st:=by unfold W7.d;split <;> (try split) <;> rfl
theorem W7.d_go (r:W7):r.d.go=r.go:=by unfold W7.d;split <;> (try split) <;> rfl
theorem W7.d_hi (r:W7):r.d.hi=r.hi.map vC:=by unfold W7.d;split <;> (try split) <;> rfl
inductive IspNet50 (K:W.Frag) (vs:List V) (H:Hp) (Q:VK):Prop
 | mk (l:Addr) (ns:List Int) (n m:Nat) (h1:vs=[.ref l,.int n,.int m]) (h2:SqL K H l (ns.map V.int)) (h3:n<=12) (h4:m<=24) (h5:(n<2->m=0)) (h6:∀ t lp lw tp tw (es:List Ent) (rs:List W7) H',Same H H'->H' t=some (.tup [.ref lp,.ref lw])->H' lp=some (.lst tp)->H' lw=some (.lst tw)->RowAt EntIs H' tp es->RowAt W7Is H' tw rs->es.length=n->es.map (·.1)=cM (aP ns 1) n->(∀ e∈es,N50 e.2)->rs.length=m->rs.map (·.nm)=cM (aP ns 2) m->(∀ r∈rs,W7Ok (es.map (·.1)) r)->Q (.ref t) H'):IspNet50 K vs H Q
noncomputable def spNet50 (K:W.Frag):Sp:=λ vs H Q _=>IspNet50 K vs H Q
theorem ok_law_net (T:TX K mg a):FnB P w K mg base CX0 "_law_net" 3 ["_law_script","_law_size","_law_many"] (spNet50 K):=by
 refine T.d_law_net.ok sc_law_net (λ vs H Q E h=>?_) (λ f cdv A outer s H vs Q E hr h=>?_)
 ·obtain ⟨_,_,_,_,rfl,_⟩:=h
  rfl
 ·obtain ⟨l,ns,n,m,rfl,hS,n12,m24,nm,k⟩:=h
  refine ⟨_,(ag (au (i:=3) sc_law_net.nd rfl (Or.inl rfl) (dR ad))
   (aX (aR ix rfl (fu rfl T.z_range (aa (pv 1) ad)) (aq (i:=4) sc_law_net.nd rfl (Or.inl rfl)) (ah (aT (eV iO i8 i9 cD (pv 3) (aa (aV (aa (ay (eW T) hr am (aa (pv 4) (aa (ay (aA T) hr am (aa (pv 0) (aa ae ad))) ad))) (aa (ay (cW T) hr am (aa (ay (aA T) hr am (aa (pv 0) (aa (ak aJ ae (pv 4)) ad))) ad)) ad))) ad)))))
   (ag (au (i:=5) sc_law_net.nd rfl (Or.inl rfl) (dR ad))
   (aX (aR ix rfl (fu rfl T.z_range (aa (pv 2) ad)) (aq (i:=4) sc_law_net.nd rfl (Or.inl rfl)) (ag (au (i:=6) sc_law_net.nd rfl (Or.inl rfl) (ak aJ (ak aJ ae (pv 1)) (ak aQ ae (pv 4))))
   (ag (ps_asg (ay (ok_law_ends T) hr am (aa (ay (aA T) hr am (aa (pv 0) (aa (pv 6) ad))) (aa (pv 3) ad))) (dm rfl (aF (aq (i:=7) sc_law_net.nd rfl (Or.inl rfl)) (aF (aq (i:=8) sc_law_net.nd rfl (Or.inl rfl)) cG))))
   (ag (au (i:=9) sc_law_net.nd rfl (Or.inl rfl) (ak aL (ay (aA T) hr am (aa (pv 0) (aa (ak aJ (pv 6) ae) ad))) ae))
   (ag (au (i:=10) sc_law_net.nd rfl (Or.inl rfl) (ay (ok_law_gain_by T) hr am (aa (ay (aA T) hr am (aa (pv 0) (aa (ak aJ (pv 6) ae) ad))) ad)))
   (ag (au (i:=11) sc_law_net.nd rfl (Or.inl rfl) (ay (ok_law_high T) hr am (aa (ay (aA T) hr am (aa (pv 0) (aa (ak aJ (pv 6) ae) ad))) ad)))
   (ag (au (i:=12) sc_law_net.nd rfl (Or.inl rfl) (ay (cW T) hr am (aa (ay (aA T) hr am (aa (pv 0) (aa (ak aJ (pv 6) ae) ad))) ad)))
   (ah (aT (eV iO i8 i9 cD (pv 5) (aa (aV (aa (ay (eW T) hr am (aa (pv 4) (aa (ay (aA T) hr am (aa (pv 0) (aa ae ad))) ad))) (aa (pv 7) (aa (pv 8) (aa (pv 9) (aa (pv 10) (aa (pv 11) (aa (pv 12) ad)))))))) ad)))))))))))
   (ah (aw (aV (aa (pv 3) (aa (pv 5) ad))))))))),?_⟩
  try dsimp only [aK,Cx.nox,Cx.wish]
  refine ⟨by decide,λ lp nlp=>?_⟩
  have s1:=aj (o:=.lst []) nlp
  have h1:upd H lp (.lst []) lp=some (.lst []):=ac
  generalize upd H lp (.lst [])=H1 at s1 h1 ⊢
  refine ⟨λ σ' H'=>∃ z4 tp es,σ'=[some (.ref l),some (.int n),some (.int m),some (.ref lp),z4,none,none,none,none,none,none,none,none]/\Same H H'/\H' lp=some (.lst tp)/\RowAt EntIs H' tp es/\es.length=n/\es.map (·.1)=cM (aP ns 1) n/\∀ e∈es,N50 e.2,?_,?_⟩
  ·refine ⟨_,rfl,(n:Int),rfl,by omega,by omega,eI (n:=n) (λ i σ H2=>i<=n/\∃ z4 tp es,σ=[some (.ref l),some (.int n),some (.int m),some (.ref lp),z4,none,none,none,none,none,none,none,none]/\Same H H2/\H2 lp=some (.lst tp)/\RowAt EntIs H2 tp es/\es.length=i/\es.map (·.1)=cM (aP ns 1) i/\∀ e∈es,N50 e.2) ⟨im _,_,[],[],rfl,s1,h1,RowAt.nil,rfl,rfl,λ e he=>absurd he ib⟩ ?_ ?_⟩
   ·rintro i σ H2 hi ⟨_,z4,tp,es,rfl,s2,h2,hv,le,en,eok⟩
    have hi':i<n:=by omega
    have ltp:tp.length<=12:=by rw [hv.1];omega
    refine ⟨_,rfl,.inl ⟨rfl,_,SqL.of h2⟩,?_⟩
    refine ⟨_,rfl,_,rfl,l,ns,1,rfl,s2.seq hS,by decide,_,_,rfl,by omega,by omega,?_⟩
    refine ⟨_,rfl,_,rfl,_,_,rfl,rfl,l,ns,3+i,by show [V.ref l,V.int (3+(0+(i:Int)))]=[V.ref l,V.int ((3+i:Nat):Int)];rw [show 3+(0+(i:Int))=((3+i:Nat):Int) by omega],s2.seq hS,by omega,_,rfl,λ z p np nz=>?_⟩
    have s3:=aj (o:=.tup [.int z.1,.int z.2]) np
    have hp:upd H2 p (.tup [.int z.1,.int z.2]) p=some (.tup [.int z.1,.int z.2]):=ac
    generalize upd H2 p (.tup [.int z.1,.int z.2])=H3 at s3 hp ⊢
    refine ⟨by show 2<=sizeLine;decide,λ t nt=>?_⟩
    have e0:(0+(i:Int))=(i:Int):=Int.zero_add _
    have s4:=s3.trans (aj (o:=.tup [.str (bC (0+(i:Int)) (aP ns 1)),.ref p]) nt)
    have hp4:=aj (o:=.tup [.str (bC (0+(i:Int)) (aP ns 1)),.ref p]) nt _ _ hp
    have ht:upd H3 t (.tup [.str (bC (0+(i:Int)) (aP ns 1)),.ref p]) t=some (.tup [.str (bC (0+(i:Int)) (aP ns 1)),.ref p]):=ac
    generalize upd H3 t (.tup [.str (bC (0+(i:Int)) (aP ns 1)),.ref p])=H4 at s4 hp4 ht ⊢
    rw [e0] at ht
    have h4:=s4 _ _ h2
    refine ⟨lp,_,_,rfl,rfl,h4,ax (by omega),?_⟩
    refine ⟨hi',_,_,es++[(bC (i:Int) (aP ns 1),z)],rfl,aC nlp (s2.trans s4),ac,RowAt.snoc (hv.mono λ v x y=>(y.mono s4).ko (.lst h4)) (EntIs.ko ⟨t,.ref p,rfl,ht,⟨p,rfl,hp4⟩⟩ (.lst h4)),by rw [ir,le];rfl,by rw [iu,en,namesA_succ];rfl,λ e he=>?_⟩
    rcases iS.mp he with y | y
    ·exact eok e y
    ·rw [i5.mp y]
     exact nz
   ·rintro σ H2 ⟨_,z4,tp,es,rfl,s2,h2,hv,le,en,eok⟩
    exact ⟨_,tp,es,rfl,s2,h2,hv,le,en,eok⟩
  clear h1 s1
  rintro σ' H2 ⟨z4,tp,es,rfl,s2,h2,hv,le,en,eok⟩
  have end_:(es.map (·.1)).Nodup:=by rw [en];exact gw (by omega)
  refine ⟨by decide,λ lw nlw=>?_⟩
  have s3:=aj (o:=.lst []) nlw
  have h3:upd H2 lw (.lst []) lw=some (.lst []):=ac
  generalize upd H2 lw (.lst [])=H3 at s3 h3 ⊢
  have nlp3:=s3 _ _ h2
  have hv3:=hv.mono λ v x y=>EntIs.mono y s3
  refine ⟨λ σ' H'=>∃ z4 z6 z7 z8 z9 z10 z11 z12 tw rs,σ'=[some (.ref l),some (.int n),some (.int m),some (.ref lp),z4,some (.ref lw),z6,z7,z8,z9,z10,z11,z12]/\Same H2 H'/\H' lw=some (.lst tw)/\RowAt W7Is H' tw rs/\rs.length=m/\rs.map (·.nm)=cM (aP ns 2) m/\∀ r∈rs,W7Ok (es.map (·.1)) r,?_,?_⟩
  ·refine ⟨_,rfl,(m:Int),rfl,by omega,by omega,eI (n:=m) (λ i σ H4=>i<=m/\∃ z4 z6 z7 z8 z9 z10 z11 z12 tw rs,σ=[some (.ref l),some (.int n),some (.int m),some (.ref lp),z4,some (.ref lw),z6,z7,z8,z9,z10,z11,z12]/\Same H2 H4/\H4 lw=some (.lst tw)/\RowAt W7Is H4 tw rs/\rs.length=i/\rs.map (·.nm)=cM (aP ns 2) i/\∀ r∈rs,W7Ok (es.map (·.1)) r) ⟨im _,_,_,_,_,_,_,_,_,[],[],rfl,s3,h3,RowAt.nil,rfl,rfl,λ e he=>absurd he ib⟩ ?_ ?_⟩
   ·rintro i σ H4 hi ⟨_,z4',z6,z7,z8,z9,z10,z11,z12,tw,rs,rfl,s4,h4,hw,lr,rn,rok⟩
    have hi':i<m:=by omega
    have ltw:tw.length<=24:=by rw [hw.1];omega
    have n2:2<=n:=by
     rcases Nat.lt_or_ge n 2 with z | z
     ·have:=nm z
      omega
     ·exact z
    refine ⟨_,rfl,_,_,rfl,rfl,_,rfl,_,_,rfl,rfl,?m1,_,_,rfl,rfl,?_⟩
    case m1=>exact ⟨Sm.of_le (n:=20) (by decide) (by decide),Sm.of_le (n:=20) (by omega) (by decide)⟩
    have hS4:=(s2.trans s4).seq hS
    have cell:∀ (j:Nat) (u:Int),u=3+(n:Int)+4*(0+(i:Int))+j->[V.ref l,V.int u]=[V.ref l,V.int ((3+n+4*i+j:Nat):Int)]:=λ j u e=>by rw [show u=((3+n+4*i+j:Nat):Int) by omega]
    refine ⟨_,rfl,_,rfl,l,ns,3+n+4*i+0,cell 0 _ (by omega),hS4,by omega,_,rfl,_,lp,tp,es,rfl,SqL.of (s4 _ _ h2),hv.mono (λ v x y=>EntIs.mono y s4),end_,by omega,by omega,λ st go p np hst hgo ne=>?_⟩
    have s5:=aj (o:=.tup [.str st,.str go]) np
    have hp:upd H4 p (.tup [.str st,.str go]) p=some (.tup [.str st,.str go]):=ac
    generalize upd H4 p (.tup [.str st,.str go])=H5 at s5 hp ⊢
    refine ⟨p,_,rfl,SqT.of hp,rfl,_,_,rfl,_,_,rfl,rfl,?_⟩
    have hS5:=s5.seq hS4
    refine ⟨_,rfl,_,rfl,_,_,rfl,rfl,l,ns,3+n+4*i+1,cell 1 _ rfl,hS5,by omega,_,_,rfl,rfl,by show (0:Int)<4;decide,?_⟩
    refine ⟨_,rfl,_,rfl,_,_,rfl,rfl,l,ns,3+n+4*i+1,cell 1 _ rfl,hS5,by omega,_,rfl,λ g pg npg k0 k2 g1 g2=>?_⟩
    generalize aP ns (3+n+4*i+1)=cg at k0 k2 ⊢
    have s6:=aj (o:=.tup [.int g.1,.int g.2]) npg
    have hg:upd H5 pg (.tup [.int g.1,.int g.2]) pg=some (.tup [.int g.1,.int g.2]):=ac
    generalize upd H5 pg (.tup [.int g.1,.int g.2])=H6 at s6 hg ⊢
    refine ⟨_,rfl,_,rfl,_,_,rfl,rfl,l,ns,3+n+4*i+2,cell 2 _ rfl,s6.seq hS5,by omega,_,rfl,λ vh o H7 s7 hh hb=>?_⟩
    have hg7:=s7 _ _ hg
    refine ⟨_,rfl,_,rfl,_,_,rfl,rfl,l,ns,3+n+4*i+3,cell 3 _ rfl,s7.seq (s6.seq hS5),by omega,_,rfl,λ z pz npz nz=>?_⟩
    have s8:=aj (o:=.tup [.int z.1,.int z.2]) npz
    have hz:upd H7 pz (.tup [.int z.1,.int z.2]) pz=some (.tup [.int z.1,.int z.2]):=ac
    generalize upd H7 pz (.tup [.int z.1,.int z.2])=H8 at s8 hz ⊢
    have hg8:=s8 _ _ hg7
    have hh8:=hh.mono s8
    have s48:=s5.trans (s6.trans (s7.trans s8))
    have h48:=s48 _ _ h4
    refine ⟨_,rfl,.inl ⟨rfl,_,SqL.of h48⟩,?_⟩
    refine ⟨_,rfl,_,rfl,l,ns,2,rfl,s48.seq hS4,by decide,_,_,rfl,by omega,by omega,?_⟩
    refine ⟨_,rfl,_,rfl,_,rfl,_,rfl,_,rfl,_,rfl,by show 7<=sizeLine;decide,λ t nt=>?_⟩
    have e0:(0+(i:Int))=(i:Int):=Int.zero_add _
    have s9:=aj (o:=.tup [.str (bC (0+(i:Int)) (aP ns 2)),.str st,.str go,.int (cg % 4),.ref pg,vh,.ref pz]) nt
    have ht:upd H8 t (.tup [.str (bC (0+(i:Int)) (aP ns 2)),.str st,.str go,.int (cg % 4),.ref pg,vh,.ref pz]) t=some (.tup [.str (bC (0+(i:Int)) (aP ns 2)),.str st,.str go,.int (cg % 4),.ref pg,vh,.ref pz]):=ac
    generalize upd H8 t (.tup [.str (bC (0+(i:Int)) (aP ns 2)),.str st,.str go,.int (cg % 4),.ref pg,vh,.ref pz])=H9 at s9 ht ⊢
    rw [e0] at ht
    have s49:=s48.trans s9
    have h49:=s49 _ _ h4
    refine ⟨lw,_,_,rfl,rfl,h49,ax (by omega),?_⟩
    refine ⟨hi',_,_,_,_,_,_,_,_,_,rs++[⟨bC (i:Int) (aP ns 2),st,go,cg % 4,g,o,z⟩],rfl,aC nlw (s4.trans s49),ac,RowAt.snoc (hw.mono λ v x y=>(y.mono s49).ko (.lst h49)) (W7Is.ko ⟨t,.ref pg,vh,.ref pz,rfl,ht,⟨pg,rfl,s9 _ _ hg8⟩,hh8.mono s9,⟨pz,rfl,s9 _ _ hz⟩⟩ (.lst h49)),by rw [ir,lr];rfl,by rw [iu,rn,namesA_succ];rfl,λ r hr=>?_⟩
    rcases iS.mp hr with y | y
    ·exact rok r y
    ·rw [i5.mp y]
     exact ⟨hst,hgo,ne,k0,k2,g1,g2,hb,nz,aN cg (show (0:Int)<4 by decide)⟩
   ·rintro σ H4 ⟨_,z4',z6,z7,z8,z9,z10,z11,z12,tw,rs,rfl,s4,h4,hw,lr,rn,rok⟩
    exact ⟨_,_,_,_,_,_,_,_,tw,rs,rfl,s4,h4,hw,lr,rn,rok⟩
  rintro σ' H4 ⟨z4',z6,z7,z8,z9,z10,z11,z12,tw,rs,rfl,s4,h4,hw,lr,rn,rok⟩
  refine ⟨_,rfl,_,rfl,by show 2<=sizeLine;decide,λ t nt=>?_⟩
  have s5:=aj (o:=.tup [.ref lp,.ref lw]) nt
  exact k t lp lw tp tw es rs _ (s2.trans (s4.trans s5)) ac (s5 _ _ (s4 _ _ h2)) (s5 _ _ h4) (hv.mono λ v x y=>EntIs.mono y (s4.trans s5)) (hw.mono λ v x y=>y.mono s5) le en eok lr rn rok
inductive IspWay50 (a:Ad) (vs:List V) (H:Hp) (Q:VK):Prop
 | mk (v:V) (r:W7) (sp:List Str) (h1:vs=[v]) (h2:W7Is H v r) (h3:W7Ok sp r) (h4:∀ p H',H p=none->Same H H'->WayIs a H' (.ref p) r.d->Q (.ref p) H'):IspWay50 a vs H Q
noncomputable def spWay50 (a:Ad):Sp:=λ vs H Q _=>IspWay50 a vs H Q
theorem ok_law_way (T:TX K mg a):FnB P w K mg base CX0 "_law_way" 7 ["_law_way_here"] (spWay50 a):=by
 refine T.d_law_way.ok sc_law_way (λ vs H Q E h=>?_) (λ f cdv A outer s H vs Q E hr h=>?_)
 ·obtain ⟨_,_,_,rfl,_⟩:=h
  rfl
 ·obtain ⟨v,r,sp,rfl,⟨p,vg,vh,vc,rfl,hp,⟨pg,rfl,hg⟩,hhi,⟨pc,rfl,hc⟩⟩,ok,k⟩:=h
  refine ⟨_,(ag (ps_asg (pv 0) (dm rfl (aF (aq (i:=1) sc_law_way.nd rfl (Or.inl rfl)) (aF (aq (i:=2) sc_law_way.nd rfl (Or.inl rfl)) (aF (aq (i:=3) sc_law_way.nd rfl (Or.inl rfl)) (aF (aq (i:=4) sc_law_way.nd rfl (Or.inl rfl)) (aF (aq (i:=5) sc_law_way.nd rfl (Or.inl rfl)) (aF (aq (i:=6) sc_law_way.nd rfl (Or.inl rfl)) (aF (aq (i:=7) sc_law_way.nd rfl (Or.inl rfl)) cG)))))))))
   (ag (au (i:=8) sc_law_way.nd rfl (Or.inl rfl) dr)
   (aX (aS (aG op_notN (pv 6) dr (aM _)) (ah (au (i:=8) sc_law_way.nd rfl (Or.inl rfl) (cn (mk2 T) hr T.mg_Fraction am (aa (aD az (pv 6) ae (λ _ _=>rfl)) (aa (aD az (pv 6) ae (λ _ _=>rfl)) ad))))) aE)
   (ag (au (i:=9) sc_law_way.nd rfl (Or.inl rfl) (cn (mk2 T) hr T.mg_Fraction am (aa (aD az (pv 7) ae (λ _ _=>rfl)) (aa (aD az (pv 7) ae (λ _ _=>rfl)) ad))))
   (ag (aS (aG dZ (pv 4) ae (aM _)) (ah (aw (gE (mk_Way T) hr T.mg_Way am (aa (pv 1) (aa (pv 2) (aa (pv 3) (aa (pv 8) (aa (pv 9) ad)))))))) aE)
   (ag (aS (aG dZ (pv 4) ae (aM _)) (ah (aw (gE (eN T) hr T.mg_Leaking am (aa (pv 1) (aa (pv 2) (aa (pv 3) (aa (cn (mk2 T) hr T.mg_Fraction am (aa (ak gc (aD az (pv 5) ae (λ _ _=>rfl)) (aD az (pv 5) ae (λ _ _=>rfl))) (aa (aD az (pv 5) ae (λ _ _=>rfl)) ad))) (aa (pv 8) (aa (pv 9) ad))))))))) aE)
   (ah (aw (gE (fK T) hr T.mg_Growing am (aa (pv 1) (aa (pv 2) (aa (pv 3) (aa (cn (mk2 T) hr T.mg_Fraction am (aa (aD az (pv 5) ae (λ _ _=>rfl)) (aa (aD az (pv 5) ae (λ _ _=>rfl)) ad))) (aa (pv 8) (aa (pv 9) ad))))))))))))))),?_⟩
  try dsimp only [aK,Cx.nox,Cx.wish]
  refine ⟨_,rfl,p,_,rfl,SqT.of hp,rfl,_,_,rfl,_,_,rfl,_,_,rfl,_,_,rfl,_,_,rfl,_,_,rfl,_,_,rfl,rfl,?_⟩
  refine ⟨λ σ' H'=>∃ (vb:V) (z9:Option V),σ'=[some (.ref p),some (.str r.nm),some (.str r.st),some (.str r.go),some (.int r.kd),some (.ref pg),some vh,some (.ref pc),some vb,z9]/\Same H H'/\HiOk a.Fraction H' vb/\HiT a H' vb (r.hi.map vC),?_,?_⟩
  ·cases ho:r.hi with
   | none=>
    rw [ho] at hhi
    obtain rfl:vh=.non:=hhi
    refine ⟨_,rfl,rfl,_,rfl,iteF ?_⟩
    exact ⟨V.non,_,rfl,Same.refl _,.inl rfl,rfl⟩
   | some c=>
    rw [ho] at hhi
    obtain ⟨ph,rfl,hph⟩:=hhi
    obtain ⟨h0,h1⟩:=ok.hi c ho
    have:=h1.b
    refine ⟨_,rfl,rfl,_,rfl,iteT ?_⟩
    refine ⟨_,rfl,ph,_,_,_,rfl,rfl,SqT.of hph,rfl,_,rfl,ph,_,_,_,rfl,rfl,SqT.of hph,rfl,_,_,rfl,by omega,h1.sm.2,λ q H1 nq s1 f1=>?_⟩
    exact ⟨.ref q,_,rfl,s1,.inr ⟨q,_,rfl,f1,gK (by omega) h0⟩,⟨q,rfl,f1⟩⟩
  rintro σ' H1 ⟨vb,z9,rfl,s1,hb,hT⟩
  obtain ⟨_,co1,_⟩:=id ok.co
  obtain ⟨ga1,ga2⟩:=ok.g1
  obtain ⟨gb1,gb2⟩:=ok.g2
  have hc1:=s1 _ _ hc
  refine ⟨_,rfl,pc,_,_,_,rfl,rfl,SqT.of hc1,rfl,_,rfl,pc,_,_,_,rfl,rfl,SqT.of hc1,rfl,_,_,rfl,by omega,ok.co.sm.2,λ qc H2 nqc s2 f2=>?_⟩
  have s12:=s1.trans s2
  have hg2:=s12 _ _ hg
  have hb2:=hb.mono s2
  have cof:∀ (H':Hp) (p:Addr) {vc':V},CoIs a.Fraction H' p (.ref qc) vc'->Same H2 H'->∃ z,vc'=.ref z/\FrAt a.Fraction H' z (vC r.co):=λ H' p vc' co ss=>by
   rcases co with ⟨_,e⟩ | ⟨e,_⟩
   ·exact ⟨qc,e,f2.mono ss⟩
   ·cases e
  refine ⟨_,rfl,rfl,_,rfl,ifV (λ h0=>?_) (λ h0=>?_)⟩
  ·refine ⟨_,rfl,_,rfl,_,rfl,_,rfl,_,rfl,?_⟩
   refine mkW (x:=0) T ok.ne hb2 λ q H' vc' q' nq ss W co=>k q H' (s12.free nq) (s12.trans ss) (by unfold W7.d;rw [if_pos h0];exact ⟨q,_,_,q',rfl,W,by nofun,cof _ _ co (ss),hT.mono (s2.trans (ss))⟩)
  refine ⟨_,rfl,rfl,_,rfl,ifV (λ h1=>?_) (λ h1=>?_)⟩
  ·have gl:=ok.k2 h1
   refine ⟨_,rfl,_,rfl,_,rfl,_,rfl,pg,_,_,_,rfl,rfl,SqT.of hg2,rfl,_,rfl,pg,_,_,_,rfl,rfl,SqT.of hg2,rfl,_,_,rfl,rfl,_,rfl,pg,_,_,_,rfl,rfl,SqT.of hg2,rfl,_,_,rfl,by omega,Sm.of_le (n:=10) (by omega) (by decide),λ q3 H3 nq3 s3 f3=>⟨_,rfl,_,rfl,?_⟩⟩
   refine mkL T ok.ne f3 ⟨gK (by omega) (by omega),lt_one (by omega) (by omega),(Bd.divInt (n:=10) (by omega) (by omega)).smr (by decide)⟩ (hb2.mono s3) λ q H' vc' q' nq ss W co=>k q H' (s12.free (s3.free nq)) (s12.trans (s3.trans ss)) (by unfold W7.d;rw [if_neg h0,if_pos h1];exact ⟨q,_,_,q',rfl,W,by nofun,cof _ _ co (s3.trans ss),hT.mono (s2.trans (s3.trans ss))⟩)
  ·refine ⟨_,rfl,_,rfl,_,rfl,_,rfl,pg,_,_,_,rfl,rfl,SqT.of hg2,rfl,_,rfl,pg,_,_,_,rfl,rfl,SqT.of hg2,rfl,_,_,rfl,by omega,Sm.of_le (n:=10) (by omega) (by decide),λ q3 H3 nq3 s3 f3=>⟨_,rfl,_,rfl,?_⟩⟩
   refine mkG T ok.ne f3 (pos_num (by omega) (by omega)) (hb2.mono s3) λ q H' vc' q' nq ss W co=>k q H' (s12.free (s3.free nq)) (s12.trans (s3.trans ss)) (by unfold W7.d;rw [if_neg h0,if_neg h1];exact ⟨q,_,_,q',rfl,W,by nofun,cof _ _ co (s3.trans ss),hT.mono (s2.trans (s3.trans ss))⟩)
structure Told (H:Hp) (t lp lw:Addr) (tp tw:List V) (es:List Ent) (rs:List W7):Prop where
 ht:H t=some (.tup [.ref lp,.ref lw])
 hp:H lp=some (.lst tp)
 hw:H lw=some (.lst tw)
 rp:RowAt EntIs H tp es
 rw:RowAt W7Is H tw rs
theorem Told.mono {H H':Hp} {t lp lw:Addr} {tp tw:List V} {es:List Ent} {rs:List W7} (h:Told H t lp lw tp tw es rs) (s:Same H H'):Told H' t lp lw tp tw es rs:=⟨s _ _ h.ht,s _ _ h.hp,s _ _ h.hw,h.rp.mono λ _ _ z=>z.mono s,h.rw.mono λ _ _ z=>z.mono s⟩
structure TOk (es:List Ent) (rs:List W7):Prop where
 l12:es.length<=12
 l24:rs.length<=24
 nd:(es.map (·.1)).Nodup
 nw:(rs.map (·.nm)).Nodup
 eok:∀ e∈es,N50 e.2
 rok:∀ r∈rs,W7Ok (es.map (·.1)) r
noncomputable def psT (es:List Ent):List (Str × Rat):=es.map λ e=>(e.1,vC e.2)
noncomputable def dsT (rs:List W7):List WD:=rs.map W7.d
theorem psT_n (es:List Ent):(psT es).map (·.1)=es.map (·.1):=by unfold psT;rw [iQ];rfl
theorem dsT_n (rs:List W7):(dsT rs).map (·.nm)=rs.map (·.nm):=by unfold dsT;rw [iQ];exact List.map_congr_left λ r _=>W7.d_nm r
theorem TOk.net {es:List Ent} {rs:List W7} (h:TOk es rs):NetOk (psT es) (dsT rs):=by
 refine ⟨by rw [psT_n];exact h.nd,by unfold psT;rw [hZ];exact h.l12,by rw [dsT_n];exact h.nw,by unfold dsT;rw [hZ];exact h.l24,λ d hd=>?_⟩
 obtain ⟨r,hr,rfl⟩:=iy.mp hd
 rw [psT_n,W7.d_st,W7.d_go]
 exact ⟨(h.rok r hr).st,(h.rok r hr).go⟩
inductive IspBuilt (a:Ad) (vs:List V) (H:Hp) (Q:VK):Prop
 | mk (t lp lw:Addr) (tp tw:List V) (es:List Ent) (rs:List W7) (h1:vs=[.ref t]) (h2:Told H t lp lw tp tw es rs) (h3:TOk es rs) (h4:∀ p H',Same H H'->NetNew a H H' p (psT es) (dsT rs)->Q (.ref p) H'):IspBuilt a vs H Q
noncomputable def spBuilt (a:Ad):Sp:=λ vs H Q _=>IspBuilt a vs H Q
theorem ok_law_built (T:TX K mg a):FnB P w K mg base CX0 "_law_built" 9 ["_law_told"] (spBuilt a):=by
 refine T.d_law_built.ok sc_law_built (λ vs H Q E h=>?_) (λ f cdv A outer s H vs Q E hr h=>?_)
 ·obtain ⟨_,_,_,_,_,_,_,rfl,_⟩:=h
  rfl
 ·obtain ⟨t,lp,lw,tp,tw,es,rs,rfl,td,ok,k⟩:=h
  refine ⟨_,(aX (eK (i:=1) (xs:=["_law_place"]) (rest:=[]) sc_law_built.nd rfl rfl rfl (aU (aD az (pv 0) ae (λ _ _=>rfl)))
   (λ pins fp C' s' H'=>(aq (i:=0) (show (["_law_place"]:List Str).Nodup by decide +kernel) rfl (Or.inl rfl))) (λ pins fp C' s' H'=>cF)
   (λ pins fp C' s' H'=>(aV (aa (aD (r:=rIxT K) az (pv 0) ae (λ _ _=>rfl)) (aa (cn (mk2 T) hr T.mg_Fraction am (aa (aD (r:=rIxT K) az (aD (r:=rIxT K) az (pv 0) ae (λ _ _=>rfl)) ae (λ _ _=>rfl)) (aa (aD (r:=rIxT K) az (aD (r:=rIxT K) az (pv 0) ae (λ _ _=>rfl)) ae (λ _ _=>rfl)) ad))) ad))))
   (Clos.none (by decide +kernel) (by decide +kernel)) (Reads.many (ys:=[]) (js:=[]) True.intro))
   (ah (aw (gE (mk_Net T) hr T.mg_Net am (aa (pv 1) (aa (cV (xs:=["_law_way_here"]) (rest:=[]) rfl (aU (aD az (pv 0) ae (λ _ _=>rfl)))
   (λ pins fp C' s' H'=>(aq (i:=0) (show (["_law_way_here"]:List Str).Nodup by decide +kernel) rfl (Or.inl rfl))) (λ pins fp C' s' H'=>cF)
   (λ pins fp C' s' H'=>(ay (ok_law_way T) hr am (aa (pv 0) ad)))
   (Clos.none (by decide +kernel) (by decide +kernel)) (Reads.many (ys:=[]) (js:=[]) True.intro)) ad)))))),?_⟩
  try dsimp only [aK,Cx.nox,Cx.wish]
  have l12:=ok.l12
  have l24:=ok.l24
  refine ⟨λ σ' H'=>∃ l1 t1,σ'=[some (.ref t),some (.ref l1)]/\Same H H'/\H' l1=some (.lst t1)/\RowAt (PlIs a) H' t1 (psT es),?_,?_⟩
  ·refine ⟨_,rfl,t,_,_,_,rfl,rfl,SqT.of td.ht,rfl,lp,rfl,⟨_,SqL.of td.hp⟩,λ l1 nl1=>?_⟩
   refine bB (K:=K) (a:=lp) (xs:=tp) (λ i H2=>i<=es.length/\Same H H2/\∃ t1,H2 l1=some (.lst t1)/\RowAt (PlIs a) H2 t1 (psT (es.take i))) ⟨im _,aj nl1,[],ac,RowAt.nil⟩ (λ i H2 ⟨_,s2,_⟩=>SqL.of (s2 _ _ td.hp)) ?_ ?_
   ·rintro i x H2 hx ⟨_,s2,t1,h2,hv⟩
    obtain ⟨e,ee,u,vp,rfl,hu,pu,rfl,hpu⟩:=td.rp.get hx
    have hi:i<es.length:=(hV.mp ee).1
    have lt1:t1.length<=12:=by rw [hv.1];unfold psT;rw [hZ,iz];omega
    have ne:=ok.eok e (ig ee)
    have:=ne.b
    have squ:=SqT.of (K:=K) (s2 _ _ hu)
    have sqp:=SqT.of (K:=K) (s2 _ _ hpu)
    refine g1 ⟨⟨[_],rfl,rfl⟩,yes ?_⟩
    refine ⟨_,rfl,u,_,_,_,rfl,rfl,squ,rfl,_,rfl,u,_,_,_,rfl,rfl,squ,rfl,pu,_,_,_,rfl,rfl,sqp,rfl,_,rfl,u,_,_,_,rfl,rfl,squ,rfl,pu,_,_,_,rfl,rfl,sqp,rfl,e.2.1,e.2.2,rfl,by omega,ne.sm.2,λ q H3 nq s3 f3=>?_⟩
    refine ⟨by show 2<=sizeLine;decide,λ t3 nt3=>?_⟩
    have s4:=aj (o:=.tup [.str e.1,.ref q]) nt3
    have ht3:upd H3 t3 (.tup [.str e.1,.ref q]) t3=some (.tup [.str e.1,.ref q]):=ac
    generalize upd H3 t3 (.tup [.str e.1,.ref q])=H4 at s4 ht3 ⊢
    have s24:=s3.trans s4
    have h4:=s24 _ _ h2
    refine ⟨_,h4,ax (by omega),dj (by rw [td.rp.1];exact hi) ⟨hi,aC nl1 (s2.trans s24),_,ac,?_⟩⟩
    unfold psT
    rw [iH,ee,iE,iu]
    exact RowAt.snoc (hv.mono λ v x z=>(z.mono s24).ko (.lst h4)) (PlIs.ko ⟨t3,q,rfl,ht3,f3.mono s4⟩ (.lst h4))
   ·rintro H2 ⟨_,s2,t1,h2,hv⟩
    rw [td.rp.1,iB] at hv
    exact ⟨l1,t1,rfl,s2,h2,hv⟩
  rintro σ' H1 ⟨l1,t1,rfl,s1,h1,hv1⟩
  have td1:=td.mono s1
  refine ⟨_,rfl,_,rfl,t,_,_,_,rfl,rfl,SqT.of td1.ht,rfl,lw,rfl,⟨_,SqL.of td1.hw⟩,λ l2 nl2=>?_⟩
  refine bB (K:=K) (a:=lw) (xs:=tw) (λ i H2=>i<=rs.length/\Same H1 H2/\∃ t2,H2 l2=some (.lst t2)/\RowAt (WayIs a) H2 t2 (dsT (rs.take i))) ⟨im _,aj nl2,[],ac,RowAt.nil⟩ (λ i H2 ⟨_,s2,_⟩=>SqL.of (s2 _ _ td1.hw)) ?_ ?_
  ·rintro i x H2 hx ⟨_,s2,t2,h2,hv⟩
   obtain ⟨r,er,hr7⟩:=td1.rw.get hx
   have hi:i<rs.length:=(hV.mp er).1
   have lt2:t2.length<=24:=by rw [hv.1];unfold dsT;rw [hZ,iz];omega
   refine g1 ⟨⟨[_],rfl,rfl⟩,yes ?_⟩
   refine ⟨_,rfl,x,r,_,rfl,hr7.mono s2,ok.rok r (ig er),λ p H3 np s3 W=>?_⟩
   have h3:=s3 _ _ h2
   refine ⟨_,h3,ax (by omega),dj (by rw [td1.rw.1];exact hi) ⟨hi,aC nl2 (s2.trans s3),_,ac,?_⟩⟩
   unfold dsT
   rw [iH,er,iE,iu]
   exact RowAt.snoc (hv.mono λ v x z=>(z.mono s3).ko (.lst h3)) (W.ko (.lst h3))
  ·rintro H2 ⟨_,s2,t2,h2,hv⟩
   rw [td1.rw.1,iB] at hv
   intro p dx n1 n2 n3
   have ss:=fh (C:=a.Net) n1 n2
   exact ⟨p,dx,l1,l2,t1,t2,_,_,rfl,ac,ss.seq (SqL.of (s2 _ _ h1)),hv1.mono (λ v x z=>(z.mono s2).mono ss),ss.seq (SqL.of h2),hv.mono (λ v x z=>z.mono ss),ok.net,λ H' hs hn=>⟨rfl,k p H' (s1.trans (s2.trans (fj n1 n2 hs))) (let ⟨d1,d2,d3,q1,q2,q3,q4,q5⟩:=hn;⟨d1,d2,d3,q1,q2,q3,(s1.trans (s2.trans ss)).free q4,(s1.trans (s2.trans ss)).free q5⟩)⟩⟩
inductive IspLess (vs:List V) (H:Hp) (Q:VK):Prop
 | mk (p q:Addr) (c d:Int × Int) (h1:vs=[.ref p,.ref q]) (h2:H p=some (.tup [.int c.1,.int c.2])) (h3:H q=some (.tup [.int d.1,.int d.2])) (h4:Sm c.1) (h5:Sm c.2) (h6:Sm d.1) (h7:Sm d.2) (h8:∀ t,H t=none->Q (.ref t) (upd H t (.tup [.int (c.1*d.2-d.1*c.2),.int (c.2*d.2)]))):IspLess vs H Q
noncomputable def spLess:Sp:=λ vs H Q _=>IspLess vs H Q
theorem ok_law_less (T:TX K mg a):FnB P w K mg base CX0 "_law_less" 1 ["_law_one","_law_other"] spLess:=by
 refine T.d_law_less.ok sc_law_less (λ vs H Q E h=>?_) (λ f cdv A outer s H vs Q E hr h=>?_)
 ·obtain ⟨_,_,_,_,rfl,_⟩:=h
  rfl
 ·obtain ⟨p,q,c,d,rfl,hp,hq,c1,c2,d1,d2,k⟩:=h
  refine ⟨_,(ah (aw (aV (aa (ak gc (ak aQ (aD az (pv 0) ae (λ _ _=>rfl)) (aD az (pv 1) ae (λ _ _=>rfl))) (ak aQ (aD az (pv 1) ae (λ _ _=>rfl)) (aD az (pv 0) ae (λ _ _=>rfl)))) (aa (ak aQ (aD az (pv 0) ae (λ _ _=>rfl)) (aD az (pv 1) ae (λ _ _=>rfl))) ad))))),?_⟩
  try dsimp only [aK,Cx.nox,Cx.wish]
  have sp:=SqT.of (K:=K) hp
  have sq:=SqT.of (K:=K) hq
  exact ⟨_,rfl,p,_,_,_,rfl,rfl,sp,rfl,_,rfl,q,_,_,_,rfl,rfl,sq,rfl,_,_,rfl,rfl,⟨c1,d2⟩,_,rfl,q,_,_,_,rfl,rfl,sq,rfl,_,rfl,p,_,_,_,rfl,rfl,sp,rfl,_,_,rfl,rfl,⟨d1,c2⟩,_,_,rfl,rfl,_,rfl,p,_,_,_,rfl,rfl,sp,rfl,_,rfl,q,_,_,_,rfl,rfl,sq,rfl,_,_,rfl,rfl,⟨c2,d2⟩,by show 2<=sizeLine;decide,k⟩
theorem vC_cross {c:Int × Int} (h:c.2≠0):(vC c).num*c.2-c.1*((vC c).den:Int)=0:=by
 have h1:=Rat.num_divInt_den (vC c)
 have h2:Rat.divInt (vC c).num (vC c).den=Rat.divInt c.1 c.2:=h1
 have h3:((vC c).den:Int)≠0:=by have:=e7 (vC c);omega
 have:=(Rat.divInt_eq_divInt_iff h3 h).mp h2
 omega
inductive IspPair50 (C:Addr) (vs:List V) (H:Hp) (Q:VK):Prop
 | mk (p:Addr) (x:Rat) (h1:vs=[.ref p]) (h2:FrAt C H p x) (h3:∀ t H',Same H H'->H' t=some (.tup [.int x.num,.int x.den])->Q (.ref t) H'):IspPair50 C vs H Q
noncomputable def spPair50 (C:Addr):Sp:=λ vs H Q _=>IspPair50 C vs H Q
theorem ok_law_pair (T:TX K mg a):FnB P w K mg base CX0 "_law_pair" 2 ["_law_number_here"] (spPair50 a.Fraction):=by
 refine T.d_law_pair.ok sc_law_pair (λ vs H Q E h=>?_) (λ f cdv A outer s H vs Q E hr h=>?_)
 ·obtain ⟨p,x,rfl,_⟩:=h
  rfl
 ·obtain ⟨p,x,rfl,hp,k⟩:=h
  refine ⟨_,(ag (aS (e9 (d7 (aH (d6 (c:=.ref a.Fraction)) (by rfl) T.z_isinstance i6 (aa (pv 0) (aa (pe_glob (v:=.ref a.Fraction) (by rfl) T.mg_Fraction rfl) ad))))) (ah (aw dr)) aE)
   (ag (aR ix rfl (pi_tup (aV (aa (dn T.fr (pv 0)) (aa (cK T.fr (pv 0)) ad)))) (aq (i:=1) sc_law_pair.nd rfl (Or.inl rfl)) (ah (aS (PW.pt (pw_or (e9 (d7 (aH (d6 (c:=.type "int")) (by rfl) T.z_isinstance i6 (aa (pv 1) (aa (gu (v:=.ty "int") (by rfl) T.z_int PyProof.Rows.boot_int rfl) ad))))) (gG (d7 (aH (d6 (c:=.type "bool")) (by rfl) T.z_isinstance i6 (aa (pv 1) (aa (gu (v:=.ty "bool") (by rfl) T.z_bool PyProof.Rows.boot_bool rfl) ad))))))) (ah (aw dr)) aE)))
   (ag (aS (aG gX (cK T.fr (pv 0)) ae (aM _)) (ah (aw dr)) aE)
   (ah (aw (aV (aa (dn T.fr (pv 0)) (aa (cK T.fr (pv 0)) ad)))))))),?_⟩
  try dsimp only [aK,Cx.nox,Cx.wish]
  refine ⟨_,rfl,_,_,_,_,rfl,(λ u h=>h),hp.ty T.fr,T.k_Fraction_Fraction,_,rfl,iteF ?_⟩
  refine ⟨_,rfl,p,x,rfl,hp,_,rfl,p,x,rfl,hp,by show 2<=sizeLine;decide,λ t nt=>?_⟩
  have s1:=aj (o:=.tup [.int x.num,.int x.den]) nt
  have ht:upd H t (.tup [.int x.num,.int x.den]) t=some (.tup [.int x.num,.int x.den]):=ac
  generalize upd H t (.tup [.int x.num,.int x.den])=H1 at s1 ht ⊢
  have hp1:=hp.mono s1
  refine ⟨t,rfl,⟨_,SqT.of ht⟩,for_tup (K:=K) (a:=t) (xs:=[.int x.num,.int x.den]) (λ i σ H2=>∃ z,σ=[some (.ref p),z]/\H2=H1) ⟨_,rfl,rfl⟩ (λ i σ H2 _ ⟨_,_,e⟩=>by rw [e];exact SqT.of ht) ?_ ?_⟩
  ·rintro i y σ H2 hy ⟨z,rfl,rfl⟩
   have hy:∃ u,y=.int u:=by
    match i,hy with
    | 0,hy=>exact ⟨x.num,(iG hy).symm⟩
    | 1,hy=>exact ⟨(x.den:Int),(iG hy).symm⟩
    | i+2,hy=>simp at hy
   obtain ⟨u,rfl⟩:=hy
   refine ⟨_,rfl,_,_,_,_,rfl,(λ u h=>h),TyOf.int u,T.k_int_int,_,rfl,iteF ?_⟩
   exact ⟨_,rfl,_,_,_,_,rfl,(λ u h=>h),TyOf.int u,T.k_int_bool,_,rfl,iteF ⟨_,rfl,rfl⟩⟩
  ·rintro σ H2 ⟨z,rfl,rfl⟩
   have xp:=e7 x
   refine ⟨_,rfl,p,x,rfl,hp1,_,_,rfl,rfl,_,rfl,fM (iF (show ¬ (x.den:Int)<1 by omega)) ?_⟩
   refine ⟨_,rfl,p,x,rfl,hp1,_,rfl,p,x,rfl,hp1,by show 2<=sizeLine;decide,λ t2 nt2=>?_⟩
   exact k t2 _ (s1.trans (aj nt2)) ac
structure S5 where
 nm:Str
 pl:Str
 gain:Int × Int
 hi:Option (Int × Int)
 co:Int × Int
noncomputable def S5Is (H:Hp) (v:V) (r:S5):Prop:=∃ p vg vh vc,v=.ref p/\H p=some (.tup [.str r.nm,.str r.pl,vg,vh,vc])/\DueIs H vg r.gain/\OptIs H vh r.hi/\DueIs H vc r.co
theorem S5Is.mono {H H':Hp} {v:V} {r:S5} (h:S5Is H v r) (s:Same H H'):S5Is H' v r:=by
 obtain ⟨p,vg,vh,vc,e,f,h1,h3,h4⟩:=h
 exact ⟨p,vg,vh,vc,e,s _ _ f,h1.mono s,h3.mono s,h4.mono s⟩
theorem S5Is.ko {H H':Hp} {v:V} {r:S5} (h:S5Is H v r) (s:KeepO H H'):S5Is H' v r:=by
 obtain ⟨p,vg,vh,vc,e,f,h1,h3,h4⟩:=h
 exact ⟨p,vg,vh,vc,e,s.tup _ _ f,h1.ko s,h3.ko s,h4.ko s⟩
structure S5Ok (sp:List Str) (r:S5):Prop where
 pl:r.pl∈sp
 g1:1<=r.gain.1/\r.gain.1<=r.gain.2
 g2:r.gain.2<=9
 hi:∀ c,r.hi=some c->0<=c.1/\N50 c
 co:N50 r.co
noncomputable def d9 (c:Int) (n:Nat):List Str:=(List.range n).map λ i:Nat=>bC (20+(i:Int)) c
theorem namesS_succ (c:Int) (n:Nat):d9 c (n+1)=d9 c n++[bC (20+(n:Int)) c]:=by unfold d9;rw [List.range_succ,iu];rfl
inductive IspStores (K:W.Frag) (vs:List V) (H:Hp) (Q:VK):Prop
 | mk (l lp:Addr) (ns:List Int) (at_ c:Nat) (tp:List V) (es:List Ent) (h1:vs=[.ref l,.int at_,.ref lp,.int c]) (h2:SqL K H l (ns.map V.int)) (h3:at_<=100) (h4:c<=4) (h5:SqL K H lp tp) (h6:RowAt EntIs H tp es) (h7:1<=es.length) (h8:es.length<=12) (h9:∀ ls H' ts (ss:List S5),H ls=none->Same H H'->H' ls=some (.lst ts)->RowAt S5Is H' ts ss->ss.length=c->ss.map (·.nm)=d9 (aP ns 2) c->(∀ r∈ss,S5Ok (es.map (·.1)) r)->Q (.ref ls) H'):IspStores K vs H Q
noncomputable def spStores (K:W.Frag):Sp:=λ vs H Q _=>IspStores K vs H Q
theorem ok_law_stores (T:TX K mg a):FnB P w K mg base CX0 "_law_stores" 3 ["_law_script","_law_at","_law_places","_law_count"] (spStores K):=by
 refine T.d_law_stores.ok sc_law_stores (λ vs H Q E h=>?_) (λ f cdv A outer s H vs Q E hr h=>?_)
 ·obtain ⟨_,_,_,_,_,_,_,rfl,_⟩:=h
  rfl
 ·obtain ⟨l,lp,ns,at_,c,tp,es,rfl,hS,a100,c4,hP,hes,l1,l12,k⟩:=h
  refine ⟨_,(ag (au (i:=4) sc_law_stores.nd rfl (Or.inl rfl) (dR ad))
   (ag (aR ix rfl (fu rfl T.z_range (aa (pv 3) ad)) (aq (i:=5) sc_law_stores.nd rfl (Or.inl rfl)) (ag (au (i:=6) sc_law_stores.nd rfl (Or.inl rfl) (aD az (aD fL (pv 2) (ak aL (ay (aA T) hr am (aa (pv 0) (aa (ak aJ (pv 1) (ak aQ ae (pv 5))) ad))) (aH a8 (by rfl) T.z_len iU (aa (pv 2) ad))) (λ _ _=>rfl)) ae (λ _ _=>rfl)))
   (ag (au (i:=7) sc_law_stores.nd rfl (Or.inl rfl) (ak bh (ay (aA T) hr am (aa (pv 0) (aa (ak aJ (pv 1) (ak aQ ae (pv 5))) ad))) (aH a8 (by rfl) T.z_len iU (aa (pv 2) ad))))
   (ag (au (i:=8) sc_law_stores.nd rfl (Or.inl rfl) (aV (aa (ak aJ ae (ak aL (pv 7) ae)) (aa (ak aJ (ak aJ ae (ak aL (pv 7) ae)) (ak aL (ak aY (pv 7) ae) ae)) ad))))
   (ag (au (i:=9) sc_law_stores.nd rfl (Or.inl rfl) (ay (ok_law_high T) hr am (aa (ay (aA T) hr am (aa (pv 0) (aa (ak aJ (ak aJ (pv 1) (ak aQ ae (pv 5))) ae) ad))) ad)))
   (ag (au (i:=10) sc_law_stores.nd rfl (Or.inl rfl) (ay (cW T) hr am (aa (ay (aA T) hr am (aa (pv 0) (aa (ak aJ (ak aJ (pv 1) (ak aQ ae (pv 5))) ae) ad))) ad)))
   (ah (aT (eV iO i8 i9 cD (pv 4) (aa (aV (aa (ay (eW T) hr am (aa (ak aJ ae (pv 5)) (aa (ay (aA T) hr am (aa (pv 0) (aa ae ad))) ad))) (aa (pv 6) (aa (pv 8) (aa (pv 9) (aa (pv 10) ad)))))) ad))))))))))
   (ah (aw (pv 4))))),?_⟩
  try dsimp only [aK,Cx.nox,Cx.wish]
  have ltp:tp.length=es.length:=hes.1
  refine ⟨by decide,λ ls nls=>?_⟩
  have s1:=aj (o:=.lst []) nls
  have h1:upd H ls (.lst []) ls=some (.lst []):=ac
  generalize upd H ls (.lst [])=H1 at s1 h1 ⊢
  refine ⟨_,rfl,(c:Int),rfl,by omega,by omega,eI (n:=c) (λ i σ H2=>i<=c/\∃ z5 z6 z7 z8 z9 z10 ts ss,σ=[some (.ref l),some (.int at_),some (.ref lp),some (.int c),some (.ref ls),z5,z6,z7,z8,z9,z10]/\Same H H2/\H2 ls=some (.lst ts)/\RowAt S5Is H2 ts ss/\ss.length=i/\ss.map (·.nm)=d9 (aP ns 2) i/\∀ r∈ss,S5Ok (es.map (·.1)) r) ⟨im _,_,_,_,_,_,_,[],[],rfl,s1,h1,RowAt.nil,rfl,rfl,λ e he=>absurd he ib⟩ ?_ ?_⟩
  ·rintro i σ H2 hi ⟨_,z5,z6,z7,z8,z9,z10,ts,ss,rfl,s2,h2,hv,lss,sn,sok⟩
   have hi':i<c:=by omega
   have lts:ts.length<=4:=by rw [hv.1];omega
   have np:(0:Int)<(tp.length:Int):=by omega
   have hS2:=s2.seq hS
   have hP2:=s2.seq hP
   have mul:∀ u:Int,u=0+(i:Int)->CMulB 3 u:=λ u e=>⟨Sm.of_le (n:=20) (by decide) (by decide),Sm.of_le (n:=20) (by omega) (by decide)⟩
   have cell:∀ (j:Nat) (u:Int),u=(at_:Int)+3*(0+(i:Int))+j->[V.ref l,V.int u]=[V.ref l,V.int ((at_+3*i+j:Nat):Int)]:=λ j u e=>by rw [show u=((at_+3*i+j:Nat):Int) by omega]
   obtain ⟨a0,a1⟩:=aN (aP ns (at_+3*i+0)) np
   obtain ⟨j,hj⟩:=iT a0
   obtain ⟨x,ex⟩:∃ x,es[j]?=some x:=⟨_,ii (by omega)⟩
   obtain ⟨tx,etx,t1,v1,rfl,ht1,_⟩:=hes.get' ex
   refine ⟨_,rfl,_,rfl,_,rfl,_,rfl,_,_,rfl,rfl,mul _ rfl,_,_,rfl,rfl,l,ns,at_+3*i+0,cell 0 _ (by omega),hS2,by omega,?_⟩
   refine ⟨_,rfl,lp,_,rfl,.inl hP2,_,_,rfl,rfl,np,lp,_,_,_,rfl,rfl,hP2,by rw [hj];exact atI_nat etx,t1,_,_,_,rfl,rfl,SqT.of (s2 _ _ ht1),rfl,?_⟩
   refine ⟨_,rfl,_,rfl,_,rfl,_,_,rfl,rfl,mul _ rfl,_,_,rfl,rfl,l,ns,at_+3*i+0,cell 0 _ (by omega),hS2,by omega,_,rfl,lp,_,rfl,.inl hP2,_,_,rfl,rfl,⟨by omega,Sm.of_le (n:=20) (by omega) (by decide)⟩,?_⟩
   obtain ⟨lo,hlo⟩:∃ lo,(aP ns (at_+3*i+0)).fdiv (tp.length:Int)=lo:=⟨_,rfl⟩
   obtain ⟨b0,b1⟩:=aN lo (show (0:Int)<5 by decide)
   obtain ⟨d0,d1⟩:=aN (lo / 5) (show (0:Int)<5 by decide)
   refine ⟨_,rfl,_,_,rfl,rfl,by show (0:Int)<5;decide,_,_,rfl,rfl,_,rfl,_,_,rfl,rfl,by show (0:Int)<5;decide,_,_,rfl,rfl,_,rfl,_,_,rfl,rfl,⟨by decide,by decide⟩,_,_,rfl,rfl,by show (0:Int)<5;decide,_,_,rfl,rfl,by show 2<=sizeLine;decide,λ pg npg=>?_⟩
   have s3:=aj (o:=.tup [.int (1+(aP ns (at_+3*i+0)).fdiv (tp.length:Int) % 5),.int (1+(aP ns (at_+3*i+0)).fdiv (tp.length:Int) % 5+(aP ns (at_+3*i+0)).fdiv (tp.length:Int) / 5 % 5)]) npg
   have hg:upd H2 pg (.tup [.int (1+(aP ns (at_+3*i+0)).fdiv (tp.length:Int) % 5),.int (1+(aP ns (at_+3*i+0)).fdiv (tp.length:Int) % 5+(aP ns (at_+3*i+0)).fdiv (tp.length:Int) / 5 % 5)]) pg=some (.tup [.int (1+(aP ns (at_+3*i+0)).fdiv (tp.length:Int) % 5),.int (1+(aP ns (at_+3*i+0)).fdiv (tp.length:Int) % 5+(aP ns (at_+3*i+0)).fdiv (tp.length:Int) / 5 % 5)]):=ac
   generalize upd H2 pg (.tup [.int (1+(aP ns (at_+3*i+0)).fdiv (tp.length:Int) % 5),.int (1+(aP ns (at_+3*i+0)).fdiv (tp.length:Int) % 5+(aP ns (at_+3*i+0)).fdiv (tp.length:Int) / 5 % 5)])=H3 at s3 hg ⊢
   rw [hlo] at hg
   refine ⟨_,rfl,_,rfl,_,rfl,_,_,rfl,rfl,mul _ rfl,_,_,rfl,rfl,_,_,rfl,rfl,l,ns,at_+3*i+1,cell 1 _ rfl,s3.seq hS2,by omega,_,rfl,λ vh o H4 s4 hh hb=>?_⟩
   have hg4:=s4 _ _ hg
   refine ⟨_,rfl,_,rfl,_,rfl,_,_,rfl,rfl,mul _ rfl,_,_,rfl,rfl,_,_,rfl,rfl,l,ns,at_+3*i+2,cell 2 _ rfl,s4.seq (s3.seq hS2),by omega,_,rfl,λ z pz npz nz=>?_⟩
   have s5:=aj (o:=.tup [.int z.1,.int z.2]) npz
   have hz:upd H4 pz (.tup [.int z.1,.int z.2]) pz=some (.tup [.int z.1,.int z.2]):=ac
   generalize upd H4 pz (.tup [.int z.1,.int z.2])=H5 at s5 hz ⊢
   have s25:=s3.trans (s4.trans s5)
   have h5:=s25 _ _ h2
   refine ⟨_,rfl,.inl ⟨rfl,_,SqL.of h5⟩,?_⟩
   refine ⟨_,rfl,_,_,rfl,rfl,_,rfl,l,ns,2,rfl,s25.seq hS2,by decide,_,_,rfl,by omega,by omega,?_⟩
   refine ⟨_,rfl,_,rfl,_,rfl,_,rfl,by show 5<=sizeLine;decide,λ t nt=>?_⟩
   have e0:(20+(0+(i:Int)))=20+(i:Int):=by omega
   have s6:=aj (o:=.tup [.str (bC (20+(0+(i:Int))) (aP ns 2)),.str x.1,.ref pg,vh,.ref pz]) nt
   have ht:upd H5 t (.tup [.str (bC (20+(0+(i:Int))) (aP ns 2)),.str x.1,.ref pg,vh,.ref pz]) t=some (.tup [.str (bC (20+(0+(i:Int))) (aP ns 2)),.str x.1,.ref pg,vh,.ref pz]):=ac
   generalize upd H5 t (.tup [.str (bC (20+(0+(i:Int))) (aP ns 2)),.str x.1,.ref pg,vh,.ref pz])=H6 at s6 ht ⊢
   rw [e0] at ht
   have s26:=s25.trans s6
   have h6:=s26 _ _ h2
   refine ⟨ls,_,_,rfl,rfl,h6,ax (by omega),?_⟩
   refine ⟨hi',_,_,_,_,_,_,_,ss++[⟨bC (20+(i:Int)) (aP ns 2),x.1,(1+lo % 5,1+lo % 5+lo / 5 % 5),o,z⟩],rfl,aC nls (s2.trans s26),ac,RowAt.snoc (hv.mono λ v x y=>(y.mono s26).ko (.lst h6)) (S5Is.ko ⟨t,.ref pg,vh,.ref pz,rfl,ht,⟨pg,rfl,s6 _ _ (s5 _ _ hg4)⟩,(hh.mono s5).mono s6,⟨pz,rfl,s6 _ _ hz⟩⟩ (.lst h6)),by rw [ir,lss];rfl,by rw [iu,sn,namesS_succ];rfl,λ r hr=>?_⟩
   rcases iS.mp hr with y | y
   ·exact sok r y
   ·rw [i5.mp y]
    exact ⟨iy.mpr ⟨x,ig ex,rfl⟩,⟨by show 1<=1+lo % 5;omega,by show 1+lo % 5<=1+lo % 5+lo / 5 % 5;omega⟩,by show 1+lo % 5+lo / 5 % 5<=9;omega,hb,nz⟩
  ·rintro σ H2 ⟨_,z5,z6,z7,z8,z9,z10,ts,ss,rfl,s2,h2,hv,lss,sn,sok⟩
   exact ⟨_,rfl,k ls H2 ts ss nls s2 h2 hv lss sn sok⟩
theorem mk_Store (T:TX K mg a):MkB P w K mg base CX0 a.Store 6 ["self","name","place","loss","high","cost"] [] (spStoreN a):=mk_StoreN T _ (by simp)
noncomputable def S5.d (r:S5):WD:=⟨r.nm,r.pl,r.pl,.sto,Rat.divInt (r.gain.2-r.gain.1) r.gain.2,r.hi.map vC,vC r.co⟩
inductive IspStore50 (a:Ad) (vs:List V) (H:Hp) (Q:VK):Prop
 | mk (v:V) (r:S5) (sp:List Str) (h1:vs=[v]) (h2:S5Is H v r) (h3:S5Ok sp r) (h4:∀ p H',H p=none->Same H H'->WayE a H' (.ref p) r.d->Q (.ref p) H'):IspStore50 a vs H Q
noncomputable def spStore50 (a:Ad):Sp:=λ vs H Q _=>IspStore50 a vs H Q
theorem ok_law_store (T:TX K mg a):FnB P w K mg base CX0 "_law_store" 8 ["_law_store_here"] (spStore50 a):=by
 refine T.d_law_store.ok sc_law_store (λ vs H Q E h=>?_) (λ f cdv A outer s H vs Q E hr h=>?_)
 ·obtain ⟨_,_,_,rfl,_⟩:=h
  rfl
 ·obtain ⟨v,r,sp,rfl,⟨p,vg,vh,vc,rfl,hp,⟨pg,rfl,hg⟩,hhi,⟨pc,rfl,hc⟩⟩,ok,k⟩:=h
  refine ⟨_,(ag (ps_asg (pv 0) (dm rfl (aF (aq (i:=1) sc_law_store.nd rfl (Or.inl rfl)) (aF (aq (i:=2) sc_law_store.nd rfl (Or.inl rfl)) (aF (aq (i:=3) sc_law_store.nd rfl (Or.inl rfl)) (aF (aq (i:=4) sc_law_store.nd rfl (Or.inl rfl)) (aF (aq (i:=5) sc_law_store.nd rfl (Or.inl rfl)) cG)))))))
   (ag (au (i:=6) sc_law_store.nd rfl (Or.inl rfl) dr)
   (aX (aS (aG op_notN (pv 4) dr (aM _)) (ah (au (i:=6) sc_law_store.nd rfl (Or.inl rfl) (cn (mk2 T) hr T.mg_Fraction am (aa (aD az (pv 4) ae (λ _ _=>rfl)) (aa (aD az (pv 4) ae (λ _ _=>rfl)) ad))))) aE)
   (ah (aw (gE (mk_Store T) hr T.mg_Store am (aa (pv 1) (aa (pv 2) (aa (cn (mk2 T) hr T.mg_Fraction am (aa (ak gc (aD az (pv 3) ae (λ _ _=>rfl)) (aD az (pv 3) ae (λ _ _=>rfl))) (aa (aD az (pv 3) ae (λ _ _=>rfl)) ad))) (aa (pv 6) (aa (cn (mk2 T) hr T.mg_Fraction am (aa (aD az (pv 5) ae (λ _ _=>rfl)) (aa (aD az (pv 5) ae (λ _ _=>rfl)) ad))) ad))))))))))),?_⟩
  try dsimp only [aK,Cx.nox,Cx.wish]
  refine ⟨_,rfl,p,_,rfl,SqT.of hp,rfl,_,_,rfl,_,_,rfl,_,_,rfl,_,_,rfl,_,_,rfl,rfl,?_⟩
  refine ⟨λ σ' H'=>∃ vb:V,σ'=[some (.ref p),some (.str r.nm),some (.str r.pl),some (.ref pg),some vh,some (.ref pc),some vb]/\Same H H'/\HiOk a.Fraction H' vb/\HiT a H' vb (r.hi.map vC),?_,?_⟩
  ·cases ho:r.hi with
   | none=>
    rw [ho] at hhi
    obtain rfl:vh=.non:=hhi
    refine ⟨_,rfl,rfl,_,rfl,iteF ?_⟩
    exact ⟨V.non,rfl,Same.refl _,.inl rfl,rfl⟩
   | some c=>
    rw [ho] at hhi
    obtain ⟨ph,rfl,hph⟩:=hhi
    obtain ⟨h0,h1⟩:=ok.hi c ho
    have:=h1.b
    refine ⟨_,rfl,rfl,_,rfl,iteT ?_⟩
    refine ⟨_,rfl,ph,_,_,_,rfl,rfl,SqT.of hph,rfl,_,rfl,ph,_,_,_,rfl,rfl,SqT.of hph,rfl,_,_,rfl,by omega,h1.sm.2,λ q H1 nq s1 f1=>?_⟩
    exact ⟨.ref q,rfl,s1,.inr ⟨q,_,rfl,f1,gK (by omega) h0⟩,⟨q,rfl,f1⟩⟩
  rintro σ' H1 ⟨vb,rfl,s1,hb,hT⟩
  obtain ⟨_,co1,_⟩:=id ok.co
  obtain ⟨ga1,ga2⟩:=ok.g1
  have gb2:=ok.g2
  have hg1:=s1 _ _ hg
  refine ⟨_,rfl,_,rfl,_,rfl,pg,_,_,_,rfl,rfl,SqT.of hg1,rfl,_,rfl,pg,_,_,_,rfl,rfl,SqT.of hg1,rfl,_,_,rfl,rfl,_,rfl,pg,_,_,_,rfl,rfl,SqT.of hg1,rfl,_,_,rfl,by omega,Sm.of_le (n:=10) (by omega) (by decide),λ q3 H3 nq3 s3 f3=>?_⟩
  have hc3:=s3 _ _ (s1 _ _ hc)
  refine ⟨_,rfl,_,rfl,pc,_,_,_,rfl,rfl,SqT.of hc3,rfl,_,rfl,pc,_,_,_,rfl,rfl,SqT.of hc3,rfl,_,_,rfl,by omega,ok.co.sm.2,λ qc H4 nqc s4 f4=>?_⟩
  have s34:=s3.trans s4
  refine mkS T (f3.mono s4) ⟨gK (by omega) (by omega),lt_one (by omega) (by omega),(Bd.divInt (n:=10) (by omega) (by omega)).smr (by decide)⟩ (hb.mono s34) λ q H' vc' q' nq ss W co=>k q H' (s1.free (s34.free nq)) (s1.trans (s34.trans ss)) ⟨q,_,_,q',rfl,W,hG co f4 ss,hT.mono (s34.trans ss)⟩
noncomputable abbrev bj:=List Str × (Str->Int × Int)
noncomputable def DcpIs (H:Hp) (v:V) (r:bj):Prop:=∃ d kvs,v=.ref d/\H d=some (.dK kvs)/\Tab DueIs H kvs r.1 r.2/\r.1.Nodup
theorem DcpIs.mono {H H':Hp} {v:V} {r:bj} (h:DcpIs H v r) (s:Same H H'):DcpIs H' v r:=by
 obtain ⟨d,kvs,e,f,t,n⟩:=h
 exact ⟨d,kvs,e,s _ _ f,t.mono λ _ _ z=>DueIs.mono z s,n⟩
structure PRowOk (sp:List Str) (r:bj):Prop where
 sub:∀ n∈r.1,n∈sp
 ok:∀ n∈r.1,N50 (r.2 n)
 len:r.1.length<=12
inductive IspWants63 (K:W.Frag) (vs:List V) (H:Hp) (Q:VK):Prop
 | mk (l lp:Addr) (ns:List Int) (at_ n:Nat) (tp:List V) (es:List Ent) (h1:vs=[.ref l,.int at_,.ref lp,.int n]) (h2:SqL K H l (ns.map V.int)) (h3:at_<=100) (h4:n<=12) (h5:SqL K H lp tp) (h6:RowAt EntIs H tp es) (h7:es.length<=12) (h8:(es.map (·.1)).Nodup) (h9:∀ lw H' tw (ws:List bj),H lw=none->Same H H'->H' lw=some (.lst tw)->RowAt DcpIs H' tw ws->ws.length=n->(∀ r∈ws,PRowOk (es.map (·.1)) r)->Q (.ref lw) H'):IspWants63 K vs H Q
noncomputable def spWants63 (K:W.Frag):Sp:=λ vs H Q _=>IspWants63 K vs H Q
theorem ok_law_wants (T:TX K mg a):FnB P w K mg base CX0 "_law_wants" 2 ["_law_script","_law_at","_law_places","_law_turns"] (spWants63 K):=by
 refine T.d_law_wants.ok sc_law_wants (λ vs H Q E h=>?_) (λ f cdv A outer s H vs Q E hr h=>?_)
 ·obtain ⟨_,_,_,_,_,_,_,rfl,_⟩:=h
  rfl
 ·obtain ⟨l,lp,ns,at_,n,tp,es,rfl,hS,a100,n12,hP,hes,l12,nd,k⟩:=h
  refine ⟨_,(ag (au (i:=4) sc_law_wants.nd rfl (Or.inl rfl) (dR ad))
   (ag (aR ix rfl (fu rfl T.z_range (aa (pv 3) ad)) (aq (i:=5) sc_law_wants.nd rfl (Or.inl rfl)) (ag (au (i:=6) sc_law_wants.nd rfl (Or.inl rfl) bL)
   (ag (aR ix rfl (pi_enum (by rfl) T.z_enumerate (aa (pv 2) ad)) (dm rfl (aF (aq (i:=7) sc_law_wants.nd rfl (Or.inl rfl)) (aF (aq (i:=8) sc_law_wants.nd rfl (Or.inl rfl)) cG))) (ag (au (i:=9) sc_law_wants.nd rfl (Or.inl rfl) (ay (aA T) hr am (aa (pv 0) (aa (ak aJ (ak aJ (pv 1) (ak aQ (pv 5) (aH a8 (by rfl) T.z_len iU (aa (pv 2) ad)))) (pv 7)) ad))))
   (ah (aS (aG op_gt (ak aL (pv 9) ae) ae (aM _)) (ah (bw (aZ hr) (pv 6) (aD az (pv 8) ae (λ _ _=>rfl)) (ay (cW T) hr am (aa (ak aY (pv 9) ae) ad)) rfl)) aE))))
   (ah (aT (eV iO i8 i9 cD (pv 4) (aa (pv 6) ad)))))))
   (ah (aw (pv 4))))),?_⟩
  try dsimp only [aK,Cx.nox,Cx.wish]
  have ltp:tp.length=es.length:=hes.1
  refine ⟨by decide,λ lw nlw=>?_⟩
  have s1:=aj (o:=.lst []) nlw
  have h1:upd H lw (.lst []) lw=some (.lst []):=ac
  generalize upd H lw (.lst [])=H1 at s1 h1 ⊢
  refine ⟨_,rfl,(n:Int),rfl,by omega,by omega,eI (n:=n) (λ i σ H2=>i<=n/\∃ z5 z6 z7 z8 z9 tw ws,σ=[some (.ref l),some (.int at_),some (.ref lp),some (.int n),some (.ref lw),z5,z6,z7,z8,z9]/\Same H H2/\H2 lw=some (.lst tw)/\RowAt DcpIs H2 tw ws/\ws.length=i/\∀ r∈ws,PRowOk (es.map (·.1)) r) ⟨im _,_,_,_,_,_,[],[],rfl,s1,h1,RowAt.nil,rfl,λ e he=>absurd he ib⟩ ?_ ?_⟩
  ·rintro i σ H2 hi ⟨_,z5,z6,z7,z8,z9,tw,ws,rfl,s2,h2,hv,lws,wok⟩
   have hi':i<n:=by omega
   have ltw:tw.length<=12:=by rw [hv.1];omega
   intro d nd0
   have s3:=aj (o:=.dK []) nd0
   have hd0:upd H2 d (.dK []) d=some (.dK []):=ac
   generalize upd H2 d (.dK [])=H3 at s3 hd0 ⊢
   have hP2:=s2.seq hP
   have hS2:=s2.seq hS
   have mlen:i*es.length<=12*12:=i4 (by omega) l12
   refine ⟨_,rfl,lp,tp,rfl,s3.seq hP2,for_enum (K:=K) (a:=lp) (xs:=tp) (λ j σ H4=>j<=es.length/\∃ z7 z8 z9 kvs ks g,σ=[some (.ref l),some (.int at_),some (.ref lp),some (.int n),some (.ref lw),some (.int (0+(i:Int))),some (.ref d),z7,z8,z9]/\Same H2 H4/\H4 d=some (.dK kvs)/\Tab DueIs H4 kvs ks g/\ks.Nodup/\(∀ m∈ks,m∈(es.map (·.1)).take j/\N50 (g m))/\ks.length<=j) ⟨im _,_,_,_,[],[],λ _=>(0,1),rfl,s3,hd0,Tab.nil,List.nodup_nil,λ m hm=>absurd hm ib,im _⟩ (λ j σ H4 ⟨_,_,_,_,_,_,_,_,s4,_⟩=>s4.seq hP2) ?_ ?_⟩
   ·rintro j x tt σ H4 hx ntt ⟨_,z7,z8,z9,kvs,ks,g,rfl,s4,hd4,tb,nk,kin,lks⟩
    obtain ⟨e,ee,he0⟩:=hes.get hx
    have hj:j<es.length:=(hV.mp ee).1
    obtain ⟨te,ve,rfl,hte,_⟩:=id he0
    have s5':=aj (o:=.tup [.int (j:Int),.ref te]) ntt
    have htt:upd H4 tt (.tup [.int (j:Int),.ref te]) tt=some (.tup [.int (j:Int),.ref te]):=ac
    have hd5:=s5' _ _ hd4
    have tb5:=tb.mono λ v x z=>DueIs.mono z s5'
    generalize upd H4 tt (.tup [.int (j:Int),.ref te])=H5 at s5' htt hd5 tb5 ⊢
    have s5:=s4.trans s5'
    have en:(es.map (·.1))[j]?=some e.1:=by rw [iq,ee];rfl
    obtain ⟨tk,nkk⟩:=bE nd en
    have nin:¬ e.1∈ks:=λ z=>nkk (kin _ z).1
    refine ⟨tt,_,rfl,SqT.of htt,rfl,_,_,rfl,_,_,rfl,rfl,?_⟩
    refine ⟨_,rfl,_,rfl,_,rfl,_,rfl,lp,_,rfl,.inl (s5.seq hP2),_,_,rfl,rfl,?m1,_,_,rfl,rfl,_,rfl,_,_,rfl,rfl,l,ns,at_+i*tp.length+j,?c1,s5.seq hS2,?c2,?_⟩
    case m1=>exact ⟨Sm.of_le (n:=20) (by omega) (by decide),Sm.of_le (n:=20) (by omega) (by decide)⟩
    case c1=>
     show [V.ref l,V.int ((at_:Int)+(0+(i:Int))*(tp.length:Int)+(j:Int))]=_
     rw [show (at_:Int)+(0+(i:Int))*(tp.length:Int)+(j:Int)=((at_+i*tp.length+j:Nat):Int) by rw [Int.zero_add];push_cast;rfl]
    case c2=>rw [ltp];omega
    refine ⟨_,rfl,_,_,rfl,rfl,by show (0:Int)<3;decide,_,_,rfl,rfl,_,rfl,?_⟩
    generalize aP ns (at_+i*tp.length+j)=cg
    refine ifB (λ h3=>?_) (λ h3=>?_)
    ·refine ⟨_,rfl,_,_,rfl,rfl,⟨by decide,by decide⟩,_,rfl,λ z pz npz nz=>?_⟩
     have s6:=aj (o:=.tup [.int z.1,.int z.2]) npz
     have hz:upd H5 pz (.tup [.int z.1,.int z.2]) pz=some (.tup [.int z.1,.int z.2]):=ac
     have hd6:=s6 _ _ hd5
     have tb6:=tb5.mono λ v x z=>DueIs.mono z s6
     generalize upd H5 pz (.tup [.int z.1,.int z.2])=H6 at s6 hz hd6 tb6 ⊢
     have lk:kvs.length<=900:=by rw [tb.len];omega
     refine ⟨_,rfl,_,rfl,te,_,_,_,rfl,rfl,SqT.of ((s2.trans (s5.trans s6)) _ _ hte),rfl,d,_,rfl,DPut.k (k:=Sum.inr e.1) hd6 (ax (by omega)),?_⟩
     have ko:KeepO H6 (upd H6 d (.dK (bo kvs (Sum.inr e.1) (.ref pz)))):=.dct hd6
     refine ⟨hj,_,_,_,_,ks++[e.1],upf g e.1 z,rfl,aC nd0 (s5.trans s6),ac,?_,?_,?_,?_⟩
     ·rw [<- cu nin]
      exact Tab.put (n:=e.1) (tb6.mono λ v x z=>DueIs.ko z ko) (DueIs.ko ⟨pz,rfl,hz⟩ ko)
     ·exact jb.mpr ⟨nk,by simp,λ x hx y hy=>by rw [i5.mp hy];exact λ z=>nin (z ▸ hx)⟩
     ·intro m hm
      rw [tk]
      by_cases em:m=e.1
      ·subst em
       rw [fY]
       exact ⟨iD _ (by simp),nz⟩
      ·rw [upf_ne em]
       rcases iS.mp hm with q | q
       ·exact ⟨iV _ (kin m q).1,(kin m q).2⟩
       ·exact absurd (i5.mp q) em
     ·rw [ir];show ks.length+1<=j+1;omega
    ·exact ⟨hj,_,_,_,kvs,ks,g,rfl,s5,hd5,tb5,nk,λ m hm=>⟨by rw [tk];exact iV _ (kin m hm).1,(kin m hm).2⟩,by omega⟩
   ·rintro σ H4 ⟨_,z7,z8,z9,kvs,ks,g,rfl,s4,hd4,tb,nk,kin,lks⟩
    have h4:=s4 _ _ h2
    have ndl:d≠lw:=λ z=>by rw [z,h2] at nd0;cases nd0
    refine ⟨_,rfl,.inl ⟨rfl,_,SqL.of h4⟩,_,rfl,lw,_,_,rfl,rfl,h4,ax (by omega),?_⟩
    have sq:∀ v x,DcpIs H4 v x->v≠.ref lw->DcpIs (upd H4 lw (.lst (tw++[.ref d]))) v x:=λ v x ⟨d',kv',e,f,t,q⟩ ne=>⟨d',kv',e,by rw [ai (λ z=>ne (by rw [e,z]))];exact f,t.mono λ _ _ z=>DueIs.ko z (.lst h4),q⟩
    refine ⟨hi',_,_,_,_,_,_,ws++[(ks,g)],rfl,aC nlw (s2.trans s4),ac,?_,by rw [ir,lws];rfl,λ r hr=>?_⟩
    ·have up:RowAt DcpIs (upd H4 lw (.lst (tw++[.ref d]))) tw ws:=hv.mono λ v x z=>sq v x (z.mono s4) (by
      obtain ⟨d',kv',e,f,_⟩:=z
      intro q
      rw [e] at q
      cases q
      rw [h2] at f
      cases f)
     exact RowAt.snoc up (sq _ _ ⟨d,kvs,rfl,hd4,tb,nk⟩ (λ z=>by cases z;exact ndl rfl))
    ·rcases iS.mp hr with y | y
     ·exact wok r y
     ·rw [i5.mp y]
      rw [ltp,show es.length=(es.map (·.1)).length by rw [hZ],iB] at kin
      exact ⟨λ m hm=>(kin m hm).1,λ m hm=>(kin m hm).2,by show ks.length<=12;omega⟩
  ·rintro σ H2 ⟨_,z5,z6,z7,z8,z9,tw,ws,rfl,s2,h2,hv,lws,wok⟩
   exact ⟨_,rfl,k lw H2 tw ws nlw s2 h2 hv lws wok⟩
noncomputable def r7T (t:Int) (r:W7):W7:=⟨atT r.nm t,atT r.st t,atT r.go t,r.kd,r.gain,r.hi,r.co⟩
noncomputable def s5T (t:Int) (r:S5):W7:=⟨atT r.nm t,atT r.pl t,atT r.pl (t+1),2,r.gain,r.hi,r.co⟩
noncomputable def wantP (r:bj) (e:Ent):Int × Int:=if e.1∈r.1 then r.2 e.1 else e.2
noncomputable def placeP (t:Int) (r:bj) (e:Ent):Ent:=(atT e.1 t,wantP r e)
noncomputable def pR0:bj:=([],λ _=>(0,1))
noncomputable def esN (es:List Ent) (ws:List bj):Nat->List Ent
 | 0=>[]
 | i+1=>esN es ws i++es.map (placeP ((i+1:Nat):Int) (ws.getD i pR0))
noncomputable def rsN (rs:List W7) (ss:List S5) (n:Nat):Nat->List W7
 | 0=>[]
 | i+1=>rsN rs ss n i++rs.map (r7T ((i+1:Nat):Int))++(if i+1<n then ss.map (s5T ((i+1:Nat):Int)) else [])
theorem esN_len (es:List Ent) (ws:List bj):∀ i,(esN es ws i).length=i*es.length
 | 0=>by rw [Nat.zero_mul];rfl
 | i+1=>by
  show (esN es ws i++_).length=_
  rw [ir,esN_len es ws i,hZ,Nat.succ_mul]
theorem rsN_len (rs:List W7) (ss:List S5) (n:Nat):∀ i,(rsN rs ss n i).length<=i*(rs.length+ss.length)
 | 0=>im _
 | i+1=>by
  have ih:=rsN_len rs ss n i
  show (rsN rs ss n i++_++_).length<=_
  rw [ir,ir,hZ,Nat.succ_mul]
  have:(if i+1<n then ss.map (s5T ((i+1:Nat):Int)) else []).length<=ss.length:=by
   split
   ·rw [hZ];exact ic _
   ·exact im _
  omega
theorem app_dot (x y:Str):x++("." ++ y)=(x ++ ".")++y:=(Str.append_assoc x "." y).symm
structure TurIn (K:W.Frag) (H:Hp) (ls lq:Addr) (ts tq:List V) (es:List Ent) (rs:List W7) (ss:List S5) (ws:List bj):Prop where
 hs:SqL K H ls ts
 rs':RowAt S5Is H ts ss
 hq:SqL K H lq tq
 rq:RowAt DcpIs H tq ws
 le:es.length<=12
 lr:rs.length<=12
 lss:ss.length<=12
 lws:ws.length<=12
 ne:∀ e∈es,e.1.length<=700
 nr:∀ r∈rs,r.nm.length<=700/\r.st.length<=700/\r.go.length<=700
 ns:∀ r∈ss,r.nm.length<=700/\r.pl.length<=700
inductive IspTurnedL (K:W.Frag) (vs:List V) (H:Hp) (Q:VK):Prop
 | mk (t lp lw ls lq:Addr) (tp tw ts tq:List V) (es:List Ent) (rs:List W7) (ss:List S5) (ws:List bj) (h1:vs=[.ref t,.ref ls,.ref lq]) (h2:Told H t lp lw tp tw es rs) (h3:TurIn K H ls lq ts tq es rs ss ws) (h4:∀ t' lp' lw' tp' tw' H',Same H H'->Told H' t' lp' lw' tp' tw' (esN es ws ws.length) (rsN rs ss ws.length ws.length)->Q (.ref t') H'):IspTurnedL K vs H Q
noncomputable def spTurnedL (K:W.Frag):Sp:=λ vs H Q _=>IspTurnedL K vs H Q
theorem ok_law_turned (T:TX K mg a):FnB P w K mg base CX0 "_law_turned" 1 ["_law_told","_law_stores_here","_law_wants_here"] (spTurnedL K):=by
 refine T.d_law_turned.ok sc_law_turned (λ vs H Q E h=>?_) (λ f cdv A outer s H vs Q E hr h=>?_)
 ·obtain ⟨_,_,_,_,_,_,_,_,_,_,_,_,_,rfl,_⟩:=h
  rfl
 ·obtain ⟨t,lp,lw,ls,lq,tp,tw,ts,tq,es,rs,ss,ws,rfl,td,D,k⟩:=h
  refine ⟨_,(ag (au (i:=3) sc_law_turned.nd rfl (Or.inl rfl) (dR ad))
   (ag (au (i:=4) sc_law_turned.nd rfl (Or.inl rfl) (dR ad))
   (ag (aR ix rfl (pi_enum (by rfl) T.z_enumerate (aa (pv 2) ad)) (dm rfl (aF (aq (i:=5) sc_law_turned.nd rfl (Or.inl rfl)) (aF (aq (i:=6) sc_law_turned.nd rfl (Or.inl rfl)) cG))) (ag (au (i:=7) sc_law_turned.nd rfl (Or.inl rfl) (ak aI dQ (bX b4 (by rfl) T.z_str jk (aa (ak aJ (pv 5) ae) ad))))
   (ag (aR ix rfl (aU (aD az (pv 0) ae (λ _ _=>rfl))) (aq (i:=8) sc_law_turned.nd rfl (Or.inl rfl)) (ah (aT (eV iO i8 i9 cD (pv 3) (aa (aV (aa (ak aI (aD az (pv 8) ae (λ _ _=>rfl)) (pv 7)) (aa (eL (aZ hr) (pv 6) (aD az (pv 8) ae (λ _ _=>rfl)) (aD az (pv 8) ae (λ _ _=>rfl)) ⟨rfl,rfl,rfl,rfl⟩) ad))) ad)))))
   (ag (aR ix rfl (aU (aD az (pv 0) ae (λ _ _=>rfl))) (aq (i:=9) sc_law_turned.nd rfl (Or.inl rfl)) (ah (aT (eV iO i8 i9 cD (pv 4) (aa (aV (aa (ak aI (aD az (pv 9) ae (λ _ _=>rfl)) (pv 7)) (aa (ak aI (aD az (pv 9) ae (λ _ _=>rfl)) (pv 7)) (aa (ak aI (aD az (pv 9) ae (λ _ _=>rfl)) (pv 7)) (aa (aD az (pv 9) ae (λ _ _=>rfl)) (aa (aD az (pv 9) ae (λ _ _=>rfl)) (aa (aD az (pv 9) ae (λ _ _=>rfl)) (aa (aD az (pv 9) ae (λ _ _=>rfl)) ad)))))))) ad)))))
   (ah (aR ix rfl (aU (pv 1)) (dm rfl (aF (aq (i:=10) sc_law_turned.nd rfl (Or.inl rfl)) (aF (aq (i:=8) sc_law_turned.nd rfl (Or.inl rfl)) (aF (aq (i:=11) sc_law_turned.nd rfl (Or.inl rfl)) (aF (aq (i:=12) sc_law_turned.nd rfl (Or.inl rfl)) (aF (aq (i:=13) sc_law_turned.nd rfl (Or.inl rfl)) cG)))))) (ah (aS (aG gX (ak aJ (pv 5) ae) (aH a8 (by rfl) T.z_len iU (aa (pv 2) ad)) (aM _)) (ah (aT (eV iO i8 i9 cD (pv 4) (aa (aV (aa (ak aI (pv 10) (pv 7)) (aa (ak aI (pv 8) (pv 7)) (aa (ak aI (ak aI (pv 8) dQ) (bX b4 (by rfl) T.z_str jk (aa (ak aJ (pv 5) ae) ad))) (aa ae (aa (pv 11) (aa (pv 12) (aa (pv 13) ad)))))))) ad)))) aE))))))))
   (ah (aw (aV (aa (pv 3) (aa (pv 4) ad)))))))),?_⟩
  try dsimp only [aK,Cx.nox,Cx.wish]
  have le:=D.le
  have lr:=D.lr
  have lss:=D.lss
  have lws:=D.lws
  refine ⟨by decide,λ l1 nl1=>?_⟩
  have s3:=aj (o:=.lst []) nl1
  have h1:upd H l1 (.lst []) l1=some (.lst []):=ac
  generalize upd H l1 (.lst [])=H3 at s3 h1 ⊢
  refine ⟨by decide,λ l2 nl2=>?_⟩
  have nl2':=s3.free nl2
  have n12:l1≠l2:=λ z=>by rw [z,nl2] at h1;cases h1
  have s4:=s3.trans (aj (o:=.lst []) nl2)
  have h2:upd H3 l2 (.lst []) l2=some (.lst []):=ac
  have h12:=aj (o:=.lst []) nl2 _ _ h1
  generalize upd H3 l2 (.lst [])=H4 at s4 h2 h12 ⊢
  clear h1 s3
  have ltq:tq.length=ws.length:=D.rq.1
  refine ⟨_,rfl,lq,tq,rfl,s4.seq D.hq,for_enum (K:=K) (a:=lq) (xs:=tq) (λ i σ H5=>i<=ws.length/\∃ z5 z6 z7 z8 z9 z10 z11 z12 z13 t1 t2,σ=[some (.ref t),some (.ref ls),some (.ref lq),some (.ref l1),some (.ref l2),z5,z6,z7,z8,z9,z10,z11,z12,z13]/\Same H H5/\H5 l1=some (.lst t1)/\H5 l2=some (.lst t2)/\RowAt EntIs H5 t1 (esN es ws i)/\RowAt W7Is H5 t2 (rsN rs ss ws.length i)) ⟨im _,_,_,_,_,_,_,_,_,_,[],[],rfl,s4,h12,h2,RowAt.nil,RowAt.nil⟩ (λ i σ H5 ⟨_,_,_,_,_,_,_,_,_,_,_,_,_,s5,_⟩=>s5.seq D.hq) ?_ ?_⟩
  ·rintro i x tt σ H5 hx ntt ⟨_,z5,z6,z7,z8,z9,z10,z11,z12,z13,t1,t2,rfl,s5,h15,h25,hr1,hr2⟩
   obtain ⟨r,er,hr0⟩:=D.rq.get hx
   have hi:i<ws.length:=(hV.mp er).1
   obtain ⟨d,kvs,rfl,hd,tb,nk⟩:=id hr0
   have er':ws.getD i pR0=r:=by rw [iR,er];rfl
   have s6':=aj (o:=.tup [.int (i:Int),.ref d]) ntt
   have htt:upd H5 tt (.tup [.int (i:Int),.ref d]) tt=some (.tup [.int (i:Int),.ref d]):=ac
   generalize upd H5 tt (.tup [.int (i:Int),.ref d])=H6 at s6' htt ⊢
   have s6:=s5.trans s6'
   have h16:=s6' _ _ h15
   have h26:=s6' _ _ h25
   replace hr1:=hr1.mono λ v x z=>EntIs.mono z s6'
   replace hr2:=hr2.mono λ v x z=>W7Is.mono z s6'
   have b1:(esN es ws i).length<=12*12:=by rw [esN_len];exact i4 (by omega) le
   have b2:(rsN rs ss ws.length i).length<=12*24:=ie (rsN_len _ _ _ _) (i4 (by omega) (by omega))
   refine ⟨tt,_,rfl,SqT.of htt,rfl,_,_,rfl,_,_,rfl,rfl,?_⟩
   have tn:Tn ((i+1:Nat):Int):=cU (by omega)
   have tn2:Tn ((i+2:Nat):Int):=cU (by omega)
   have tl:=tn.len
   walk_at "rd"
   refine ⟨?_,?_⟩
   ·exact tn.log
   walk_at "rd"
   refine ⟨by rw [show (".":Str).length=1 from rfl,iK];exact ie (jK tl 1) (by decide),?_⟩
   obtain ⟨tx,htx⟩:∃ tx:Str,(".":Str)++Str.ofString (toString ((i:Int)+1))=tx:=⟨_,rfl⟩
   have etx:∀ x:Str,x++tx=atT x ((i+1:Nat):Int):=λ x=>by rw [<- htx,app_dot];rfl
   have ltx:tx.length<=202:=by rw [<- htx,iJ];exact jK tl 1
   have ety:∀ x:Str,(x ++ ".")++Str.ofString (toString ((i:Int)+2))=atT x (((i+1:Nat):Int)+1):=λ x=>by unfold atT;rw [show ((i+1:Nat):Int)+1=(i:Int)+2 by omega]
   have ty2:(Str.ofString (toString ((i:Int)+2))).length<=201:=by have:=tn2.len;rw [show ((i+2:Nat):Int)=(i:Int)+2 by omega] at this;exact this
   have tg2:((i:Int)+2).natAbs.log2<1920:=by have:=tn2.log;rw [show ((i+2:Nat):Int)=(i:Int)+2 by omega] at this;exact this
   dsimp only
   rw [htx]
   clear htx tl tn tn2
   refine ⟨_,rfl,t,_,_,_,rfl,rfl,SqT.of (s6 _ _ td.ht),rfl,lp,rfl,⟨_,SqL.of (s6 _ _ td.hp)⟩,bn (K:=K) (a:=lp) (xs:=tp) (λ j σ H7=>j<=es.length/\∃ z8 t1,σ=[some (.ref t),some (.ref ls),some (.ref lq),some (.ref l1),some (.ref l2),some (.int (i:Int)),some (.ref d),some (.str tx),z8,z9,z10,z11,z12,z13]/\Same H H7/\H7 l1=some (.lst t1)/\H7 l2=some (.lst t2)/\RowAt EntIs H7 t1 (esN es ws i++(es.take j).map (placeP ((i+1:Nat):Int) r))/\RowAt W7Is H7 t2 (rsN rs ss ws.length i)) ⟨im _,_,t1,rfl,s6,h16,h26,by rw [List.take_zero,List.map_nil,jf];exact hr1,hr2⟩ (λ j σ H7 _ ⟨_,_,_,_,s7,_⟩=>SqL.of (s7 _ _ td.hp)) ?_ ?_⟩
   ·rintro j x σ H7 hx ⟨_,z8',t1',rfl,s7,h17,h27,hv1,hv2⟩
    obtain ⟨e,ee,he0⟩:=td.rp.get hx
    have hj:j<es.length:=(hV.mp ee).1
    obtain ⟨te,ve,rfl,hte,hve⟩:=he0.mono s7
    have lt1:t1'.length<=200:=by rw [hv1.1,ir,hZ,iz];omega
    have ln:=D.ne e (ig ee)
    have hd7:=s7 _ _ hd
    refine ⟨_,rfl,.inl ⟨rfl,_,SqL.of h17⟩,?_⟩
    have sq:=SqT.of (K:=K) hte
    have ok1:∀ x:Str,x.length<=700->x.length+tx.length<=sizeLine:=λ x hx=>by rw [iK];exact ie (Nat.add_le_add hx ltx) (by decide)
    obtain ⟨y,ey,fy⟩:∃ y,(bY kvs (Sum.inr e.1)).getD ve=.ref y/\H7 y=some (.tup [.int (wantP r e).1,.int (wantP r e).2]):=by
     unfold wantP
     by_cases hz:e.1∈r.1
     ·obtain ⟨v,ev,q,rfl,fq⟩:=tb.vals e.1 hz
      rw [ev,if_pos hz]
      exact ⟨q,rfl,s7 _ _ fq⟩
     ·obtain ⟨q,rfl,fq⟩:=hve
      rw [tb.none hz,if_neg hz]
      exact ⟨q,rfl,fq⟩
    refine ⟨_,rfl,te,_,_,_,rfl,rfl,sq,rfl,_,rfl,_,_,rfl,rfl,ok1 _ ln,_,rfl,d,rfl,.inl ⟨kvs,.inl hd7⟩,_,rfl,te,_,_,_,rfl,rfl,sq,rfl,_,rfl,te,_,_,_,rfl,rfl,sq,rfl,bY kvs (Sum.inr e.1),.inl ⟨kvs,Sum.inr e.1,.inl hd7,rfl,rfl⟩,?_⟩
    rw [ey,etx]
    refine ⟨by show 2<=sizeLine;decide,λ t3 nt3=>?_⟩
    have s8:=aj (o:=.tup [.str (atT e.1 ((i+1:Nat):Int)),.ref y]) nt3
    have ht3:upd H7 t3 (.tup [.str (atT e.1 ((i+1:Nat):Int)),.ref y]) t3=some (.tup [.str (atT e.1 ((i+1:Nat):Int)),.ref y]):=ac
    generalize upd H7 t3 (.tup [.str (atT e.1 ((i+1:Nat):Int)),.ref y])=H8 at s8 ht3 ⊢
    have h18:=s8 _ _ h17
    refine ⟨l1,_,_,rfl,rfl,h18,ax (by omega),?_⟩
    refine ⟨hj,_,_,rfl,aC nl1 (s7.trans s8),ac,by rw [ai n12.symm];exact s8 _ _ h27,?_,hv2.mono λ v x z=>(z.mono s8).ko (.lst h18)⟩
    rw [iH,ee,iE,iu,<- List.append_assoc]
    exact RowAt.snoc (hv1.mono λ v x z=>(z.mono s8).ko (.lst h18)) (EntIs.ko ⟨t3,.ref y,rfl,ht3,⟨y,rfl,s8 _ _ fy⟩⟩ (.lst h18))
   rintro σ H7 ⟨_,z8',t1',rfl,s7,h17,h27,hv1,hv2⟩
   rw [td.rp.1,iB] at hv1
   refine ⟨_,rfl,t,_,_,_,rfl,rfl,SqT.of (s7 _ _ td.ht),rfl,lw,rfl,⟨_,SqL.of (s7 _ _ td.hw)⟩,bn (K:=K) (a:=lw) (xs:=tw) (λ j σ H8=>j<=rs.length/\∃ z9 t2,σ=[some (.ref t),some (.ref ls),some (.ref lq),some (.ref l1),some (.ref l2),some (.int (i:Int)),some (.ref d),some (.str tx),z8',z9,z10,z11,z12,z13]/\Same H H8/\H8 l1=some (.lst t1')/\H8 l2=some (.lst t2)/\RowAt EntIs H8 t1' (esN es ws i++es.map (placeP ((i+1:Nat):Int) r))/\RowAt W7Is H8 t2 (rsN rs ss ws.length i++(rs.take j).map (r7T ((i+1:Nat):Int)))) ⟨im _,_,t2,rfl,s7,h17,h27,hv1,by rw [List.take_zero,List.map_nil,jf];exact hv2⟩ (λ j σ H8 _ ⟨_,_,_,_,s8,_⟩=>SqL.of (s8 _ _ td.hw)) ?_ ?_⟩
   ·clear hv1 hv2 h17 h27 s7
    rintro j x σ H8 hx ⟨_,z9',t2',rfl,s8,h18,h28,hv1,hv2⟩
    obtain ⟨e,ee,he0⟩:=td.rw.get hx
    have hj:j<rs.length:=(hV.mp ee).1
    obtain ⟨te,vg,vh,vc,rfl,hte,hg,hh,hc⟩:=he0.mono s8
    have lt2:t2'.length<=400:=by rw [hv2.1,ir,hZ,iz];omega
    obtain ⟨n1,n2,n3⟩:=D.nr e (ig ee)
    have sq:=SqT.of (K:=K) hte
    have ok1:∀ x:Str,x.length<=700->x.length+tx.length<=sizeLine:=λ x hx=>by rw [iK];exact ie (Nat.add_le_add hx ltx) (by decide)
    refine ⟨_,rfl,.inl ⟨rfl,_,SqL.of h28⟩,?_⟩
    refine ⟨_,rfl,te,_,_,_,rfl,rfl,sq,rfl,_,rfl,_,_,rfl,rfl,ok1 _ n1,_,rfl,te,_,_,_,rfl,rfl,sq,rfl,_,rfl,_,_,rfl,rfl,ok1 _ n2,_,rfl,te,_,_,_,rfl,rfl,sq,rfl,_,rfl,_,_,rfl,rfl,ok1 _ n3,_,rfl,te,_,_,_,rfl,rfl,sq,rfl,_,rfl,te,_,_,_,rfl,rfl,sq,rfl,_,rfl,te,_,_,_,rfl,rfl,sq,rfl,_,rfl,te,_,_,_,rfl,rfl,sq,rfl,?_⟩
    rw [etx,etx,etx]
    refine ⟨by show 7<=sizeLine;decide,λ t3 nt3=>?_⟩
    obtain ⟨o,ho⟩:∃ o:HO,HO.tup [.str (atT e.nm ((i+1:Nat):Int)),.str (atT e.st ((i+1:Nat):Int)),.str (atT e.go ((i+1:Nat):Int)),.int e.kd,vg,vh,vc]=o:=⟨_,rfl⟩
    have s9:=aj (o:=o) nt3
    have ht3:upd H8 t3 o t3=some o:=ac
    dsimp only [List.cons_append,List.nil_append]
    rw [ho]
    generalize upd H8 t3 o=H9 at s9 ht3 ⊢
    subst ho
    have h19:=s9 _ _ h28
    refine ⟨l2,_,_,rfl,rfl,h19,ax (by omega),?_⟩
    refine ⟨hj,_,_,rfl,aC nl2' (s8.trans s9),by rw [ai n12];exact s9 _ _ h18,ac,hv1.mono λ v x z=>(z.mono s9).ko (.lst h19),?_⟩
    rw [iH,ee,iE,iu,<- List.append_assoc]
    exact RowAt.snoc (hv2.mono λ v x z=>(z.mono s9).ko (.lst h19)) (W7Is.ko ⟨t3,vg,vh,vc,rfl,ht3,hg.mono s9,hh.mono s9,hc.mono s9⟩ (.lst h19))
   clear hv1 hv2 h17 h27 s7 H7
   rintro σ H7 ⟨_,z9',t2',rfl,s7,h17,h27,hv1,hv2⟩
   rw [td.rw.1,iB] at hv2
   have b3:(rsN rs ss ws.length i++rs.map (r7T ((i+1:Nat):Int))).length<=300:=by rw [ir,hZ];omega
   have lts:ts.length=ss.length:=D.rs'.1
   refine ⟨_,rfl,ls,rfl,⟨_,s7.seq D.hs⟩,bn (K:=K) (a:=ls) (xs:=ts) (λ j σ H8=>j<=ss.length/\∃ z8 z10 z11 z12 z13 t2,σ=[some (.ref t),some (.ref ls),some (.ref lq),some (.ref l1),some (.ref l2),some (.int (i:Int)),some (.ref d),some (.str tx),z8,z9',z10,z11,z12,z13]/\Same H H8/\H8 l1=some (.lst t1')/\H8 l2=some (.lst t2)/\RowAt EntIs H8 t1' (esN es ws i++es.map (placeP ((i+1:Nat):Int) r))/\RowAt W7Is H8 t2 (rsN rs ss ws.length i++rs.map (r7T ((i+1:Nat):Int))++(if i+1<ws.length then (ss.take j).map (s5T ((i+1:Nat):Int)) else []))) ⟨im _,_,_,_,_,_,t2',rfl,s7,h17,h27,hv1,by rw [List.take_zero,List.map_nil,ite_self,jf];exact hv2⟩ (λ j σ H8 _ ⟨_,_,_,_,_,_,_,_,s8,_⟩=>s8.seq D.hs) ?_ ?_⟩
   ·clear hv1 hv2 h17 h27 s7
    rintro j x σ H8 hx ⟨_,y8,y10,y11,y12,y13,t2',rfl,s8,h18,h28,hv1,hv2⟩
    obtain ⟨e,ee,he0⟩:=D.rs'.get hx
    have hj:j<ss.length:=(hV.mp ee).1
    obtain ⟨te,vg,vh,vc,rfl,hte,hg,hh,hc⟩:=he0.mono s8
    obtain ⟨n1,n2⟩:=D.ns e (ig ee)
    refine ⟨te,_,rfl,SqT.of hte,rfl,_,_,rfl,_,_,rfl,_,_,rfl,_,_,rfl,_,_,rfl,rfl,?_⟩
    refine ⟨_,rfl,_,_,rfl,rfl,_,rfl,lq,_,rfl,.inl (s8.seq D.hq),_,_,rfl,rfl,_,rfl,?_⟩
    have ok1:∀ x:Str,x.length<=700->x.length+tx.length<=sizeLine:=λ x hx=>by rw [iK];exact ie (Nat.add_le_add hx ltx) (by decide)
    refine ifB (λ h3=>?_) (λ h3=>?_)
    ·have hlt:i+1<ws.length:=by have:((i:Int)+1)<(tq.length:Int):=h3;omega
     rw [if_pos hlt] at hv2
     have lt2:t2'.length<=400:=by rw [hv2.1,ir,hZ,iz];omega
     refine ⟨_,rfl,.inl ⟨rfl,_,SqL.of h28⟩,?_⟩
     refine ⟨_,rfl,_,rfl,_,_,rfl,rfl,ok1 _ n1,_,rfl,_,rfl,_,_,rfl,rfl,ok1 _ n2,_,rfl,_,_,rfl,rfl,?o1,_,rfl,_,_,rfl,rfl,_,rfl,?o2,_,_,rfl,rfl,?o3,_,rfl,_,rfl,_,rfl,?_⟩
     case o1=>rw [iK];exact ie (Nat.add_le_add_right n2 1) (by decide)
     case o2=>exact tg2
     case o3=>rw [iK,iJ];exact ie (Nat.add_le_add (Nat.add_le_add_right n2 1) ty2) (by decide)
     rw [etx,etx,ety]
     refine ⟨by show 7<=sizeLine;decide,λ t3 nt3=>?_⟩
     obtain ⟨o,ho⟩:∃ o:HO,HO.tup [.str (atT e.nm ((i+1:Nat):Int)),.str (atT e.pl ((i+1:Nat):Int)),.str (atT e.pl (((i+1:Nat):Int)+1)),.int 2,vg,vh,vc]=o:=⟨_,rfl⟩
     have s9:=aj (o:=o) nt3
     have ht3:upd H8 t3 o t3=some o:=ac
     dsimp only [List.cons_append,List.nil_append]
     rw [ho]
     generalize upd H8 t3 o=H9 at s9 ht3 ⊢
     subst ho
     have h19:=s9 _ _ h28
     refine ⟨l2,_,_,rfl,rfl,h19,ax (by omega),?_⟩
     refine ⟨hj,_,_,_,_,_,_,rfl,aC nl2' (s8.trans s9),by rw [ai n12];exact s9 _ _ h18,ac,hv1.mono λ v x z=>(z.mono s9).ko (.lst h19),?_⟩
     rw [if_pos hlt,iH,ee,iE,iu,<- List.append_assoc]
     exact RowAt.snoc (hv2.mono λ v x z=>(z.mono s9).ko (.lst h19)) (W7Is.ko ⟨t3,vg,vh,vc,rfl,ht3,hg.mono s9,hh.mono s9,hc.mono s9⟩ (.lst h19))
    ·have hlt:¬ i+1<ws.length:=by have:¬ ((i:Int)+1)<(tq.length:Int):=h3;omega
     rw [if_neg hlt] at hv2
     exact ⟨hj,_,_,_,_,_,_,rfl,s8,h18,h28,hv1,by rw [if_neg hlt];exact hv2⟩
   clear hv1 hv2 h17 h27 s7 H7
   rintro σ H7 ⟨_,y8,y10,y11,y12,y13,t2'',rfl,s7,h17,h27,hv1,hv2⟩
   rw [lts,iB] at hv2
   refine ⟨hi,_,_,_,_,_,_,_,_,_,_,_,rfl,s7,h17,h27,?_,hv2⟩
   show RowAt EntIs H7 t1' (esN es ws i++es.map (placeP ((i+1:Nat):Int) (ws.getD i pR0)))
   rw [er']
   exact hv1
  ·rintro σ H5 ⟨_,z5,z6,z7,z8,z9,z10,z11,z12,z13,t1,t2,rfl,s5,h15,h25,hr1,hr2⟩
   rw [ltq] at hr1 hr2
   refine ⟨_,rfl,_,rfl,by show 2<=sizeLine;decide,λ t3 nt3=>?_⟩
   have s9:=aj (o:=.tup [.ref l1,.ref l2]) nt3
   exact k t3 l1 l2 t1 t2 _ (s5.trans s9) ⟨ac,s9 _ _ h15,s9 _ _ h25,hr1.mono λ v x z=>z.mono s9,hr2.mono λ v x z=>z.mono s9⟩
theorem KeepO.thaw {H:Hp} {l:Addr} {o:Obj} {x o':HO} (h:H l=some (.frz o x)):KeepO H (upd H l o'):=⟨λ b ys e=>by rw [ai (bz e h (by intro z;cases z))];exact e,λ b C dx fs e=>by rw [ai (bz e h (by intro z;cases z))];exact e⟩
noncomputable def vR (r:bj):ck:=(r.1,λ n=>vC (r.2 n))
inductive IspFractions (a:Ad) (vs:List V) (H:Hp) (Q:VK):Prop
 | mk (v:V) (r:bj) (h1:vs=[v]) (h2:DcpIs H v r) (h3:(∀ n∈r.1,N50 (r.2 n))) (h4:r.1.length<=60) (h5:∀ d' H',H d'=none->Same H H'->DctIs a H' (.ref d') (vR r)->Q (.ref d') H'):IspFractions a vs H Q
noncomputable def spFractions (a:Ad):Sp:=λ vs H Q _=>IspFractions a vs H Q
theorem dS (T:TX K mg a):FnB P w K mg base CX0 "_law_fractions" 7 ["_law_pairs_here"] (spFractions a):=by
 refine T.d_law_fractions.ok sc_law_fractions (λ vs H Q E h=>?_) (λ f cdv A outer s H vs Q E hr h=>?_)
 ·obtain ⟨_,_,rfl,_⟩:=h
  rfl
 ·obtain ⟨v,r,rfl,⟨d,kvs,rfl,hd,tb,nk⟩,nok,l12,k⟩:=h
  refine ⟨_,(ag (au (i:=1) sc_law_fractions.nd rfl (Or.inl rfl) bL)
   (ag (eR (aR ix rfl (eS (pv 0)) (aq (i:=2) sc_law_fractions.nd rfl (Or.inl rfl)) (ah (bw (aZ hr) (pv 1) (pv 2) (cn (mk2 T) hr T.mg_Fraction am (aa (aD az (cH (aZ hr) (pv 0) (pv 2) (λ _ _=>rfl)) ae (λ _ _=>rfl)) (aa (aD az (cH (aZ hr) (pv 0) (pv 2) (λ _ _=>rfl)) ae (λ _ _=>rfl)) ad))) rfl))))
   (ah (aw (pv 1))))),?_⟩
  try dsimp only [aK,Cx.nox,Cx.wish]
  intro d' nd'
  have s1:=aj (o:=.dK []) nd'
  have hd':upd H d' (.dK []) d'=some (.dK []):=ac
  generalize upd H d' (.dK [])=H1 at s1 hd' ⊢
  have ndd:d'≠d:=λ z=>by rw [z,hd] at nd';cases nd'
  have hd1:=s1 _ _ hd
  refine ⟨d,.dK kvs,hd1,(by intro o z e;cases e),_,rfl,d,kvs,rfl,hd1,λ o=>?_⟩
  refine gj (a:=d) (o:=o) (kvs:=kvs) (λ j σ H3=>j<=r.1.length/\∃ z2 kv',σ=[some (.ref d),some (.ref d'),z2]/\H3 d=some (.frz o (.dK kvs))/\(∀ b ob,H b=some ob->b≠d->H3 b=some ob)/\H3 d'=some (.dK kv')/\Tab (FrIs a) H3 kv' (r.1.take j) (vR r).2)
   ⟨im _,_,[],rfl,ac,(λ b ob e ne=>by rw [ai ne];exact s1 _ _ e),by rw [ai ndd];exact hd',Tab.nil⟩ (λ j σ H3 _ ⟨_,_,_,_,h,_⟩=>h) ?_ ?_
  ·rintro j kv σ H3 hkv ⟨_,z2,kv',rfl,hf,k3,hd3,tb3⟩
   obtain ⟨n,en,e1,ev,t,et,ht⟩:=tb.at_ nk hkv
   have hj:j<r.1.length:=(hV.mp en).1
   have ekv:kV kv.1=.str n:=by rw [e1];rfl
   rw [ekv]
   have ht3:=k3 _ _ ht (bz ht hd (by intro z;cases z))
   have ne:=nok n (ig en)
   have:=ne.b
   obtain ⟨tk,nkk⟩:=bE nk en
   have lk:kv'.length<=900:=by rw [tb3.len,iz];omega
   have rd:DGet H3 d (kV (Sum.inr n)) (some (.ref t)):=.inl ⟨kvs,Sum.inr n,.inr ⟨o,hf⟩,rfl,by rw [ev,et]⟩
   refine ⟨_,rfl,_,rfl,d,.ref t,rfl,rd,t,_,_,_,rfl,rfl,SqT.of ht3,rfl,_,rfl,_,rfl,d,.ref t,rfl,rd,t,_,_,_,rfl,rfl,SqT.of ht3,rfl,(r.2 n).1,(r.2 n).2,rfl,by omega,ne.sm.2,λ q H4 nq s4 f4=>?_⟩
   have hd4:=s4 _ _ hd3
   refine ⟨_,rfl,_,rfl,d',_,rfl,DPut.k (k:=Sum.inr n) hd4 (ax (by omega)),?_⟩
   have ko:KeepO H4 (upd H4 d' (.dK (bo kv' (Sum.inr n) (.ref q)))):=.dct hd4
   refine ⟨hj,_,_,rfl,by rw [ai ndd.symm];exact s4 _ _ hf,λ b ob e nb=>by rw [ai (λ z=>by rw [z,nd'] at e;cases e)];exact s4 _ _ (k3 _ _ e nb),ac,?_⟩
   rw [tk,<- cu nkk]
   exact (Tab.put (n:=n) (y:=vC (r.2 n)) (tb3.mono λ v x z=>(FrIs.mono z s4).ko ko) (FrIs.ko ⟨q,rfl,f4⟩ ko)).congr λ m hm=>by
    by_cases em:m=n
    ·subst em
     rw [fY]
     rfl
    ·rw [upf_ne em]
  ·rintro σ H3 ⟨_,z2,kv',rfl,hf,k3,hd3,tb3⟩
   rw [tb.len,iB] at tb3
   have ko:KeepO H3 (upd H3 d (.dK kvs)):=KeepO.thaw hf
   refine ⟨o,hf,_,rfl,k d' _ nd' (λ b ob e=>?_) ⟨d',kv',rfl,by rw [ai ndd];exact hd3,tb3.mono λ v x z=>FrIs.ko z ko,nk⟩⟩
   by_cases hb:b=d
   ·subst hb
    rw [ac,<- hd,e]
   ·rw [ai hb]
    exact k3 _ _ e hb
theorem all_true (n:Nat):(List.replicate n true).all id=true:=by
 induction n with
 | zero=>rfl
 | succ n ih=>rw [List.replicate_succ,List.all_cons,ih];rfl
inductive IspStays63 (a:Ad) (vs:List V) (H:Hp) (Q:VK):Prop
 | mk (v u:V) (r:bj) (h1:vs=[v,u]) (h2:DctIs a H v (vR r)) (h3:DcpIs H u r) (h4:(∀ n∈r.1,N50 (r.2 n))) (h5:r.1.length<=60) (h6:∀ H',Same H H'->Q (.bl true) H'):IspStays63 a vs H Q
noncomputable def spStays63 (a:Ad):Sp:=λ vs H Q _=>IspStays63 a vs H Q
theorem ok_law_stays (T:TX K mg a):FnB P w K mg base CX0 "_law_stays" 3 ["_law_handed","_law_pairs_here"] (spStays63 a):=by
 refine T.d_law_stays.ok sc_law_stays (λ vs H Q E h=>?_) (λ f cdv A outer s H vs Q E hr h=>?_)
 ·obtain ⟨_,_,_,rfl,_⟩:=h
  rfl
 ·obtain ⟨v,u,r,rfl,⟨d',kv',rfl,hd',tb',_⟩,⟨d,kvs,rfl,hd,tb,nk⟩,nok,l12,k⟩:=h
  refine ⟨_,(ag (aS (aG (op_neL hr.units0) (bX (eQ hr.hd) (by rfl) T.z_list PyProof.Rows.boot_list (aa (pv 0) ad)) (bX (eQ hr.hd) (by rfl) T.z_list PyProof.Rows.boot_list (aa (pv 1) ad)) (aM _)) (ah (aw f9)) aE)
   (ah (aw (aH (call_allK (K:=K) rfl hr.hd) (by rfl) T.z_all PyProof.Rows.boot_all (aa (pe_thaw (cV (xs:=["_law_name_here"]) (rest:=["_law_handed","_law_pairs_here"]) rfl (eS (pv 1))
   (λ pins fp C' s' H'=>(aq (i:=0) (show (["_law_name_here","_law_handed","_law_pairs_here"]:List Str).Nodup by decide +kernel) rfl (Or.inl rfl))) (λ pins fp C' s' H'=>cF)
   (λ pins fp C' s' H'=>(pe_cmpR dZ (aD (r:=rIxT K) az (ay (ok_law_less T) hr am (aa (ay (ok_law_pair T) hr am (aa (cH (aZ hr) (pv 1) (pv 0) (λ _ _=>rfl)) ad)) (aa (cH (aZ hr) (pv 2) (pv 0) (λ _ _=>rfl)) ad))) ae (λ _ _=>rfl)) ae (aM _)))
   (Clos.many (ys:=["_law_pairs_here","_law_handed"]) rfl ⟨rfl,rfl,True.intro⟩ rfl (by decide +kernel)) (Reads.many (ys:=["_law_handed","_law_pairs_here"]) (js:=[0,1]) ⟨⟨rfl,rfl,rfl⟩,⟨rfl,rfl,rfl⟩,True.intro⟩))) ad))))),?_⟩
  try dsimp only [aK,Cx.nox,Cx.wish]
  have e1:(kvs.map λ kv=>kV kv.1)=r.1.map V.str:=by
   have:=i7 (List.map kV) tb.keys
   rw [iQ,iQ] at this
   exact this
  have e2:(kv'.map λ kv=>kV kv.1)=r.1.map V.str:=by
   have:=i7 (List.map kV) tb'.keys
   rw [iQ,iQ] at this
   exact this
  refine ⟨_,rfl,d',kv',rfl,.inl hd',λ p np=>?_⟩
  rw [e2]
  have s1:=aj (o:=.lst (r.1.map V.str)) np
  have hp:upd H p (.lst (r.1.map V.str)) p=some (.lst (r.1.map V.str)):=ac
  generalize upd H p (.lst (r.1.map V.str))=H1 at s1 hp ⊢
  refine ⟨_,rfl,d,kvs,rfl,.inl (s1 _ _ hd),λ q nq=>?_⟩
  rw [e1]
  have s2:=s1.trans (aj (o:=.lst (r.1.map V.str)) nq)
  have hq:upd H1 q (.lst (r.1.map V.str)) q=some (.lst (r.1.map V.str)):=ac
  have hp2:=aj (o:=.lst (r.1.map V.str)) nq _ _ hp
  generalize upd H1 q (.lst (r.1.map V.str))=H2 at s2 hq hp2 ⊢
  refine ⟨p,q,_,_,rfl,rfl,SqL.of hp2,SqL.of hq,fA _,fA _,_,rfl,fM (by rw [eqVs_strs];rfl) ?_⟩
  have hd2:=s2 _ _ hd
  refine ⟨d,.dK kvs,hd2,(by intro o z e;cases e),_,rfl,d,kvs,rfl,hd2,λ o l nl=>?_⟩
  have ndl:d≠l:=λ z=>by rw [z,ac] at nl;cases nl
  have nl':H2 l=none:=by rw [ai ndl.symm] at nl;exact nl
  refine gN (a:=d) (o:=o) (kvs:=kvs) (λ i H3=>i<=r.1.length/\H3 d=some (.frz o (.dK kvs))/\(∀ b ob,H2 b=some ob->b≠d->H3 b=some ob)/\H3 l=some (.lst ((List.replicate i true).map V.bl)))
   ⟨im _,by rw [ai ndl,ac],(λ b ob e ne=>by rw [ai (av e nl'),ai ne];exact e),ac⟩ (λ i H3 ⟨_,h,_⟩=>h) ?_ ?_
  ·rintro i kv H3 hkv ⟨_,hf,k3,hl3⟩
   obtain ⟨n,en,e1,ev,t,et,ht⟩:=tb.at_ nk hkv
   have hn:=ig en
   have hi:i<r.1.length:=(hV.mp en).1
   have ekv:kV kv.1=.str n:=by rw [e1];rfl
   rw [ekv]
   obtain ⟨v,evp,x,rfl,fx⟩:=tb'.vals n hn
   have up:∀ b ob,H b=some ob->b≠d->H3 b=some ob:=λ b ob e ne=>k3 _ _ (s2 _ _ e) ne
   have ne:=nok n hn
   have ht3:=up _ _ ht (bz ht hd (by intro z;cases z))
   by_cases edd:d'=d
   ·subst edd
    rw [hd] at hd'
    cases hd'
    rw [evp,et] at ev
    cases ev
    obtain ⟨dx,fx⟩:=fx
    rw [ht] at fx
    cases fx
   have hd3:=up _ _ hd' edd
   have fx3:FrAt a.Fraction H3 x (vC (r.2 n)):=by
    obtain ⟨dx,fx⟩:=fx
    exact ⟨dx,up _ _ fx (bz fx hd (by intro z;cases z))⟩
   have sm:=ne.bd.smr (show 20<9000 by decide)
   refine g1 ⟨⟨[_],rfl,rfl⟩,yes ?_⟩
   refine ⟨_,rfl,_,rfl,d',.ref x,rfl,.inl ⟨kv',Sum.inr n,.inl hd3,rfl,evp.symm⟩,x,vC (r.2 n),rfl,fx3,λ t1 H4 s4 ht1=>?_⟩
   refine ⟨_,rfl,_,rfl,d,.ref t,rfl,.inl ⟨kvs,Sum.inr n,.inr ⟨o,s4 _ _ hf⟩,rfl,by rw [ev,et]⟩,t1,t,((vC (r.2 n)).num,((vC (r.2 n)).den:Int)),r.2 n,rfl,ht1,s4 _ _ ht3,?a1,?a2,?a3,?a4,λ u nu=>?_⟩
   case a1=>exact sm.1
   case a2=>exact sm.2
   case a3=>exact ne.sm.1
   case a4=>exact ne.sm.2
   refine ⟨u,_,_,_,rfl,rfl,SqT.of ac,rfl,rfl,?_⟩
   have e0:(decide (V.int ((vC (r.2 n)).num*(r.2 n).2-(r.2 n).1*((vC (r.2 n)).den:Int))=V.int 0))=true:=by rw [vC_cross (by have:=ne.b;omega),iM rfl]
   have s5:=s4.trans (aj (o:=.tup [.int ((vC (r.2 n)).num*(r.2 n).2-(r.2 n).1*((vC (r.2 n)).den:Int)),.int (((vC (r.2 n)).den:Int)*(r.2 n).2)]) nu)
   have hl5:=s5 _ _ hl3
   refine ⟨_,hl5,ax (by rw [hZ,jw];omega),dj (by rw [tb.len];exact hi) ⟨hi,by rw [ai ndl];exact s5 _ _ hf,λ b ob e nb=>by rw [ai (av e nl')];exact s5 _ _ (k3 _ _ e nb),?_⟩⟩
   rw [ac,List.replicate_succ',iu]
   exact i7 (λ b=>some (HO.lst (_++[V.bl b]))) e0
  ·rintro H3 ⟨_,hf,k3,hl3⟩
   have s3:Same H2 (upd H3 d (.dK kvs)):=λ b ob e=>by
    by_cases hb:b=d
    ·subst hb
     rw [ac,<- hd2,e]
    ·rw [ai hb]
     exact k3 _ _ e hb
   refine ⟨o,hf,l,_,rfl,SqL.of (by rw [ai ndl.symm];exact hl3),?_⟩
   rw [all_true]
   exact k _ (s2.trans s3)
theorem split46 {l1 l2 d1 d2:List Nat} (h1:¬ 46∈d1) (h2:¬ 46∈d2) (h:(l1++[46])++d1=(l2++[46])++d2):l1=l2/\d1=d2:=by
 rw [List.append_assoc,List.append_assoc] at h
 rcases List.append_eq_append_iff.mp h with ⟨as,e1,e2⟩ | ⟨as,e1,e2⟩
 ·cases as with
  | nil=>exact ⟨by rw [e1,jf],List.cons.inj e2 |>.2⟩
  | cons b bs=>
   have:d1=bs++46::d2:=(List.cons.inj e2).2
   exact absurd (by rw [this];simp) h1
 ·cases as with
  | nil=>exact ⟨by rw [e1,jf],(List.cons.inj e2).2.symm⟩
  | cons b bs=>
   have:d2=bs++46::d1:=(List.cons.inj e2).2
   exact absurd (by rw [this];simp) h2
theorem dig_nodot {t:Nat} (h:t<=13):¬ 46∈(Str.ofString (toString (t:Int))).cps.toList:=by
 have:∀ t:Fin 14,¬ 46∈(Str.ofString (toString ((t.val:Nat):Int))).cps.toList:=by decide +kernel
 exact this ⟨t,by omega⟩
theorem dig_inj {t u:Nat} (h:t<=13) (h':u<=13) (e:Str.ofString (toString (t:Int))=Str.ofString (toString (u:Int))):t=u:=by
 have:∀ t u:Fin 14,Str.ofString (toString ((t.val:Nat):Int))=Str.ofString (toString ((u.val:Nat):Int))->t.val=u.val:=by decide +kernel
 exact this ⟨t,by omega⟩ ⟨u,by omega⟩ e
theorem atT_inj {x y:Str} {t u:Nat} (ht:t<=13) (hu:u<=13) (h:atT x (t:Int)=atT y (u:Int)):x=y/\t=u:=by
 have h1:=i7 (λ u:Str=>u.cps.toList) h
 unfold atT at h1
 simp only [cps_app] at h1
 obtain ⟨e1,e2⟩:=split46 (dig_nodot ht) (dig_nodot hu) h1
 exact ⟨str_ext e1,dig_inj ht hu (str_ext e2)⟩
theorem esN_nm (es:List Ent) (ws:List bj) (i:Nat):(esN es ws (i+1)).map (·.1)=(esN es ws i).map (·.1)++(es.map (·.1)).map (λ x=>atT x ((i+1:Nat):Int)):=by
 show (esN es ws i++es.map _).map _=_
 rw [iu,iQ,iQ]
 rfl
theorem esN_in {es:List Ent} {ws:List bj}:∀ {i:Nat} {n:Str},n∈(esN es ws i).map (·.1)->∃ x j,x∈es.map (·.1)/\1<=j/\j<=i/\n=atT x ((j:Nat):Int)
 | 0,n,h=>absurd h ib
 | i+1,n,h=>by
  rw [esN_nm] at h
  rcases iS.mp h with h | h
  ·obtain ⟨x,j,a,b,c,d⟩:=esN_in h
   exact ⟨x,j,a,b,by omega,d⟩
  ·obtain ⟨x,hx,e⟩:=iy.mp h
   exact ⟨x,i+1,hx,by omega,ic _,e.symm⟩
theorem g8 {es:List Ent} {ws:List bj} {x:Str} {j:Nat} (hx:x∈es.map (·.1)) (h1:1<=j):∀ {i:Nat},j<=i->atT x ((j:Nat):Int)∈(esN es ws i).map (·.1)
 | 0,h=>by omega
 | i+1,h=>by
  rw [esN_nm]
  by_cases e:j=i+1
  ·subst e
   exact iD _ (iy.mpr ⟨x,hx,rfl⟩)
  ·exact iV _ (g8 hx h1 (by omega))
theorem map_nd {xs:List Str} (t:Int) (nd:xs.Nodup):(xs.map λ x=>atT x t).Nodup:=List.Pairwise.map _ (λ _ _ h=>atT_ne h) nd
theorem esN_nd {es:List Ent} {ws:List bj} (nd:(es.map (·.1)).Nodup):∀ {i:Nat},i<=13->((esN es ws i).map (·.1)).Nodup
 | 0,_=>List.nodup_nil
 | i+1,h=>by
  rw [esN_nm]
  refine jb.mpr ⟨esN_nd nd (by omega),map_nd _ nd,λ n hn m hm e=>?_⟩
  obtain ⟨x,j,_,_,c,d⟩:=esN_in hn
  obtain ⟨y,_,e2⟩:=iy.mp hm
  have:=(atT_inj (by omega) h (d.symm.trans (e.trans e2.symm))).2
  omega
theorem rsN_nm (rs:List W7) (ss:List S5) (n i:Nat):(rsN rs ss n (i+1)).map (·.nm)=(rsN rs ss n i).map (·.nm)++((rs.map (·.nm)++(if i+1<n then ss.map (·.nm) else [])).map (λ x=>atT x ((i+1:Nat):Int))):=by
 show (rsN rs ss n i++rs.map _++_).map _=_
 rw [iu,iu,iu,List.append_assoc,iQ,iQ]
 congr 2
 split
 ·rw [iQ,iQ]
  rfl
 ·rfl
theorem rsN_in {rs:List W7} {ss:List S5} {m:Nat}:∀ {i:Nat} {n:Str},n∈(rsN rs ss m i).map (·.nm)->∃ x j,1<=j/\j<=i/\n=atT x ((j:Nat):Int)
 | 0,n,h=>absurd h ib
 | i+1,n,h=>by
  rw [rsN_nm] at h
  rcases iS.mp h with h | h
  ·obtain ⟨x,j,b,c,d⟩:=rsN_in h
   exact ⟨x,j,b,by omega,d⟩
  ·obtain ⟨x,hx,e⟩:=iy.mp h
   exact ⟨x,i+1,by omega,ic _,e.symm⟩
theorem rsN_nd {rs:List W7} {ss:List S5} {m:Nat} (nd:(rs.map (·.nm)++ss.map (·.nm)).Nodup):∀ {i:Nat},i<=13->((rsN rs ss m i).map (·.nm)).Nodup
 | 0,_=>List.nodup_nil
 | i+1,h=>by
  rw [rsN_nm]
  refine jb.mpr ⟨rsN_nd nd (by omega),map_nd _ ?_,λ n hn m hm e=>?_⟩
  ·split
   ·exact nd
   ·rw [jf]
    exact (jb.mp nd).1
  ·obtain ⟨x,j,_,c,d⟩:=rsN_in hn
   obtain ⟨y,_,e2⟩:=iy.mp hm
   have:=(atT_inj (by omega) h (d.symm.trans (e.trans e2.symm))).2
   omega
theorem rsN_ln (rs:List W7) (ss:List S5) (n:Nat):∀ i,(rsN rs ss n i).length<=i*rs.length+min i (n-1)*ss.length
 | 0=>im _
 | i+1=>by
  have ih:=rsN_ln rs ss n i
  show (rsN rs ss n i++_++_).length<=_
  rw [ir,ir,hZ,Nat.succ_mul]
  split
  ·rw [hZ,show min (i+1) (n-1)=min i (n-1)+1 by omega,Nat.succ_mul]
   omega
  ·rw [List.length_nil]
   have:min i (n-1)*ss.length<=min (i+1) (n-1)*ss.length:=Nat.mul_le_mul_right _ (by omega)
   omega
theorem esN_ok {es:List Ent} {ws:List bj} {sp:List Str} (he:∀ e∈es,N50 e.2) (hw:∀ r∈ws,PRowOk sp r):∀ {i:Nat},i<=ws.length->∀ e∈esN es ws i,N50 e.2
 | 0,_=>λ e h=>absurd h ib
 | i+1,h=>λ e he'=>by
  rcases iS.mp he' with z | z
  ·exact esN_ok he hw (by omega) e z
  ·obtain ⟨e0,h0,rfl⟩:=iy.mp z
   show N50 (wantP _ e0)
   unfold wantP
   split
   ·rename_i hn
    rw [iR,ii (show i<ws.length by omega)] at hn ⊢
    exact (hw _ (List.getElem_mem _)).ok _ hn
   ·exact he _ h0
theorem rsN_ok {es:List Ent} {rs:List W7} {ss:List S5} {ws:List bj} {m:Nat} (m13:m<=12) (hr:∀ r∈rs,W7Ok (es.map (·.1)) r) (hs:∀ r∈ss,S5Ok (es.map (·.1)) r):∀ {i:Nat},i<=m->∀ r∈rsN rs ss m i,W7Ok ((esN es ws m).map (·.1)) r
 | 0,_=>λ e h=>absurd h ib
 | i+1,h=>λ r hr'=>by
  rcases iS.mp hr' with z | z
  ·rcases iS.mp z with z | z
   ·exact rsN_ok m13 hr hs (by omega) r z
   ·obtain ⟨r0,h0,rfl⟩:=iy.mp z
    have o:=hr r0 h0
    exact ⟨g8 o.st (by omega) h,g8 o.go (by omega) h,atT_ne o.ne,o.k0,o.k2,o.g1,o.g2,o.hi,o.co,o.kr⟩
  ·by_cases hi:i+1<m
   ·rw [if_pos hi] at z
    obtain ⟨r0,h0,rfl⟩:=iy.mp z
    have o:=hs r0 h0
    have g1:=o.g1
    have g2:=o.g2
    exact ⟨g8 o.pl (by omega) h,g8 (j:=i+2) o.pl (by omega) hi,λ e=>by
     have:=(atT_inj (t:=i+1) (u:=i+2) (by omega) (by omega) e).2
     omega,λ e=>absurd e (show ¬ (2:Int)=0 by decide),λ _=>g1.2,⟨g1.1,by show r0.gain.1<=997;omega⟩,⟨by show 1<=r0.gain.2;omega,by show r0.gain.2<=997;omega⟩,o.hi,o.co,by show (0:Int)<=2/\(2:Int)<4;decide⟩
   ·rw [if_neg hi] at z
    exact absurd z ib
theorem atD_W7 (t:Int) (r:W7):atD t r.d=(r7T t r).d:=by
 unfold W7.d r7T
 dsimp only
 split
 ·rfl
 ·split <;> rfl
theorem atD_S5 (t:Int) (r:S5):atD t r.d=(s5T t r).d:=rfl
theorem dsN_eq (rs:List W7) (ss:List S5) (n:Nat):∀ i,dsN (dsT rs) (ss.map S5.d) n i=dsT (rsN rs ss n i)
 | 0=>rfl
 | i+1=>by
  show dsN (dsT rs) (ss.map S5.d) n i++_++_=(rsN rs ss n i++_++_).map W7.d
  rw [dsN_eq rs ss n i,iu,iu]
  congr 1
  ·congr 1
   unfold dsT
   rw [iQ,iQ]
   exact List.map_congr_left λ r _=>atD_W7 _ r
  ·split
   ·rw [iQ,iQ]
    exact List.map_congr_left λ r _=>atD_S5 _ r
   ·rfl
theorem psN_eq (es:List Ent) (ws:List bj):∀ i,i<=ws.length->psN (psT es) (ws.map vR) i=psT (esN es ws i)
 | 0,_=>rfl
 | i+1,h=>by
  show psN (psT es) (ws.map vR) i++_=(esN es ws i++_).map _
  rw [psN_eq es ws i (by omega),iu]
  congr 1
  unfold psT
  rw [iQ,iQ,iR,iR,iq,ii (show i<ws.length by omega)]
  refine List.map_congr_left λ e _=>?_
  show (atT e.1 _,wantF (vR _) (e.1,vC e.2))=(atT e.1 _,vC (wantP _ e))
  unfold wantF wantP vR
  dsimp only [jm,Option.getD_some]
  split <;> rfl
structure Pure63 (n:Nat) (c1 c2:Int) (es:List Ent) (rs:List W7) (ss:List S5) (ws:List bj):Prop where
 n1:1<=n
 n4:n<=4
 le:es.length=n
 en:es.map (·.1)=cM c1 n
 eok:∀ e∈es,N50 e.2
 lr:rs.length<=n
 l1:n<2->rs.length=0
 rn:rs.map (·.nm)=cM c2 rs.length
 rok:∀ r∈rs,W7Ok (es.map (·.1)) r
 ls:ss.length<=max 2 n
 sn:ss.map (·.nm)=d9 c2 ss.length
 sok:∀ r∈ss,S5Ok (es.map (·.1)) r
 lw:ws.length<=12 / n
 wok:∀ r∈ws,PRowOk (es.map (·.1)) r
theorem gx (k c:Int):(bC k c).length<=50:=by
 obtain ⟨q1,q2⟩:=aN (c / 37) (show (0:Int)<4 by decide)
 obtain ⟨r1,r2⟩:=aN (c / 5) (show (0:Int)<9 by decide)
 obtain ⟨v1,v2⟩:=aN (c / 7) (show (0:Int)<3 by decide)
 have d1:0<=c / 5 % 9 / 8/\c / 5 % 9 / 8<=1:=by omega
 have e1:0<=c / 37 % 4*(1+c / 5 % 9 / 8*12)/\c / 37 % 4*(1+c / 5 % 9 / 8*12)<=39:=by
  have g1:0<=1+c / 5 % 9 / 8*12:=by omega
  have g2:1+c / 5 % 9 / 8*12<=13:=by omega
  refine ⟨Int.mul_nonneg q1 g1,Int.le_trans (Int.mul_le_mul (show c / 37 % 4<=3 by omega) g2 g1 (by decide)) (by decide)⟩
 have l1:(Txt.mul (⟨#[sgAt (c % 37)]⟩:Str) (c / 37 % 4*(1+c / 5 % 9 / 8*12))).length<=39:=by rw [len_cps,mul_cps,jw];omega
 have l2:(Txt.mul (⟨#[sgAt (c / 11 % 37)]⟩:Str) (c / 7 % 3)).length<=3:=by rw [len_cps,mul_cps,jw];omega
 unfold bC
 rw [iJ,iJ,gY]
 omega
theorem namesA_le7 {c:Int} {n:Nat} {x:Str} (h:x∈cM c n):x.length<=700:=by
 unfold cM at h
 obtain ⟨i,_,rfl⟩:=iy.mp h
 exact ie (gx _ _) (by decide)
theorem namesS_le7 {c:Int} {n:Nat} {x:Str} (h:x∈d9 c n):x.length<=700:=by
 unfold d9 at h
 obtain ⟨i,_,rfl⟩:=iy.mp h
 exact ie (gx _ _) (by decide)
theorem namesS_nd {c:Int} {n:Nat} (h:n<=10):(d9 c n).Nodup:=by
 unfold d9
 rw [List.nodup_iff_pairwise_ne,List.pairwise_map]
 refine (List.nodup_range (n:=n)).imp_of_mem ?_
 intro i j hi hj ne e
 have hi:=jT.mp hi
 have hj:=jT.mp hj
 have:=nameA_inj (by omega) (by omega) (by omega) (by omega) e
 exact ne (by omega)
section
variable {n:Nat} {c1 c2:Int} {es:List Ent} {rs:List W7} {ss:List S5} {ws:List bj}
theorem Pure63.lw12 (p:Pure63 n c1 c2 es rs ss ws):ws.length<=12:=ie p.lw (Nat.div_le_self _ _)
theorem Pure63.nde (p:Pure63 n c1 c2 es rs ss ws):(es.map (·.1)).Nodup:=by rw [p.en];exact gw (by have:=p.n4;omega)
theorem Pure63.nd (p:Pure63 n c1 c2 es rs ss ws):(rs.map (·.nm)++ss.map (·.nm)).Nodup:=by
 have:=p.n4
 have:=p.lr
 have:=p.ls
 rw [p.rn,p.sn]
 refine jb.mpr ⟨gw (by omega),namesS_nd (by omega),λ x hx y hy e=>?_⟩
 unfold cM at hx
 unfold d9 at hy
 obtain ⟨i,hi,rfl⟩:=iy.mp hx
 obtain ⟨j,hj,e2⟩:=iy.mp hy
 have hi:=jT.mp hi
 have hj:=jT.mp hj
 have:=nameA_inj (by omega) (by omega) (by omega) (by omega) (e2.trans e.symm)
 omega
theorem Pure63.tok (p:Pure63 n c1 c2 es rs ss ws):TOk es rs:=⟨by have:=p.le;have:=p.n4;omega,by have:=p.lr;have:=p.n4;omega,p.nde,(jb.mp p.nd).1,p.eok,p.rok⟩
theorem Pure63.tok2 (p:Pure63 n c1 c2 es rs ss ws):TOk (esN es ws ws.length) (rsN rs ss ws.length ws.length):=by
 have l12:=p.lw12
 have lw:=p.lw
 have ls:=p.ls
 have lr:=p.lr
 have l1:=p.l1
 have n1:=p.n1
 have n4:=p.n4
 refine ⟨?_,?_,esN_nd p.nde (by omega),rsN_nd p.nd (by omega),esN_ok p.eok p.wok (ic _),rsN_ok l12 p.rok p.sok (ic _)⟩
 ·rw [esN_len,p.le]
  exact ie (Nat.mul_le_mul_right _ lw) (Nat.div_mul_le_self _ _)
 ·refine ie (rsN_ln _ _ _ _) ?_
  have hm:min ws.length (ws.length-1)=ws.length-1:=by omega
  rw [hm]
  obtain rfl | rfl | rfl | rfl:n=1∨n=2∨n=3∨n=4:=by omega
  ·have:=i4 (show ws.length-1<=11 by omega) (show ss.length<=2 by omega)
   rw [l1 (by omega)]
   omega
  ·have:=i4 (show ws.length-1<=5 by omega) (show ss.length<=2 by omega)
   have:=i4 (show ws.length<=6 by omega) lr
   omega
  ·have:=i4 (show ws.length-1<=3 by omega) (show ss.length<=3 by omega)
   have:=i4 (show ws.length<=4 by omega) lr
   omega
  ·have:=i4 (show ws.length-1<=2 by omega) (show ss.length<=4 by omega)
   have:=i4 (show ws.length<=3 by omega) lr
   omega
theorem Pure63.lne (p:Pure63 n c1 c2 es rs ss ws) {x:Str} (h:x∈es.map (·.1)):x.length<=700:=namesA_le7 (c:=c1) (n:=n) (by rw [<- p.en];exact h)
theorem Pure63.lnr (p:Pure63 n c1 c2 es rs ss ws) {r:W7} (h:r∈rs):r.nm.length<=700:=namesA_le7 (c:=c2) (n:=rs.length) (by rw [<- p.rn];exact iy.mpr ⟨r,h,rfl⟩)
theorem Pure63.lns (p:Pure63 n c1 c2 es rs ss ws) {r:S5} (h:r∈ss):r.nm.length<=700:=namesS_le7 (c:=c2) (n:=ss.length) (by rw [<- p.sn];exact iy.mpr ⟨r,h,rfl⟩)
theorem hi_num {o:Option (Int × Int)} (h:∀ c,o=some c->0<=c.1/\N50 c):∀ x,o.map vC=some x->0<=x.num:=λ x e=>by
 cases o with
 | none=>cases e
 | some c=>
  cases e
  obtain ⟨h0,h1⟩:=h c rfl
  have:=h1.b
  exact gK (by omega) h0
theorem leak_ok {g:Int × Int} (h1:1<=g.1) (h2:g.1<=g.2) (h3:g.2<=997):fb (Rat.divInt (g.2-g.1) g.2):=⟨gK (by omega) (by omega),lt_one (by omega) (by omega),(Bd.divInt (n:=10) (by omega) (by omega)).smr (by decide)⟩
theorem Pure63.td (p:Pure63 n c1 c2 es rs ss ws):∀ x∈dsT rs,∀ t:Nat,t<=13->TrnOk x (t:Int):=λ x hx t ht=>by
 unfold dsT at hx
 obtain ⟨r,hr,rfl⟩:=iy.mp hx
 have o:=p.rok r hr
 obtain ⟨a1,a2⟩:=o.g1
 obtain ⟨b1,b2⟩:=o.g2
 refine ⟨λ _=>by rw [W7.d_st,W7.d_go];exact o.ne,λ e=>?_,?_,by rw [W7.d_hi];exact hi_num o.hi,by rw [W7.d_nm];exact p.lnr hr,by rw [W7.d_st];exact p.lne o.st,by rw [W7.d_go];exact p.lne o.go,cU (by omega),by rw [show (t:Int)+1=((t+1:Nat):Int) by omega];exact cU (by omega)⟩
 ·exfalso
  unfold W7.d at e
  split at e
  ·cases e
  ·split at e <;> cases e
 ·unfold W7.d
  split
  ·trivial
  ·split
   ·rename_i h2
    exact leak_ok a1 (o.k2 h2) b2
   ·exact pos_num (by omega) (by omega)
theorem Pure63.ts (p:Pure63 n c1 c2 es rs ss ws):∀ x∈ss.map S5.d,∀ t:Nat,t<=13->TrnOk x (t:Int):=λ x hx t ht=>by
 obtain ⟨r,hr,rfl⟩:=iy.mp hx
 have o:=p.sok r hr
 have g2:=o.g2
 refine ⟨λ e=>absurd rfl e,λ _=>rfl,leak_ok o.g1.1 o.g1.2 (by omega),hi_num o.hi,p.lns hr,p.lne o.pl,p.lne o.pl,cU (by omega),by rw [show (t:Int)+1=((t+1:Nat):Int) by omega];exact cU (by omega)⟩
end
end
end G
namespace G
open PySem L2
section
variable {P:Program} {w:World} {K:W.Frag} {mg:Str->Option Value} {base:Heap} {a:Ad}
inductive IspPlus (vs:List V) (H:Hp) (Q:VK):Prop
 | mk (p q:Addr) (n d m e:Int) (h1:vs=[.ref p,.ref q]) (h2:H p=some (.tup [.int n,.int d])) (h3:H q=some (.tup [.int m,.int e])) (h4:Sm n) (h5:Sm d) (h6:Sm m) (h7:Sm e) (h8:∀ r,H r=none->Q (.ref r) (upd H r (.tup [.int (n*e+m*d),.int (d*e)]))):IspPlus vs H Q
noncomputable def spPlus (K:W.Frag):Sp:=λ vs H Q _=>IspPlus vs H Q
theorem ok_law_plus (T:TX K mg a):FnB P w K mg base CX0 "_law_plus" 1 ["_law_one","_law_other"] (spPlus K):=by
 refine T.d_law_plus.ok sc_law_plus (λ vs H Q E h=>?_) (λ f cdv A outer s H vs Q E hr h=>?_)
 ·obtain ⟨_,_,_,_,_,_,rfl,_⟩:=h
  rfl
 ·obtain ⟨p,q,n,d,m,e,rfl,hp,hq,sn,sd,sm,se,k⟩:=h
  refine ⟨_,(ah (aw (aV (aa (ak aJ (ak aQ (aD az (pv 0) ae (λ _ _=>rfl)) (aD az (pv 1) ae (λ _ _=>rfl))) (ak aQ (aD az (pv 1) ae (λ _ _=>rfl)) (aD az (pv 0) ae (λ _ _=>rfl)))) (aa (ak aQ (aD az (pv 0) ae (λ _ _=>rfl)) (aD az (pv 1) ae (λ _ _=>rfl))) ad))))),?_⟩
  try dsimp only [aK,Cx.nox,Cx.wish]
  refine ⟨_,rfl,p,_,_,_,rfl,rfl,SqT.of hp,rfl,_,rfl,q,_,_,_,rfl,rfl,SqT.of hq,rfl,_,_,rfl,rfl,⟨sn,se⟩,?_⟩
  refine ⟨_,rfl,q,_,_,_,rfl,rfl,SqT.of hq,rfl,_,rfl,p,_,_,_,rfl,rfl,SqT.of hp,rfl,_,_,rfl,rfl,⟨sm,sd⟩,_,_,rfl,rfl,?_⟩
  refine ⟨_,rfl,p,_,_,_,rfl,rfl,SqT.of hp,rfl,_,rfl,q,_,_,_,rfl,rfl,SqT.of hq,rfl,_,_,rfl,rfl,⟨sd,se⟩,by show 2<=sizeLine;decide,λ r nr=>k r nr⟩
inductive IspTimes (vs:List V) (H:Hp) (Q:VK):Prop
 | mk (p q:Addr) (n d m e:Int) (h1:vs=[.ref p,.ref q]) (h2:H p=some (.tup [.int n,.int d])) (h3:H q=some (.tup [.int m,.int e])) (h4:Sm n) (h5:Sm d) (h6:Sm m) (h7:Sm e) (h8:∀ r,H r=none->Q (.ref r) (upd H r (.tup [.int (n*m),.int (d*e)]))):IspTimes vs H Q
noncomputable def spTimes (K:W.Frag):Sp:=λ vs H Q _=>IspTimes vs H Q
theorem ok_law_times (T:TX K mg a):FnB P w K mg base CX0 "_law_times" 1 ["_law_one","_law_other"] (spTimes K):=by
 refine T.d_law_times.ok sc_law_times (λ vs H Q E h=>?_) (λ f cdv A outer s H vs Q E hr h=>?_)
 ·obtain ⟨_,_,_,_,_,_,rfl,_⟩:=h
  rfl
 ·obtain ⟨p,q,n,d,m,e,rfl,hp,hq,sn,sd,sm,se,k⟩:=h
  refine ⟨_,(ah (aw (aV (aa (ak aQ (aD az (pv 0) ae (λ _ _=>rfl)) (aD az (pv 1) ae (λ _ _=>rfl))) (aa (ak aQ (aD az (pv 0) ae (λ _ _=>rfl)) (aD az (pv 1) ae (λ _ _=>rfl))) ad))))),?_⟩
  try dsimp only [aK,Cx.nox,Cx.wish]
  refine ⟨_,rfl,p,_,_,_,rfl,rfl,SqT.of hp,rfl,_,rfl,q,_,_,_,rfl,rfl,SqT.of hq,rfl,_,_,rfl,rfl,⟨sn,sm⟩,?_⟩
  refine ⟨_,rfl,p,_,_,_,rfl,rfl,SqT.of hp,rfl,_,rfl,q,_,_,_,rfl,rfl,SqT.of hq,rfl,_,_,rfl,rfl,⟨sd,se⟩,by show 2<=sizeLine;decide,λ r nr=>k r nr⟩
theorem gP:∀ {xs ys:List Str},xs.Nodup->(∀ n∈xs,n∈ys)->xs.length<=ys.length
 | [],_,_,_=>im _
 | x::xs,ys,nd,h=>by
  obtain ⟨h1,h2⟩:=List.nodup_cons.mp nd
  have hx:=h x (by simp)
  have:=gP (ys:=ys.erase x) h2 λ n hn=>(List.mem_erase_of_ne (λ e=>h1 (by rw [<- e];exact hn))).mpr (h n (by simp [hn]))
  rw [List.length_erase_of_mem hx] at this
  have:=List.length_pos_of_mem hx
  rw [ja]
  omega
structure PlnOk (r:bj) (m:Nat):Prop where
 nd:r.1.Nodup
 ok:∀ n∈r.1,N50 (r.2 n)
 len:r.1.length<=m
inductive IspPlan65 (K:W.Frag) (vs:List V) (H:Hp) (Q:VK):Prop
 | mk (l lw:Addr) (ns:List Int) (tw:List V) (rs:List W7) (h1:vs=[.ref l,.ref lw]) (h2:SqL K H l (ns.map V.int)) (h3:SqL K H lw tw) (h4:RowAt W7Is H tw rs) (h5:rs.length<=24) (h6:(rs.map (·.nm)).Nodup) (h7:∀ d H' r,H d=none->Same H H'->DcpIs H' (.ref d) r->PlnOk r 24->(∀ n∈r.1,n∈rs.map (·.nm))->Q (.ref d) H'):IspPlan65 K vs H Q
noncomputable def spPlan65 (K:W.Frag):Sp:=λ vs H Q _=>IspPlan65 K vs H Q
theorem ok_law_plan (T:TX K mg a):FnB P w K mg base CX0 "_law_plan" 2 ["_law_script","_law_ways"] (spPlan65 K):=by
 refine T.d_law_plan.ok sc_law_plan (λ vs H Q E h=>?_) (λ f cdv A outer s H vs Q E hr h=>?_)
 ·obtain ⟨_,_,_,_,_,rfl,_⟩:=h
  rfl
 ·obtain ⟨l,lw,ns,tw,rs,rfl,hS,hW,hrs,l24,nd,k⟩:=h
  refine ⟨_,(ag (au (i:=2) sc_law_plan.nd rfl (Or.inl rfl) bL)
   (ag (aR ix rfl (pi_enum (by rfl) T.z_enumerate (aa (pv 1) ad)) (dm rfl (aF (aq (i:=3) sc_law_plan.nd rfl (Or.inl rfl)) (aF (aq (i:=4) sc_law_plan.nd rfl (Or.inl rfl)) cG))) (ag (au (i:=5) sc_law_plan.nd rfl (Or.inl rfl) (ay (aA T) hr am (aa (pv 0) (aa (ak aJ ae (pv 3)) ad))))
   (ah (aS (aG op_gt (ak aL (pv 5) ae) ae (aM _)) (ah (bw (aZ hr) (pv 2) (aD az (pv 4) ae (λ _ _=>rfl)) (ay (cW T) hr am (aa (ak aY (pv 5) ae) ad)) rfl)) aE))))
   (ah (aw (pv 2))))),?_⟩
  try dsimp only [aK,Cx.nox,Cx.wish]
  have ltw:tw.length=rs.length:=hrs.1
  intro d nd0
  have s3:=aj (o:=.dK []) nd0
  have hd0:upd H d (.dK []) d=some (.dK []):=ac
  generalize upd H d (.dK [])=H3 at s3 hd0 ⊢
  refine ⟨_,rfl,lw,tw,rfl,s3.seq hW,for_enum (K:=K) (a:=lw) (xs:=tw) (λ j σ H4=>j<=rs.length/\∃ z3 z4 z5 kvs ks g,σ=[some (.ref l),some (.ref lw),some (.ref d),z3,z4,z5]/\Same H H4/\H4 d=some (.dK kvs)/\Tab DueIs H4 kvs ks g/\ks.Nodup/\(∀ m∈ks,m∈(rs.map (·.nm)).take j/\N50 (g m))/\ks.length<=j) ⟨im _,_,_,_,[],[],λ _=>(0,1),rfl,s3,hd0,Tab.nil,List.nodup_nil,λ m hm=>absurd hm ib,im _⟩ (λ j σ H4 ⟨_,_,_,_,_,_,_,_,s4,_⟩=>s4.seq hW) ?_ ?_⟩
  ·rintro j x tt σ H4 hx ntt ⟨_,z3,z4,z5,kvs,ks,g,rfl,s4,hd4,tb,nk,kin,lks⟩
   obtain ⟨e,ee,he⟩:=hrs.get hx
   have hj:j<rs.length:=(hV.mp ee).1
   obtain ⟨te,vg,vh,vc,rfl,hte,_⟩:=he.mono s4
   have s5':=aj (o:=.tup [.int (j:Int),.ref te]) ntt
   have htt:upd H4 tt (.tup [.int (j:Int),.ref te]) tt=some (.tup [.int (j:Int),.ref te]):=ac
   have hd5:=s5' _ _ hd4
   have tb5:=tb.mono λ v x z=>DueIs.mono z s5'
   generalize upd H4 tt (.tup [.int (j:Int),.ref te])=H5 at s5' htt hd5 tb5 ⊢
   have s5:=s4.trans s5'
   have en:(rs.map (·.nm))[j]?=some e.nm:=by rw [iq,ee];rfl
   obtain ⟨tk,nkk⟩:=bE nd en
   have nin:¬ e.nm∈ks:=λ z=>nkk (kin _ z).1
   refine ⟨tt,_,rfl,SqT.of htt,rfl,_,_,rfl,_,_,rfl,rfl,?_⟩
   refine ⟨_,rfl,_,rfl,_,_,rfl,rfl,l,ns,50+j,?c1,s5.seq hS,by omega,?_⟩
   case c1=>rw [show ((50+j:Nat):Int)=50+(j:Int) by omega];rfl
   refine ⟨_,rfl,_,_,rfl,rfl,by show (0:Int)<4;decide,_,_,rfl,rfl,_,rfl,?_⟩
   generalize aP ns (50+j)=cg
   refine ifB (λ h3=>?_) (λ h3=>?_)
   ·refine ⟨_,rfl,_,_,rfl,rfl,⟨by decide,by decide⟩,_,rfl,λ z pz npz nz=>?_⟩
    have s6:=aj (o:=.tup [.int z.1,.int z.2]) npz
    have hz:upd H5 pz (.tup [.int z.1,.int z.2]) pz=some (.tup [.int z.1,.int z.2]):=ac
    have hd6:=s6 _ _ hd5
    have tb6:=tb5.mono λ v x z=>DueIs.mono z s6
    generalize upd H5 pz (.tup [.int z.1,.int z.2])=H6 at s6 hz hd6 tb6 ⊢
    have lk:kvs.length<=900:=by rw [tb.len];omega
    refine ⟨_,rfl,_,rfl,te,_,_,_,rfl,rfl,SqT.of ((s5'.trans s6) _ _ hte),rfl,d,_,rfl,DPut.k (k:=Sum.inr e.nm) hd6 (ax (by omega)),?_⟩
    have ko:KeepO H6 (upd H6 d (.dK (bo kvs (Sum.inr e.nm) (.ref pz)))):=.dct hd6
    refine ⟨hj,_,_,_,_,ks++[e.nm],upf g e.nm z,rfl,aC nd0 (s5.trans s6),ac,?_,?_,?_,?_⟩
    ·rw [<- cu nin]
     exact Tab.put (n:=e.nm) (tb6.mono λ v x z=>DueIs.ko z ko) (DueIs.ko ⟨pz,rfl,hz⟩ ko)
    ·exact jb.mpr ⟨nk,by simp,λ x hx y hy=>by rw [i5.mp hy];exact λ z=>nin (z ▸ hx)⟩
    ·intro m hm
     rw [tk]
     by_cases em:m=e.nm
     ·subst em
      rw [fY]
      exact ⟨iD _ (by simp),nz⟩
     ·rw [upf_ne em]
      rcases iS.mp hm with q | q
      ·exact ⟨iV _ (kin m q).1,(kin m q).2⟩
      ·exact absurd (i5.mp q) em
    ·rw [ir];show ks.length+1<=j+1;omega
   ·exact ⟨hj,_,_,_,kvs,ks,g,rfl,s5,hd5,tb5,nk,λ m hm=>⟨by rw [tk];exact iV _ (kin m hm).1,(kin m hm).2⟩,by omega⟩
  ·rintro σ H4 ⟨_,z3,z4,z5,kvs,ks,g,rfl,s4,hd4,tb,nk,kin,lks⟩
   exact ⟨_,rfl,k d H4 (ks,g) nd0 s4 ⟨d,kvs,rfl,hd4,tb,nk⟩ ⟨nk,λ m hm=>(kin m hm).2,by show ks.length<=24;omega⟩ λ m hm=>List.mem_of_mem_take (kin m hm).1⟩
theorem n50_one:N50 ((1:Int),(1:Int)):=⟨by decide,by decide,by decide⟩
theorem n50_zero:N50 ((0:Int),(1:Int)):=⟨by decide,by decide,by decide⟩
inductive IspPutIn (vs:List V) (H:Hp) (Q:VK):Prop
 | mk (d:Addr) (r:bj) (n:Str) (at_:Int) (m:Nat) (h1:vs=[.ref d,.str n,.int at_]) (h2:DcpIs H (.ref d) r) (h3:PlnOk r m) (h4:m<=50) (h5:∀ d' H' r',H d'=none->Same H H'->DcpIs H' (.ref d') r'->PlnOk r' (m+1)->n∈r'.1->(∀ x∈r.1,x∈r'.1)->(∀ x∈r'.1,x=n∨x∈r.1)->Q (.ref d') H'):IspPutIn vs H Q
noncomputable def spPutIn:Sp:=λ vs H Q _=>IspPutIn vs H Q
theorem ok_law_put_in (T:TX K mg a):FnB P w K mg base CX0 "_law_put_in" 2 ["_law_plan_here","_law_name_here","_law_at"] spPutIn:=by
 refine T.d_law_put_in.ok sc_law_put_in (λ vs H Q E h=>?_) (λ f cdv A outer s H vs Q E hr h=>?_)
 ·obtain ⟨_,_,_,_,_,rfl,_⟩:=h
  rfl
 ·obtain ⟨d,r,n,at_,m,rfl,⟨d0,kvs,e0,hd,tb,nk⟩,ok,m50,k⟩:=h
  cases e0
  refine ⟨_,(ag (au (i:=3) sc_law_put_in.nd rfl (Or.inl rfl) bL)
   (aX (eR (aR ix rfl (pi_enumD (by rfl) T.z_enumerate (aa (pv 0) ad)) (dm rfl (aF (aq (i:=4) sc_law_put_in.nd rfl (Or.inl rfl)) (aF (aq (i:=5) sc_law_put_in.nd rfl (Or.inl rfl)) cG))) (aX (aS (aG dZ (pv 4) (pv 2) (aM _)) (ah (bw (aZ hr) (pv 3) (pv 1) (aV (aa ae (aa ae ad))) rfl)) aE)
   (ah (bw (aZ hr) (pv 3) (pv 5) (cH (aZ hr) (pv 0) (pv 5) (λ _ _=>rfl)) rfl)))))
   (ag (bw (aZ hr) (pv 3) (pv 1) (eL (aZ hr) (pv 3) (pv 1) (aV (aa ae (aa ae ad))) ⟨rfl,rfl,rfl,rfl⟩) rfl)
   (ah (aw (pv 3)))))),?_⟩
  try dsimp only [aK,Cx.nox,Cx.wish]
  have lr:=ok.len
  intro d' nd'
  have s1:=aj (o:=.dK []) nd'
  have hd1:upd H d' (.dK []) d'=some (.dK []):=ac
  have hd1':=s1 _ _ hd
  have tb1:=tb.mono λ v x z=>DueIs.mono z s1
  generalize upd H d' (.dK [])=H1 at s1 hd1 hd1' tb1 ⊢
  have ndd:d≠d':=λ z=>by rw [z,nd'] at hd;cases hd
  refine ⟨λ σ' H'=>∃ z4 z5 kv2 ks g,σ'=[some (.ref d),some (.str n),some (.int at_),some (.ref d'),z4,z5]/\Same H H'/\H' d'=some (.dK kv2)/\Tab DueIs H' kv2 ks g/\ks.Nodup/\(∀ x∈ks,N50 (g x))/\(∀ x∈ks,x∈r.1∨x=n)/\(∀ x∈r.1,x∈ks),?_,?_⟩
  ·refine ⟨d,.dK kvs,hd1',(by intro o z e;cases e),_,rfl,d,kvs,rfl,hd1',λ o=>?_⟩
   refine for_enumD (a:=d) (o:=o) (kvs:=kvs) (λ i σ H2=>i<=r.1.length/\∃ z4 z5 kv2 ks g,σ=[some (.ref d),some (.str n),some (.int at_),some (.ref d'),z4,z5]/\H2 d=some (.frz o (.dK kvs))/\(∀ b ob,H b=some ob->b≠d->H2 b=some ob)/\H2 d'=some (.dK kv2)/\Tab DueIs H2 kv2 ks g/\ks.Nodup/\(∀ x∈ks,N50 (g x))/\(∀ x∈ks,x∈r.1.take i∨x=n)/\(∀ x∈r.1.take i,x∈ks)) ⟨im _,_,_,[],[],λ _=>(0,1),rfl,ac,(λ b ob e ne=>by rw [ai ne];exact s1 _ _ e),by rw [ai ndd.symm];exact hd1,Tab.nil,List.nodup_nil,(λ x hx=>absurd hx ib),(λ x hx=>absurd hx ib),λ x hx=>by rw [List.take_zero] at hx;exact absurd hx ib⟩ (λ i σ H2 _ ⟨_,_,_,_,_,_,_,h,_⟩=>h) ?_ ?_
   ·rintro i kv t σ H2 hkv nt ⟨_,z4,z5,kv2,ks,g,rfl,hf,k2,hd2,tb2,nk2,gok,kin,kall⟩
    obtain ⟨x,ex,e1,ev,pq,epq,hpq⟩:=tb1.at_ nk hkv
    have hi:i<r.1.length:=(hV.mp ex).1
    have ekv:kV kv.1=.str x:=by rw [e1];rfl
    rw [ekv]
    have s3:=aj (o:=.tup [.int (i:Int),.str x]) nt
    have ht:upd H2 t (.tup [.int (i:Int),.str x]) t=some (.tup [.int (i:Int),.str x]):=ac
    have hf3:=s3 _ _ hf
    have hd3:=s3 _ _ hd2
    have tb3:=tb2.mono λ v x z=>DueIs.mono z s3
    have k3:∀ b ob,H b=some ob->b≠d->upd H2 t (.tup [.int (i:Int),.str x]) b=some ob:=λ b ob e ne=>s3 _ _ (k2 _ _ e ne)
    generalize upd H2 t (.tup [.int (i:Int),.str x])=H3 at ht hf3 hd3 tb3 k3 ⊢
    obtain ⟨tk,_⟩:=bE nk ex
    refine ⟨t,_,rfl,SqT.of ht,rfl,_,_,rfl,_,_,rfl,rfl,?_⟩
    refine ⟨λ σ' H'=>∃ kv2 ks g,σ'=[some (.ref d),some (.str n),some (.int at_),some (.ref d'),some (.int (i:Int)),some (.str x)]/\H' d=some (.frz o (.dK kvs))/\(∀ b ob,H b=some ob->b≠d->H' b=some ob)/\H' d'=some (.dK kv2)/\Tab DueIs H' kv2 ks g/\ks.Nodup/\(∀ x∈ks,N50 (g x))/\(∀ x∈ks,x∈r.1.take i∨x=n)/\(∀ x∈r.1.take i,x∈ks),?_,?_⟩
    ·refine ⟨_,rfl,_,rfl,rfl,_,rfl,?_⟩
     by_cases hat:V.int (i:Int)=V.int at_
     ·refine iteC (iM hat) ?_
      refine ⟨by show 2<=sizeLine;decide,λ p np=>?_⟩
      have s4:=aj (o:=.tup [.int 1,.int 1]) np
      have hp:upd H3 p (.tup [.int 1,.int 1]) p=some (.tup [.int 1,.int 1]):=ac
      have hd4:=s4 _ _ hd3
      have hf4:=s4 _ _ hf3
      have tb4:=tb3.mono λ v x z=>DueIs.mono z s4
      have k4:∀ b ob,H b=some ob->b≠d->upd H3 p (.tup [.int 1,.int 1]) b=some ob:=λ b ob e ne=>s4 _ _ (k3 _ _ e ne)
      generalize upd H3 p (.tup [.int 1,.int 1])=H4 at hp hd4 hf4 tb4 k4 ⊢
      have lk:kv2.length<=900:=by
       rw [tb2.len]
       exact ie (gP nk2 (ys:=n::r.1) λ y hy=>(kin y hy).elim (λ z=>iZ _ (List.mem_of_mem_take z)) (λ z=>by rw [z];simp)) (by show r.1.length+1<=900;omega)
      refine ⟨_,rfl,_,rfl,d',_,rfl,DPut.k (k:=Sum.inr n) hd4 (ax (by omega)),?_⟩
      have ko:KeepO H4 (upd H4 d' (.dK (bo kv2 (Sum.inr n) (.ref p)))):=.dct hd4
      refine ⟨_,fW ks n,upf g n (1,1),rfl,by rw [ai ndd];exact hf4,(λ b ob e ne=>by rw [ai (av e nd')];exact k4 _ _ e ne),ac,Tab.put (n:=n) (tb4.mono λ v x z=>DueIs.ko z ko) (DueIs.ko ⟨p,rfl,hp⟩ ko),gJ nk2,λ y hy=>?_,λ y hy=>?_,λ y hy=>mem_addK.mpr (.inl (kall y hy))⟩
      ·unfold upf
       split
       ·exact n50_one
       ·rename_i ne
        exact gok y ((mem_addK.mp hy).resolve_right ne)
      ·rcases mem_addK.mp hy with z | z
       ·exact kin y z
       ·exact .inr z
     ·exact fM (iF hat) ⟨kv2,ks,g,rfl,hf3,k3,hd3,tb3,nk2,gok,kin,kall⟩
    clear hd3 tb3 hf3 k3 ht hd2 tb2 hf k2 s3 nk2 gok kin kall
    rintro σ' H4 ⟨kv3,ks3,g3,rfl,hf4,k4,hd4,tb4,nk3,gok,kin,kall⟩
    have hpq4:DueIs H4 kv.2 (r.2 x):=by
     obtain ⟨v0,e0,p0,e1',f0⟩:=tb.vals x (ig ex)
     rw [ev] at e0
     cases e0
     exact ⟨p0,e1',k4 _ _ f0 (bz f0 hd (by intro z;cases z))⟩
    have lk:kv3.length<=900:=by
     rw [tb4.len]
     exact ie (gP nk3 (ys:=n::r.1) λ y hy=>(kin y hy).elim (λ z=>iZ _ (List.mem_of_mem_take z)) (λ z=>by rw [z];simp)) (by show r.1.length+1<=900;omega)
    refine ⟨_,rfl,_,rfl,d,_,rfl,.inl ⟨kvs,Sum.inr x,.inr ⟨o,hf4⟩,rfl,ev.symm⟩,?_⟩
    refine ⟨_,rfl,_,rfl,d',_,rfl,DPut.k (k:=Sum.inr x) hd4 (ax (by omega)),?_⟩
    have ko:KeepO H4 (upd H4 d' (.dK (bo kv3 (Sum.inr x) kv.2))):=.dct hd4
    refine ⟨hi,_,_,_,fW ks3 x,upf g3 x (r.2 x),rfl,by rw [ai ndd];exact hf4,(λ b ob e ne=>by rw [ai (av e nd')];exact k4 _ _ e ne),ac,Tab.put (n:=x) (tb4.mono λ v x z=>DueIs.ko z ko) (DueIs.ko hpq4 ko),gJ nk3,λ y hy=>?_,λ y hy=>?_,λ y hy=>?_⟩
    ·unfold upf
     split
     ·exact ok.ok x (ig ex)
     ·rename_i ne
      exact gok y ((mem_addK.mp hy).resolve_right ne)
    ·rw [tk]
     rcases mem_addK.mp hy with z | z
     ·exact (kin y z).imp (λ q=>iV _ q) id
     ·exact .inl (iD _ (by rw [z];simp))
    ·rw [tk] at hy
     rcases iS.mp hy with z | z
     ·exact mem_addK.mpr (.inl (kall y z))
     ·exact mem_addK.mpr (.inr (i5.mp z))
   ·rintro σ H2 ⟨_,z4,z5,kv2,ks,g,rfl,hf,k2,hd2,tb2,nk2,gok,kin,kall⟩
    rw [tb.len,iB] at kin kall
    have ko:KeepO H2 (upd H2 d (.dK kvs)):=KeepO.thaw hf
    refine ⟨o,hf,_,_,kv2,ks,g,rfl,(λ b ob e=>?_),by rw [ai ndd.symm];exact hd2,tb2.mono λ v x z=>DueIs.ko z ko,nk2,gok,kin,kall⟩
    by_cases hb:b=d
    ·subst hb
     rw [ac,<- hd,e]
    ·rw [ai hb]
     exact k2 _ _ e hb
  rintro σ' H2 ⟨z4,z5,kv2,ks,g,rfl,s2,hd2,tb2,nk2,gok,kin,kall⟩
  have lk1:ks.length<=r.1.length+1:=gP nk2 (ys:=n::r.1) λ y hy=>(kin y hy).elim (λ z=>iZ _ z) (λ z=>by rw [z];simp)
  refine ⟨_,rfl,d',rfl,.inl ⟨kv2,.inl hd2⟩,_,rfl,by show 2<=sizeLine;decide,λ p np=>?_⟩
  have s3:=aj (o:=.tup [.int 0,.int 1]) np
  have hp:upd H2 p (.tup [.int 0,.int 1]) p=some (.tup [.int 0,.int 1]):=ac
  have hd3:=s3 _ _ hd2
  have tb3:=tb2.mono λ v x z=>DueIs.mono z s3
  generalize upd H2 p (.tup [.int 0,.int 1])=H3 at s3 hp hd3 tb3 ⊢
  refine ⟨_,DGet.k (k:=Sum.inr n) hd3,?_⟩
  obtain ⟨c,hc,nc⟩:∃ c,DueIs H3 ((bY kv2 (Sum.inr n)).getD (.ref p)) c/\N50 c:=by
   by_cases hn:n∈ks
   ·obtain ⟨v,ev,r'⟩:=tb3.vals n hn
    rw [ev]
    exact ⟨_,r',gok n hn⟩
   ·rw [tb3.none hn]
    exact ⟨(0,1),⟨p,rfl,hp⟩,n50_zero⟩
  generalize (bY kv2 (Sum.inr n)).getD (.ref p)=vl at hc ⊢
  have lk:kv2.length<=900:=by rw [tb2.len];omega
  refine ⟨_,rfl,_,rfl,d',_,rfl,DPut.k (k:=Sum.inr n) hd3 (ax (by omega)),?_⟩
  have ko:KeepO H3 (upd H3 d' (.dK (bo kv2 (Sum.inr n) vl))):=.dct hd3
  have nk4:(fW ks n).Nodup:=gJ nk2
  have l4:(fW ks n).length<=m+1:=ie (gP nk4 (ys:=n::r.1) λ y hy=>(mem_addK.mp hy).elim (λ z=>(kin y z).elim (λ z=>iZ _ z) (λ z=>by rw [z];simp)) (λ z=>by rw [z];simp)) (by show r.1.length+1<=m+1;omega)
  refine ⟨_,rfl,k d' _ (fW ks n,upf g n c) nd' (aC nd' (s2.trans s3)) ⟨d',_,rfl,ac,Tab.put (n:=n) (tb3.mono λ v x z=>DueIs.ko z ko) (DueIs.ko hc ko),nk4⟩ ⟨nk4,λ y hy=>?_,l4⟩ (mem_addK.mpr (.inr rfl)) (λ y hy=>mem_addK.mpr (.inl (kall y hy))) λ y hy=>(mem_addK.mp hy).elim (λ z=>(kin y z).symm) .inl⟩
  show N50 (upf g n c y)
  unfold upf
  split
  ·exact nc
  ·rename_i ne
   exact gok y ((mem_addK.mp hy).resolve_right ne)
theorem inV_str (x:Str):∀ ts:List Str,inV (.str x) (ts.map V.str)=decide (x∈ts)
 | []=>rfl
 | t::ts=>by
  have ih:=inV_str x ts
  unfold inV at ih ⊢
  rw [jp,List.any_cons,ih,eqV_str,Bool.eq_iff_iff]
  rw [Bool.or_eq_true,decide_eq_true_iff,decide_eq_true_iff,decide_eq_true_iff,iw]
  exact ⟨λ h=>h.imp Eq.symm id,λ h=>h.imp Eq.symm id⟩
theorem first_of {p:Str->Bool}:∀ (l:List Str),(∃ n∈l,p n=true)->∃ (i:Nat) (n:Str),l[i]?=some n/\p n=true/\(∀ (j:Nat) (m:Str),j<i->l[j]?=some m->p m=false)/\∃ tl,l.filter p=n::tl
 | [],h=>by obtain ⟨n,h,_⟩:=h;exact absurd h ib
 | x::l,h=>by
  by_cases hx:p x=true
  ·exact ⟨0,x,rfl,hx,λ j m hj=>absurd hj (Nat.not_lt_zero _),_,jI hx⟩
  ·have hf:p x=false:=by simpa using hx
   obtain ⟨n,hn,pn⟩:=h
   obtain ⟨i,m,h1,h2,h3,tl,h4⟩:=first_of l ⟨n,(iw.mp hn).resolve_left (λ e=>by rw [e,hf] at pn;cases pn),pn⟩
   refine ⟨i+1,m,by simpa using h1,h2,λ j q hj hq=>?_,tl,by rw [jJ hx];exact h4⟩
   cases j with
   | zero=>simp at hq;rw [<- hq];exact hf
   | succ j=>exact h3 j q (by omega) (by simpa using hq)
inductive IspFirst (K:W.Frag) (vs:List V) (H:Hp) (Q:VK):Prop
 | mk (d lw:Addr) (r:bj) (tw:List V) (rs:List W7) (h1:vs=[.ref d,.ref lw]) (h2:DcpIs H (.ref d) r) (h3:r.1.length<=60) (h4:SqL K H lw tw) (h5:RowAt W7Is H tw rs) (h6:rs.length<=60) (h7:(∃ n∈r.1,¬ n∈rs.map (·.nm))) (h8:∀ (H':Hp) (i:Nat) (n:Str),Same H H'->r.1[i]?=some n->¬ n∈rs.map (·.nm)->(∀ (j:Nat) (m:Str),j<i->r.1[j]?=some m->m∈rs.map (·.nm))->Q (.str n) H'):IspFirst K vs H Q
noncomputable def spFirst (K:W.Frag):Sp:=λ vs H Q _=>IspFirst K vs H Q
theorem ok_law_first (T:TX K mg a):FnB P w K mg base CX0 "_law_first" 1 ["_law_plan_here","_law_ways"] (spFirst K):=by
 refine T.d_law_first.ok sc_law_first (λ vs H Q E h=>?_) (λ f cdv A outer s H vs Q E hr h=>?_)
 ·obtain ⟨_,_,_,_,_,rfl,_⟩:=h
  rfl
 ·obtain ⟨d,lw,r,tw,rs,rfl,⟨d0,kvs,e0,hd,tb,nk⟩,l60,hW,hrs,lr60,hex,k⟩:=h
  cases e0
  refine ⟨_,(aX (au (i:=2) sc_law_first.nd rfl (Or.inr rfl) (cV (xs:=["_law_way_here"]) (rest:=[]) rfl (aU (pv 1))
   (λ pins fp C' s' H'=>(aq (i:=0) (show (["_law_way_here"]:List Str).Nodup by decide +kernel) rfl (Or.inl rfl))) (λ pins fp C' s' H'=>cF)
   (λ pins fp C' s' H'=>(aD (r:=rIxT K) az (pv 0) ae (λ _ _=>rfl)))
   (Clos.none (by decide +kernel) (by decide +kernel)) (Reads.many (ys:=[]) (js:=[]) True.intro)))
   (ag (eR (eK (i:=3) (xs:=["_law_name_here"]) (rest:=["_law_names"]) sc_law_first.nd rfl rfl rfl (eS (pv 0))
   (λ pins fp C' s' H'=>(aq (i:=0) (show (["_law_name_here","_law_names"]:List Str).Nodup by decide +kernel) rfl (Or.inl rfl))) (λ pins fp C' s' H'=>(pts_one (aG (op_notInK (K:=K) rfl) (pv 0) (pv 1) (by with_unfolding_all rfl))))
   (λ pins fp C' s' H'=>(pv 0))
   (Clos.many (ys:=["_law_names"]) rfl ⟨rfl,True.intro⟩ rfl (by decide +kernel)) (Reads.many (ys:=["_law_names"]) (js:=[2]) ⟨⟨rfl,rfl,rfl⟩,True.intro⟩)))
   (ah (aw (aD fL (pv 3) ae (λ _ _=>rfl)))))),?_⟩
  try dsimp only [aK,Cx.nox,Cx.wish]
  refine ⟨λ σ' H'=>∃ ln,σ'=[some (.ref d),some (.ref lw),some (.ref ln),none]/\Same H H'/\H' ln=some (.lst ((rs.map (·.nm)).map V.str)),?_,?_⟩
  ·refine ⟨_,rfl,lw,rfl,⟨_,hW⟩,λ q nq=>?_⟩
   refine bB (K:=K) (a:=lw) (xs:=tw) (λ i H2=>i<=rs.length/\Same H H2/\H2 q=some (.lst (((rs.take i).map (·.nm)).map V.str))) ⟨im _,aj nq,ac⟩ (λ i H2 ⟨_,s2,_⟩=>s2.seq hW) ?_ ?_
   ·rintro i x H2 hx ⟨_,s2,h2⟩
    obtain ⟨e,ee,he⟩:=hrs.get hx
    have hi:i<rs.length:=(hV.mp ee).1
    obtain ⟨te,vg,vh,vc,rfl,hte,_⟩:=he.mono s2
    refine g1 ⟨⟨[_],rfl,rfl⟩,yes ?_⟩
    refine ⟨_,rfl,te,_,_,_,rfl,rfl,SqT.of hte,rfl,_,h2,ax (by rw [hZ,hZ,iz];omega),dj (by rw [hrs.1];exact hi) ⟨hi,aC nq s2,?_⟩⟩
    rw [ac,iH,ee,iE,iu,iu]
    rfl
   ·rintro H2 ⟨_,s2,h2⟩
    rw [hrs.1,iB] at h2
    exact ⟨q,rfl,s2,h2⟩
  rintro σ' H1 ⟨ln,rfl,s1,hln⟩
  have hd1:=s1 _ _ hd
  have tb1:=tb.mono λ v x z=>DueIs.mono z s1
  refine ⟨d,.dK kvs,hd1,(by intro o z e;cases e),_,rfl,d,kvs,rfl,hd1,λ o l nl=>?_⟩
  have ndl:d≠l:=λ z=>by rw [z,ac] at nl;cases nl
  have nl':H1 l=none:=by rw [ai ndl.symm] at nl;exact nl
  have lnd:ln≠d:=λ z=>by rw [z,hd1] at hln;cases hln
  refine gN (a:=d) (o:=o) (kvs:=kvs) (λ i H2=>i<=r.1.length/\H2 d=some (.frz o (.dK kvs))/\(∀ b ob,H1 b=some ob->b≠d->H2 b=some ob)/\H2 l=some (.lst (((r.1.take i).filter (λ n=>decide (¬ n∈rs.map (·.nm)))).map V.str)))
   ⟨im _,by rw [ai ndl,ac],(λ b ob e ne=>by rw [ai (av e nl'),ai ne];exact e),ac⟩ (λ i H2 ⟨_,h,_⟩=>h) ?_ ?_
  ·rintro i kv H2 hkv ⟨_,hf,k2,hl2⟩
   obtain ⟨n,en,e1,ev,_⟩:=tb1.at_ nk hkv
   have hi:i<r.1.length:=(hV.mp en).1
   have ekv:kV kv.1=.str n:=by rw [e1];rfl
   rw [ekv]
   have hln2:=k2 _ _ hln lnd
   refine g1 ⟨⟨[_],rfl,rfl⟩,?_⟩
   have tk:(r.1.take (i+1)).filter (λ n=>decide (¬ n∈rs.map (·.nm)))=(r.1.take i).filter (λ n=>decide (¬ n∈rs.map (·.nm)))++[n].filter (λ n=>decide (¬ n∈rs.map (·.nm))):=by
    rw [iH,en,iE,List.filter_append]
   have ll:((r.1.take i).filter (λ n=>decide (¬ n∈rs.map (·.nm)))).length<=60:=ie (List.length_filter_le _ _) (by rw [iz];omega)
   refine ⟨_,rfl,_,rfl,ln,_,rfl,.inl (SqL.of hln2),rfl,fA _,_,rfl,?_⟩
   by_cases hin:n∈rs.map (·.nm)
   ·refine fM (show (!inV _ _)=false by rw [inV_str,iM hin];rfl) ?_
    refine dj (by rw [tb1.len];exact hi) ⟨hi,hf,k2,?_⟩
    rw [tk,jJ (by simpa using hin),jL,jf]
    exact hl2
   ·refine iteC (show (!inV _ _)=true by rw [inV_str,iF hin];rfl) ?_
    refine ⟨_,rfl,_,hl2,ax (by rw [hZ];omega),dj (by rw [tb1.len];exact hi) ⟨hi,by rw [ai ndl];exact hf,(λ b ob e ne=>by rw [ai (av e nl')];exact k2 _ _ e ne),?_⟩⟩
    rw [ac,tk,iu,jI (by simpa using hin)]
    rfl
  ·rintro H2 ⟨_,hf,k2,hl2⟩
   rw [tb1.len,iB] at hl2
   refine ⟨o,hf,?_⟩
   have s2:Same H1 (upd H2 d (.dK kvs)):=λ b ob e=>by
    by_cases hb:b=d
    ·subst hb
     rw [ac,<- hd1,e]
    ·rw [ai hb]
     exact k2 _ _ e hb
   obtain ⟨i,n,e1,e2,e3,tl,e4⟩:=first_of (p:=λ n=>decide (¬ n∈rs.map (·.nm))) r.1 (let ⟨n,h1,h2⟩:=hex;⟨n,h1,iM h2⟩)
   have hl3:upd H2 d (.dK kvs) l=some (.lst ((n::tl).map V.str)):=by rw [ai ndl.symm,hl2,e4]
   exact ⟨_,rfl,l,_,_,_,rfl,rfl,SqL.of hl3,(show atI ((n::tl).map V.str) ((0:Nat):Int)=some (V.str n) from atI_nat rfl),k _ i n (s1.trans s2) e1 (of_decide_eq_true e2) λ j m hj hm=>Classical.not_not.mp λ z=>absurd (iM z) (by rw [e3 j m hj hm];decide)⟩
inductive IspRef65 (K:W.Frag) (a:Ad) (vs:List V) (H:Hp) (Q:VK):Prop
 | mk (p ls lw d:Addr) (ps:List (Str × Rat)) (ds ss:List WD) (ws:List ck) (ts tw:List V) (r:ck) (i:Nat) (n:Str) (h1:vs=[.ref p,.ref ls,.ref lw,.ref d]) (h2:ByIn K a H p ls lw d ps ds ss ws ts tw r) (h3:r.1[i]?=some n) (h4:¬ n∈(dsN ds ss ws.length ws.length).map (·.nm)) (h5:(∀ (j:Nat) (m:Str),j<i->r.1[j]?=some m->m∈(dsN ds ss ws.length ws.length).map (·.nm))) (h6:n.length<=1000) (h7:∀ H',(∀ b u,H b=some u->b≠d->H' b=some u)->Q (.str n) H'):IspRef65 K a vs H Q
noncomputable def spRef65 (K:W.Frag) (a:Ad):Sp:=λ vs H Q _=>IspRef65 K a vs H Q
theorem ok_law_refused (T:TX K mg a):FnB P w K mg base CX0 "_law_refused" 11 ["_law_net_here","_law_stores_here","_law_rows","_law_plan_here"] (spRef65 K a):=by
 refine T.d_law_refused.ok sc_law_refused (λ vs H Q E h=>?_) (λ f cdv A outer s H vs Q E hr h=>?_)
 ·obtain ⟨_,_,_,_,_,_,_,_,_,_,_,_,_,rfl,_⟩:=h
  rfl
 ·obtain ⟨p,ls,lw,d,ps,ds,ss,ws,ts,tw,r,i,n,rfl,B,e1,nin,ahead,ln,k⟩:=h
  refine ⟨_,(ag (au (i:=4) sc_law_refused.nd rfl (Or.inl rfl) dQ)
   (ag (ps_try (pssx_one (psx_expr (px_fn (ok_by_turnsX T) hr (aa (pv 0) (aa (pv 1) (aa (pv 2) (aa (pv 3) ad))))))) (ph_as (i:=5) (by rfl) T.mg_NoWay ⟨T.ca1_NoWay,T.ca2_NoWay,T.ca3_NoWay⟩ sc_law_refused.nd rfl rfl (λ x=>(ah (au (i:=4) sc_law_refused.nd rfl (Or.inl rfl) (pe_xfldK (K:=K) rfl (pv 5) rfl)))) ph_never))
   (ah (aw (pv 4))))),?_⟩
  try dsimp only [aK,Cx.nox,Cx.wish]
  refine ⟨_,rfl,_,rfl,_,rfl,_,rfl,p,ls,lw,d,ps,ds,ss,ws,ts,tw,r,i,n,rfl,B,e1,nin,ahead,ln,λ H' dx h1 h2=>?_⟩
  refine ⟨a.NoWay,true,rfl,T.su_NoWay_NoWay,iteT ?_⟩
  intro x nx
  have s1:=aj (o:=XO x a.NoWay (some dx)) nx
  exact ⟨_,rfl,x,a.NoWay,dx,_,.str n,rfl,ac,s1 _ _ h2,T.exa_NoWay,T.hd_NoWay,T.na_NoWay_name,rfl,_,rfl,k _ λ b u e ne=>s1 _ _ (h1 b u e ne)⟩
theorem dot0 (x:Str):x ++ ".0"=atT x 0:=by
 unfold atT
 rw [Str.append_assoc]
 rfl
inductive IspStrange (K:W.Frag) (vs:List V) (H:Hp) (Q:VK):Prop
 | mk (R:Str->Prop) (t lp lw ls:Addr) (tp tw ts:List V) (es:List Ent) (rs:List W7) (ss:List S5) (m:Nat) (c:Int) (n:Str) (h1:vs=[.ref t,.ref ls,.int m,.int c,.str n]) (h2:Told H t lp lw tp tw es rs) (h3:SqL K H ls ts) (h4:RowAt S5Is H ts ss) (h5:rs.length<=12) (h6:ss.length<=12) (h7:m<=12) (h8:R n) (h9:(∀ r∈rs,r.nm.length<=700/\R r.nm/\R (atT r.nm 0)/\R (atT r.nm ((m+1:Nat):Int)))) (h10:(∀ r∈ss,r.nm.length<=700/\R r.nm/\R (atT r.nm 0)/\R (atT r.nm (m:Int)))) (h11:∀ (H':Hp) (x:Str),Same H H'->R x->Q (.str x) H'):IspStrange K vs H Q
noncomputable def spStrange (K:W.Frag):Sp:=λ vs H Q _=>IspStrange K vs H Q
theorem ok_law_strange (T:TX K mg a):FnB P w K mg base CX0 "_law_strange" 2 ["_law_told","_law_stores_here","_law_turns","_law_cell","_law_name_here"] (spStrange K):=by
 refine T.d_law_strange.ok sc_law_strange (λ vs H Q E h=>?_) (λ f cdv A outer s H vs Q E hr h=>?_)
 ·obtain ⟨_,_,_,_,_,_,_,_,_,_,_,_,_,_,rfl,_⟩:=h
  rfl
 ·obtain ⟨R,t,lp,lw,ls,tp,tw,ts,es,rs,ss,m,c,n,rfl,td,hS,hss,l12,ls12,m12,Rn,Rr,Rs,k⟩:=h
  refine ⟨_,(ag (au (i:=5) sc_law_strange.nd rfl (Or.inl rfl) (dR (aa (pv 4) ad)))
   (aX (aR ix rfl (aU (aD az (pv 0) ae (λ _ _=>rfl))) (aq (i:=6) sc_law_strange.nd rfl (Or.inl rfl)) (ah (aT (eV iO PySem.F.slot_list_extend PySem.F.type_list_extend fz (pv 5) (aa (dR (aa (aD az (pv 6) ae (λ _ _=>rfl)) (aa (ak aI (aD az (pv 6) ae (λ _ _=>rfl)) dQ) (aa (ak aI (ak aI (aD az (pv 6) ae (λ _ _=>rfl)) dQ) (bX b4 (by rfl) T.z_str jk (aa (ak aJ (pv 2) ae) ad))) ad)))) ad)))))
   (aX (aR ix rfl (aU (pv 1)) (aq (i:=7) sc_law_strange.nd rfl (Or.inl rfl)) (ah (aT (eV iO PySem.F.slot_list_extend PySem.F.type_list_extend fz (pv 5) (aa (dR (aa (aD az (pv 7) ae (λ _ _=>rfl)) (aa (ak aI (aD az (pv 7) ae (λ _ _=>rfl)) dQ) (aa (ak aI (ak aI (aD az (pv 7) ae (λ _ _=>rfl)) dQ) (bX b4 (by rfl) T.z_str jk (aa (pv 2) ad))) ad)))) ad)))))
   (ah (aw (aD fL (pv 5) (ak aL (pv 3) (aH a8 (by rfl) T.z_len iU (aa (pv 5) ad))) (λ _ _=>rfl))))))),?_⟩
  try dsimp only [aK,Cx.nox,Cx.wish]
  refine ⟨_,rfl,by show 1<=sizeLine;decide,λ l nl=>?_⟩
  have s1:=aj (o:=.lst [.str n]) nl
  have h1:upd H l (.lst [.str n]) l=some (.lst [.str n]):=ac
  generalize upd H l (.lst [.str n])=H1 at s1 h1 ⊢
  have sl:(700:Nat)+300<=sizeLine:=by rw [iK];decide
  refine ⟨λ σ' H'=>∃ (z6:Option V) (xs:List Str),σ'=[some (.ref t),some (.ref ls),some (.int m),some (.int c),some (.str n),some (.ref l),z6,none]/\Same H H'/\H' l=some (.lst (xs.map V.str))/\(∀ x∈xs,R x)/\1<=xs.length/\xs.length<=40,?_,?_⟩
  ·refine ⟨_,rfl,t,_,_,_,rfl,rfl,SqT.of (s1 _ _ td.ht),rfl,lw,rfl,⟨_,SqL.of (s1 _ _ td.hw)⟩,bn (K:=K) (a:=lw) (xs:=tw) (λ i σ H2=>i<=rs.length/\∃ (z6:Option V) (xs:List Str),σ=[some (.ref t),some (.ref ls),some (.int m),some (.int c),some (.str n),some (.ref l),z6,none]/\Same H H2/\H2 l=some (.lst (xs.map V.str))/\(∀ x∈xs,R x)/\1<=xs.length/\xs.length<=1+3*i) ⟨im _,_,[n],rfl,s1,h1,(λ x hx=>by rw [i5.mp hx];exact Rn),ic _,ic _⟩ (λ i σ H2 _ ⟨_,_,_,_,s2,_⟩=>SqL.of (s2 _ _ td.hw)) ?_ ?_⟩
   ·rintro i x σ H2 hx ⟨_,z6,xs,rfl,s2,h2,Rx,x1,x2⟩
    obtain ⟨e,ee,he⟩:=td.rw.get hx
    have hi:i<rs.length:=(hV.mp ee).1
    obtain ⟨te,vg,vh,vc,rfl,hte,_⟩:=he.mono s2
    obtain ⟨le,R1,R2,R3⟩:=Rr e (ig ee)
    have tl:=(cU (t:=m+1) (by omega)).len
    refine ⟨_,rfl,.inl ⟨rfl,_,SqL.of h2⟩,?_⟩
    refine ⟨_,rfl,te,_,_,_,rfl,rfl,SqT.of hte,rfl,?_⟩
    refine ⟨_,rfl,te,_,_,_,rfl,rfl,SqT.of hte,rfl,_,_,rfl,rfl,?_,?_⟩
    ·show e.nm.length+2<=sizeLine
     omega
    refine ⟨_,rfl,te,_,_,_,rfl,rfl,SqT.of hte,rfl,_,_,rfl,rfl,?_,?_⟩
    ·show e.nm.length+1<=sizeLine
     omega
    refine ⟨_,rfl,_,_,rfl,rfl,_,rfl,(cU (t:=m+1) (by omega)).log,_,_,rfl,rfl,?_,by show 3<=sizeLine;decide,λ q nq=>?_⟩
    ·show (e.nm ++ ".").length+_<=sizeLine
     rw [iJ,show (".":Str).length=1 from rfl]
     exact ie (jK tl _) (by omega)
    have e3:([V.str e.nm,V.str (e.nm ++ ".0"),V.str (e.nm ++ "." ++ Str.ofString (toString ((m:Int)+1)))]:List V)=([e.nm,atT e.nm 0,atT e.nm (((m+1:Nat):Int))]:List Str).map V.str:=by
     rw [dot0]
     rfl
    have s3:=aj (o:=.lst ([e.nm,atT e.nm 0,atT e.nm (((m+1:Nat):Int))].map V.str)) nq
    have hq:upd H2 q (.lst ([e.nm,atT e.nm 0,atT e.nm (((m+1:Nat):Int))].map V.str)) q=some (.lst ([e.nm,atT e.nm 0,atT e.nm (((m+1:Nat):Int))].map V.str)):=ac
    rw [e3]
    generalize upd H2 q (.lst ([e.nm,atT e.nm 0,atT e.nm (((m+1:Nat):Int))].map V.str))=H3 at s3 hq ⊢
    refine ⟨l,q,_,_,rfl,rfl,s3 _ _ h2,hq,ie (show _<=1000 by rw [hZ];show xs.length+3<=1000;omega) (Nat.le_of_lt (ax (ic 1000))),?_⟩
    refine ⟨hi,_,xs++[e.nm,atT e.nm 0,atT e.nm (((m+1:Nat):Int))],rfl,aC nl (s2.trans s3),by rw [ac,iu],λ y hy=>?_,by rw [ir];omega,by rw [ir];show xs.length+3<=_;omega⟩
    rcases iS.mp hy with z | z
    ·exact Rx y z
    ·simp only [iw,ib,i3] at z
     rcases z with rfl | rfl | rfl
     ·exact R1
     ·exact R2
     ·exact R3
   ·rintro σ H2 ⟨_,z6,xs,rfl,s2,h2,Rx,x1,x2⟩
    have lt:tw.length=rs.length:=td.rw.1
    exact ⟨_,xs,rfl,s2,h2,Rx,x1,by omega⟩
  rintro σ' H1' ⟨z6,xs0,rfl,s1',h1',Rx0,x10,x20⟩
  refine ⟨λ σ' H'=>∃ (z6 z7:Option V) (xs:List Str),σ'=[some (.ref t),some (.ref ls),some (.int m),some (.int c),some (.str n),some (.ref l),z6,z7]/\Same H H'/\H' l=some (.lst (xs.map V.str))/\(∀ x∈xs,R x)/\1<=xs.length/\xs.length<=80,?_,?_⟩
  ·refine ⟨_,rfl,ls,rfl,⟨_,s1'.seq hS⟩,bn (K:=K) (a:=ls) (xs:=ts) (λ i σ H2=>i<=ss.length/\∃ (z6 z7:Option V) (xs:List Str),σ=[some (.ref t),some (.ref ls),some (.int m),some (.int c),some (.str n),some (.ref l),z6,z7]/\Same H H2/\H2 l=some (.lst (xs.map V.str))/\(∀ x∈xs,R x)/\1<=xs.length/\xs.length<=40+3*i) ⟨im _,_,_,xs0,rfl,s1',h1',Rx0,x10,by omega⟩ (λ i σ H2 _ ⟨_,_,_,_,_,s2,_⟩=>s2.seq hS) ?_ ?_⟩
   ·rintro i x σ H2 hx ⟨_,z6,z7,xs,rfl,s2,h2,Rx,x1,x2⟩
    obtain ⟨e,ee,he⟩:=hss.get hx
    have hi:i<ss.length:=(hV.mp ee).1
    obtain ⟨te,vg,vh,vc,rfl,hte,_⟩:=he.mono s2
    obtain ⟨le,R1,R2,R3⟩:=Rs e (ig ee)
    have tl:=(cU (t:=m) (by omega)).len
    refine ⟨_,rfl,.inl ⟨rfl,_,SqL.of h2⟩,?_⟩
    refine ⟨_,rfl,te,_,_,_,rfl,rfl,SqT.of hte,rfl,?_⟩
    refine ⟨_,rfl,te,_,_,_,rfl,rfl,SqT.of hte,rfl,_,_,rfl,rfl,?_,?_⟩
    ·show e.nm.length+2<=sizeLine
     omega
    refine ⟨_,rfl,te,_,_,_,rfl,rfl,SqT.of hte,rfl,_,_,rfl,rfl,?_,?_⟩
    ·show e.nm.length+1<=sizeLine
     omega
    refine ⟨_,rfl,_,rfl,(cU (t:=m) (by omega)).log,_,_,rfl,rfl,?_,by show 3<=sizeLine;decide,λ q nq=>?_⟩
    ·show (e.nm ++ ".").length+_<=sizeLine
     rw [iJ,show (".":Str).length=1 from rfl]
     exact ie (jK tl _) (by omega)
    have e3:([V.str e.nm,V.str (e.nm ++ ".0"),V.str (e.nm ++ "." ++ Str.ofString (toString ((m:Int))))]:List V)=([e.nm,atT e.nm 0,atT e.nm ((m:Int))]:List Str).map V.str:=by
     rw [dot0]
     rfl
    have s3:=aj (o:=.lst ([e.nm,atT e.nm 0,atT e.nm ((m:Int))].map V.str)) nq
    have hq:upd H2 q (.lst ([e.nm,atT e.nm 0,atT e.nm ((m:Int))].map V.str)) q=some (.lst ([e.nm,atT e.nm 0,atT e.nm ((m:Int))].map V.str)):=ac
    rw [e3]
    generalize upd H2 q (.lst ([e.nm,atT e.nm 0,atT e.nm ((m:Int))].map V.str))=H3 at s3 hq ⊢
    refine ⟨l,q,_,_,rfl,rfl,s3 _ _ h2,hq,ie (show _<=1000 by rw [hZ];show xs.length+3<=1000;omega) (Nat.le_of_lt (ax (ic 1000))),?_⟩
    refine ⟨hi,_,_,xs++[e.nm,atT e.nm 0,atT e.nm ((m:Int))],rfl,aC nl (s2.trans s3),by rw [ac,iu],λ y hy=>?_,by rw [ir];omega,by rw [ir];show xs.length+3<=_;omega⟩
    rcases iS.mp hy with z | z
    ·exact Rx y z
    ·simp only [iw,ib,i3] at z
     rcases z with rfl | rfl | rfl
     ·exact R1
     ·exact R2
     ·exact R3
   ·rintro σ H2 ⟨_,z6,z7,xs,rfl,s2,h2,Rx,x1,x2⟩
    have lt:ts.length=ss.length:=hss.1
    exact ⟨_,_,xs,rfl,s2,h2,Rx,x1,by omega⟩
  rintro σ' H2 ⟨z6',z7,xs,rfl,s2,h2,Rx,x1,x2⟩
  have np:(0:Int)<((xs.map V.str).length:Int):=by rw [hZ];omega
  obtain ⟨a0,a1⟩:=aN c np
  obtain ⟨j,hj⟩:=iT a0
  have hj2:j<xs.length:=by rw [hj,hZ] at a1;omega
  have ex:xs[j]?=some xs[j]:=ii hj2
  refine ⟨_,rfl,_,rfl,_,rfl,l,_,rfl,.inl (SqL.of h2),_,_,rfl,rfl,np,l,_,_,_,rfl,rfl,SqL.of h2,?_,k H2 xs[j] s2 (Rx _ (List.getElem_mem hj2))⟩
  rw [hj]
  exact atI_nat (by rw [iq,ex];rfl)
noncomputable def prR (x:ck):bj:=(x.1,λ n=>((x.2 n).num,((x.2 n).den:Int)))
inductive IspPairs (a:Ad) (vs:List V) (H:Hp) (Q:VK):Prop
 | mk (v:V) (x:ck) (h1:vs=[v]) (h2:DctIs a H v x) (h3:x.1.length<=60) (h4:∀ d' H',H d'=none->Same H H'->DcpIs H' (.ref d') (prR x)->Q (.ref d') H'):IspPairs a vs H Q
noncomputable def spPairs (a:Ad):Sp:=λ vs H Q _=>IspPairs a vs H Q
theorem ok_law_pairs (T:TX K mg a):FnB P w K mg base CX0 "_law_pairs" 3 ["_law_told"] (spPairs a):=by
 refine T.d_law_pairs.ok sc_law_pairs (λ vs H Q E h=>?_) (λ f cdv A outer s H vs Q E hr h=>?_)
 ·obtain ⟨_,_,rfl,_⟩:=h
  rfl
 ·obtain ⟨v,r,rfl,⟨d,kvs,rfl,hd,tb,nk⟩,l60,k⟩:=h
  refine ⟨_,(ag (aS (e9 (d7 (aH (d6 (c:=.type "dict")) (by rfl) T.z_isinstance i6 (aa (pv 0) (aa (gu (v:=.ty "dict") (by rfl) T.z_dict PyProof.Rows.boot_dict rfl) ad))))) (ah (aw dr)) aE)
   (ag (au (i:=1) sc_law_pairs.nd rfl (Or.inl rfl) bL)
   (ag (eR (aR ix rfl (eS (pv 0)) (aq (i:=2) sc_law_pairs.nd rfl (Or.inl rfl)) (ag (bw (aZ hr) (pv 1) (pv 2) (ay (ok_law_pair T) hr am (aa (cH (aZ hr) (pv 0) (pv 2) (λ _ _=>rfl)) ad)) rfl)
   (ah (aS (PW.pt (pw_or (e9 (d7 (aH (d6 (c:=.type "str")) (by rfl) T.z_isinstance i6 (aa (pv 2) (aa (gu (v:=.ty "str") (by rfl) T.z_str jk rfl) ad))))) (gG (aG op_isN (cH (aZ hr) (pv 1) (pv 2) (λ _ _=>rfl)) dr (aM _))))) (ah (aw dr)) aE)))))
   (ah (aw (pv 1)))))),?_⟩
  try dsimp only [aK,Cx.nox,Cx.wish]
  refine ⟨_,rfl,_,_,_,_,rfl,(λ u h=>h),TyOf.dK hd,T.k_dict_dict,_,rfl,iteF ?_⟩
  intro d' nd'
  have s1:=aj (o:=.dK []) nd'
  have hd':upd H d' (.dK []) d'=some (.dK []):=ac
  generalize upd H d' (.dK [])=H1 at s1 hd' ⊢
  have ndd:d'≠d:=λ z=>by rw [z,hd] at nd';cases nd'
  have hd1:=s1 _ _ hd
  refine ⟨d,.dK kvs,hd1,(by intro o z e;cases e),_,rfl,d,kvs,rfl,hd1,λ o=>?_⟩
  refine gj (a:=d) (o:=o) (kvs:=kvs) (λ j σ H3=>j<=r.1.length/\∃ z2 kv',σ=[some (.ref d),some (.ref d'),z2]/\H3 d=some (.frz o (.dK kvs))/\(∀ b ob,H b=some ob->b≠d->H3 b=some ob)/\H3 d'=some (.dK kv')/\Tab DueIs H3 kv' (r.1.take j) (prR r).2)
   ⟨im _,_,[],rfl,ac,(λ b ob e ne=>by rw [ai ne];exact s1 _ _ e),by rw [ai ndd];exact hd',Tab.nil⟩ (λ j σ H3 _ ⟨_,_,_,_,h,_⟩=>h) ?_ ?_
  ·rintro j kv σ H3 hkv ⟨_,z2,kv',rfl,hf,k3,hd3,tb3⟩
   obtain ⟨n,en,e1,ev,t,et,dq,ht⟩:=tb.at_ nk hkv
   have hj:j<r.1.length:=(hV.mp en).1
   have ekv:kV kv.1=.str n:=by rw [e1];rfl
   rw [ekv]
   have ht3:FrAt a.Fraction H3 t (r.2 n):=⟨dq,k3 _ _ ht (bz ht hd (by intro z;cases z))⟩
   obtain ⟨tk,nkk⟩:=bE nk en
   have lk:kv'.length<=900:=by rw [tb3.len,iz];omega
   have rd:DGet H3 d (kV (Sum.inr n)) (some (.ref t)):=.inl ⟨kvs,Sum.inr n,.inr ⟨o,hf⟩,rfl,by rw [ev,et]⟩
   refine ⟨_,rfl,_,rfl,d,.ref t,rfl,rd,t,r.2 n,rfl,ht3,λ q H4 s4 hq=>?_⟩
   have hd4:=s4 _ _ hd3
   refine ⟨_,rfl,_,rfl,d',_,rfl,DPut.k (k:=Sum.inr n) hd4 (ax (by omega)),?_⟩
   have ko:KeepO H4 (upd H4 d' (.dK (bo kv' (Sum.inr n) (.ref q)))):=.dct hd4
   have tb5:Tab DueIs (upd H4 d' (.dK (bo kv' (Sum.inr n) (.ref q)))) (bo kv' (Sum.inr n) (.ref q)) (r.1.take (j+1)) (prR r).2:=by
    rw [tk,<- cu nkk]
    exact (Tab.put (n:=n) (y:=(prR r).2 n) (tb3.mono λ v x z=>DueIs.ko (DueIs.mono z s4) ko) (DueIs.ko ⟨q,rfl,hq⟩ ko)).congr λ m hm=>by
     by_cases em:m=n
     ·subst em
      rw [fY]
     ·rw [upf_ne em]
   have hd5:upd H4 d' (.dK (bo kv' (Sum.inr n) (.ref q))) d'=some (.dK (bo kv' (Sum.inr n) (.ref q))):=ac
   obtain ⟨v5,ev5,p5,rfl,f5⟩:=tb5.vals n (by rw [tk];exact iD _ (by simp))
   have hf5:upd H4 d' (.dK (bo kv' (Sum.inr n) (.ref q))) d=some (.frz o (.dK kvs)):=by rw [ai ndd.symm];exact s4 _ _ hf
   have k5:∀ b ob,H b=some ob->b≠d->upd H4 d' (.dK (bo kv' (Sum.inr n) (.ref q))) b=some ob:=λ b ob e nb=>by rw [ai (λ z=>by rw [z,nd'] at e;cases e)];exact s4 _ _ (k3 _ _ e nb)
   generalize upd H4 d' (.dK (bo kv' (Sum.inr n) (.ref q)))=H5 at tb5 hd5 f5 hf5 k5 ⊢
   refine ⟨_,rfl,_,_,_,_,rfl,(λ u h=>h),TyOf.str n,T.k_str_str,_,rfl,iteF ?_⟩
   refine ⟨_,rfl,_,rfl,d',.ref p5,rfl,.inl ⟨_,Sum.inr n,.inl hd5,rfl,ev5.symm⟩,rfl,_,rfl,iteF ?_⟩
   exact ⟨hj,_,_,rfl,hf5,k5,hd5,tb5⟩
  ·rintro σ H3 ⟨_,z2,kv',rfl,hf,k3,hd3,tb3⟩
   rw [tb.len,iB] at tb3
   have ko:KeepO H3 (upd H3 d (.dK kvs)):=KeepO.thaw hf
   refine ⟨o,hf,_,rfl,k d' _ nd' (λ b ob e=>?_) ⟨d',kv',rfl,by rw [ai ndd];exact hd3,tb3.mono λ v x z=>DueIs.ko z ko,nk⟩⟩
   by_cases hb:b=d
   ·subst hb
    rw [ac,<- hd,e]
   ·rw [ai hb]
    exact k3 _ _ e hb
structure Alk (x:ck) (r:bj):Prop where
 ks:x.1=r.1
 eq:∀ n∈r.1,x.2 n=vC (r.2 n)
 sx:∀ n∈r.1,SmR (x.2 n)
 sr:∀ n∈r.1,Sm (r.2 n).1/\Sm (r.2 n).2/\(r.2 n).2≠0
 len:r.1.length<=60
inductive IspAlike (a:Ad) (vs:List V) (H:Hp) (Q:VK):Prop
 | mk (v u:V) (x:ck) (r:bj) (h1:vs=[v,u]) (h2:DctIs a H v x) (h3:DcpIs H u r) (h4:Alk x r) (h5:∀ H',Same H H'->Q (.bl true) H'):IspAlike a vs H Q
noncomputable def spAlike (a:Ad):Sp:=λ vs H Q _=>IspAlike a vs H Q
theorem ok_law_alike (T:TX K mg a):FnB P w K mg base CX0 "_law_alike" 4 ["_law_found","_law_due_here"] (spAlike a):=by
 refine T.d_law_alike.ok sc_law_alike (λ vs H Q E h=>?_) (λ f cdv A outer s H vs Q E hr h=>?_)
 ·obtain ⟨_,_,_,_,rfl,_⟩:=h
  rfl
 ·obtain ⟨v,u,x,r,rfl,hv,⟨d,kvs,rfl,hd,tb,nk⟩,A1,k⟩:=h
  refine ⟨_,(ag (au (i:=2) sc_law_alike.nd rfl (Or.inr rfl) (ay (ok_law_pairs T) hr am (aa (pv 0) ad)))
   (ag (aS (PW.pt (pw_or (aG op_isN (pv 2) dr (aM _)) (gG (aG (op_neL hr.units0) (aH (fE hr.hd) (by rfl) T.z_sorted PyProof.Rows.boot_sorted (aa (pv 2) ad)) (aH (fE hr.hd) (by rfl) T.z_sorted PyProof.Rows.boot_sorted (aa (pv 1) ad)) (aM _))))) (ah (aw f9)) aE)
   (ah (aw (aH (call_allK (K:=K) rfl hr.hd) (by rfl) T.z_all PyProof.Rows.boot_all (aa (pe_thaw (cV (xs:=["_law_name_here"]) (rest:=["_law_due_here","_law_pairs_here"]) rfl (eS (pv 1))
   (λ pins fp C' s' H'=>(aq (i:=0) (show (["_law_name_here","_law_due_here","_law_pairs_here"]:List Str).Nodup by decide +kernel) rfl (Or.inl rfl))) (λ pins fp C' s' H'=>cF)
   (λ pins fp C' s' H'=>(pe_cmpR dZ (aD (r:=rIxT K) az (ay (ok_law_less T) hr am (aa (cH (aZ hr) (pv 2) (pv 0) (λ _ _=>rfl)) (aa (cH (aZ hr) (pv 1) (pv 0) (λ _ _=>rfl)) ad))) ae (λ _ _=>rfl)) ae (aM _)))
   (Clos.many (ys:=["_law_pairs_here","_law_due_here"]) rfl ⟨rfl,rfl,True.intro⟩ rfl (by decide +kernel)) (Reads.many (ys:=["_law_due_here","_law_pairs_here"]) (js:=[1,2]) ⟨⟨rfl,rfl,rfl⟩,⟨rfl,rfl,rfl⟩,True.intro⟩))) ad)))))),?_⟩
  try dsimp only [aK,Cx.nox,Cx.wish]
  have l60:=A1.len
  refine ⟨_,rfl,v,x,rfl,hv,by rw [A1.ks];exact l60,λ d' H0 nd' s0 hp0=>?_⟩
  obtain ⟨d2,kv',e0,hd',tb',_⟩:=hp0
  cases e0
  have hd0:=s0 _ _ hd
  have ndd:d'≠d:=λ z=>by rw [z,hd] at nd';cases nd'
  refine ⟨_,rfl,rfl,_,rfl,iteF ?_⟩
  refine ⟨_,rfl,d',kv',r.1,rfl,.inl hd',by rw [tb'.keys,<- A1.ks];rfl,by rw [tb'.len];show x.1.length<64;rw [A1.ks];omega,λ p ss np p1 p2=>?_⟩
  have s1:=s0.trans (aj (o:=.lst (ss.map V.str)) np)
  have hp:upd H0 p (.lst (ss.map V.str)) p=some (.lst (ss.map V.str)):=ac
  have hd1':=aj (o:=.lst (ss.map V.str)) np _ _ hd'
  have tb1':=tb'.mono λ v x z=>DueIs.mono z (aj (o:=.lst (ss.map V.str)) np)
  generalize upd H0 p (.lst (ss.map V.str))=H1 at s1 hp hd1' tb1' ⊢
  refine ⟨_,rfl,d,kvs,r.1,rfl,.inl (s1 _ _ hd),tb.keys,by rw [tb.len];omega,λ q ss' nq q1 q2=>?_⟩
  obtain rfl:=sorted_uniq p1 q1 p2 q2
  have s2:=s1.trans (aj (o:=.lst (ss.map V.str)) nq)
  have hq:upd H1 q (.lst (ss.map V.str)) q=some (.lst (ss.map V.str)):=ac
  have hp2:=aj (o:=.lst (ss.map V.str)) nq _ _ hp
  have hd2':=aj (o:=.lst (ss.map V.str)) nq _ _ hd1'
  have tb2':=tb1'.mono λ v x z=>DueIs.mono z (aj (o:=.lst (ss.map V.str)) nq)
  generalize upd H1 q (.lst (ss.map V.str))=H2 at s2 hq hp2 hd2' tb2' ⊢
  refine ⟨p,q,_,_,rfl,rfl,SqL.of hp2,SqL.of hq,fA _,fA _,_,rfl,fM (by rw [eqVs_strs];rfl) ?_⟩
  have hd2:=s2 _ _ hd
  have tb2:=tb.mono λ v x z=>DueIs.mono z s2
  clear hp hp2 hq hd1' tb1' hd' tb' hd0
  refine ⟨d,.dK kvs,hd2,(by intro o z e;cases e),_,rfl,d,kvs,rfl,hd2,λ o l nl=>?_⟩
  have ndl:d≠l:=λ z=>by rw [z,ac] at nl;cases nl
  have nl':H2 l=none:=by rw [ai ndl.symm] at nl;exact nl
  refine gN (a:=d) (o:=o) (kvs:=kvs) (λ i H3=>i<=r.1.length/\H3 d=some (.frz o (.dK kvs))/\(∀ b ob,H2 b=some ob->b≠d->H3 b=some ob)/\H3 l=some (.lst ((List.replicate i true).map V.bl)))
   ⟨im _,by rw [ai ndl,ac],(λ b ob e ne=>by rw [ai (av e nl'),ai ne];exact e),ac⟩ (λ i H3 ⟨_,h,_⟩=>h) ?_ ?_
  ·rintro i kv H3 hkv ⟨_,hf,k3,hl3⟩
   obtain ⟨n,en,e1,ev,t,et,ht⟩:=tb2.at_ nk hkv
   have hn:=ig en
   have hi:i<r.1.length:=(hV.mp en).1
   have ekv:kV kv.1=.str n:=by rw [e1];rfl
   rw [ekv]
   obtain ⟨v',evp,t1,rfl,ht1⟩:=tb2'.vals n (show n∈x.1 by rw [A1.ks];exact hn)
   have ht3:=k3 _ _ ht (bz ht hd2 (by intro z;cases z))
   have ht13:=k3 _ _ ht1 (bz ht1 hd2 (by intro z;cases z))
   have hd3:=k3 _ _ hd2' ndd
   obtain ⟨r1,r2,r3⟩:=A1.sr n hn
   have sx:=A1.sx n hn
   refine g1 ⟨⟨[_],rfl,rfl⟩,yes ?_⟩
   refine ⟨_,rfl,_,rfl,d',.ref t1,rfl,.inl ⟨kv',Sum.inr n,.inl hd3,rfl,evp.symm⟩,_,rfl,_,rfl,d,.ref t,rfl,.inl ⟨kvs,Sum.inr n,.inr ⟨o,hf⟩,rfl,by rw [ev,et]⟩,t1,t,((x.2 n).num,((x.2 n).den:Int)),r.2 n,rfl,ht13,ht3,sx.1,sx.2,r1,r2,λ u nu=>?_⟩
   refine ⟨u,_,_,_,rfl,rfl,SqT.of ac,rfl,rfl,?_⟩
   have e0:(decide (V.int ((x.2 n).num*(r.2 n).2-(r.2 n).1*((x.2 n).den:Int))=V.int 0))=true:=by rw [A1.eq n hn,vC_cross r3,iM rfl]
   have s5:=aj (o:=.tup [.int ((x.2 n).num*(r.2 n).2-(r.2 n).1*((x.2 n).den:Int)),.int (((x.2 n).den:Int)*(r.2 n).2)]) nu
   have hl5:=s5 _ _ hl3
   refine ⟨_,hl5,ax (by rw [hZ,jw];omega),dj (by rw [tb2.len];exact hi) ⟨hi,by rw [ai ndl];exact s5 _ _ hf,λ b ob e nb=>by rw [ai (av e nl')];exact s5 _ _ (k3 _ _ e nb),?_⟩⟩
   rw [ac,List.replicate_succ',iu]
   exact i7 (λ b=>some (HO.lst (_++[V.bl b]))) e0
  ·rintro H3 ⟨_,hf,k3,hl3⟩
   have s3:Same H2 (upd H3 d (.dK kvs)):=λ b ob e=>by
    by_cases hb:b=d
    ·subst hb
     rw [ac,<- hd2,e]
    ·rw [ai hb]
     exact k3 _ _ e hb
   refine ⟨o,hf,l,_,rfl,SqL.of (by rw [ai ndl.symm];exact hl3),?_⟩
   rw [all_true]
   exact k _ (s2.trans s3)
noncomputable abbrev Du3:=bj × bj × bj
noncomputable def DuIs (H:Hp) (v:V) (x:Du3):Prop:=∃ t d1 d2 d3,v=.ref t/\H t=some (.tup [.ref d1,.ref d2,.ref d3])/\DcpIs H (.ref d1) x.1/\DcpIs H (.ref d2) x.2.1/\DcpIs H (.ref d3) x.2.2
theorem DuIs.mono {H H':Hp} {v:V} {x:Du3} (h:DuIs H v x) (s:Same H H'):DuIs H' v x:=by
 obtain ⟨t,d1,d2,d3,e,f,h1,h2,h3⟩:=h
 exact ⟨t,d1,d2,d3,e,s _ _ f,h1.mono s,h2.mono s,h3.mono s⟩
noncomputable def Alk3 (x:Tr3) (r:Du3):Prop:=Alk x.1 r.1/\Alk x.2.1 r.2.1/\Alk x.2.2 r.2.2
inductive IspAllTold (a:Ad) (vs:List V) (H:Hp) (Q:VK):Prop
 | mk (H0:Hp) (l m:Addr) (us ws:List V) (xs:List Tr3) (rs:List Du3) (h1:vs=[.ref l,.ref m]) (h2:H l=some (.lst us)) (h3:RowAt (TrIs a H0) H us xs) (h4:H m=some (.lst ws)) (h5:RowAt DuIs H ws rs) (h6:xs.length=rs.length) (h7:(∀ (i:Nat) (x:Tr3) (r:Du3),xs[i]?=some x->rs[i]?=some r->Alk3 x r)) (h8:∀ H',Same H H'->Q (.bl true) H'):IspAllTold a vs H Q
noncomputable def spAllTold (a:Ad):Sp:=λ vs H Q _=>IspAllTold a vs H Q
theorem fR (T:TX K mg a):FnB P w K mg base CX0 "_law_all_told" 5 ["_law_found","_law_dues"] (spAllTold a):=by
 refine T.d_law_all_told.ok sc_law_all_told (λ vs H Q E h=>?_) (λ f cdv A outer s H vs Q E hr h=>?_)
 ·obtain ⟨_,_,_,_,_,_,_,rfl,_⟩:=h
  rfl
 ·obtain ⟨H0,l,m,us,ws,xs,rs,rfl,hl,hus,hm,hws,le,al,k⟩:=h
  refine ⟨_,(ag (aS (PW.pt (pw_or (e9 (d7 (aH (d6 (c:=.type "list")) (by rfl) T.z_isinstance i6 (aa (pv 0) (aa (gu (v:=.ty "list") (by rfl) T.z_list PyProof.Rows.boot_list rfl) ad))))) (gG (aG op_ne (aH a8 (by rfl) T.z_len iU (aa (pv 0) ad)) (aH a8 (by rfl) T.z_len iU (aa (pv 1) ad)) (aM _))))) (ah (aw f9)) aE)
   (ag (aR ix rfl (pi_zip (by rfl) T.z_zip (aa (pv 0) (aa (pv 1) ad))) (dm rfl (aF (aq (i:=2) sc_law_all_told.nd rfl (Or.inl rfl)) (aF (aq (i:=3) sc_law_all_told.nd rfl (Or.inl rfl)) cG))) (ag (aS (PW.pt (pw_or (e9 (d7 (aH (d6 (c:=.type "tuple")) (by rfl) T.z_isinstance i6 (aa (pv 2) (aa (gu (v:=.ty "tuple") (by rfl) T.z_tuple PyProof.Rows.boot_tuple rfl) ad))))) (gG (aG op_ne (aH a8 (by rfl) T.z_len iU (aa (pv 2) ad)) ae (aM _))))) (ah (aw f9)) aE)
   (ah (aS (e9 (d7 (aH (call_allK (K:=K) rfl hr.hd) (by rfl) T.z_all PyProof.Rows.boot_all (aa (cV (xs:=["_law_one","_law_other"]) (rest:=[]) rfl (pi_zipT (by rfl) T.z_zip (aa (pv 2) (aa (pv 3) ad)))
   (λ pins fp C' s' H'=>by exact (pg_tupK (K:=K) (n:=2) rfl rfl (aF (aq (i:=0) (show (["_law_one","_law_other"]:List Str).Nodup by decide +kernel) rfl (Or.inl rfl)) (aF (aq (i:=1) (show (["_law_one","_law_other"]:List Str).Nodup by decide +kernel) rfl (Or.inl rfl)) cG)))) (λ pins fp C' s' H'=>by exact cF)
   (λ pins fp C' s' H'=>by exact (ay (ok_law_alike T) hr am (aa (pv 0) (aa (pv 1) ad))))
   (Clos.none (by decide +kernel) (by decide +kernel)) (Reads.many (ys:=[]) (js:=[]) True.intro)) ad)))) (ah (aw f9)) aE))))
   (ah (aw f9)))),?_⟩
  try dsimp only [aK,Cx.nox,Cx.wish]
  have lu:us.length=ws.length:=by rw [hus.1,hws.1,le]
  refine ⟨_,rfl,_,_,_,_,rfl,(λ u h=>h),TyOf.lst hl,T.k_list_list,_,rfl,iteF ?_⟩
  refine ⟨_,rfl,l,_,rfl,.inl (SqL.of hl),_,rfl,m,_,rfl,.inl (SqL.of hm),rfl,_,rfl,?_⟩
  rw [lu]
  refine iteNS rfl ?_
  refine ⟨_,rfl,_,rfl,l,m,us,ws,rfl,SqL.of hl,SqL.of hm,for_zip (K:=K) (λ i σ H2=>i<=us.length/\∃ z2 z3,σ=[some (.ref l),some (.ref m),z2,z3]/\Same H H2) ⟨im _,_,_,rfl,Same.refl _⟩ (λ i σ H2 ⟨_,_,_,_,s2⟩=>⟨SqL.of (s2 _ _ hl),SqL.of (s2 _ _ hm)⟩) ?_ ?_⟩
  ·rintro i x y tt σ H2 hx hy ntt ⟨_,z2,z3,rfl,s2⟩
   have hi:i<us.length:=(hV.mp hx).1
   obtain ⟨X,eX,hX⟩:=hus.get hx
   obtain ⟨r,er,hr0⟩:=hws.get hy
   obtain ⟨A1,A2,A3⟩:=al i X r eX er
   have s3:=s2.trans (aj (o:=.tup [x,y]) ntt)
   have htt:upd H2 tt (.tup [x,y]) tt=some (.tup [x,y]):=ac
   generalize upd H2 tt (.tup [x,y])=H3 at s3 htt ⊢
   obtain ⟨t,d1,d2,d3,rfl,ht,h1,h2,h3,_⟩:=hX.mono s3
   obtain ⟨t',e1,e2,e3,rfl,ht',g1',g2',g3'⟩:=hr0.mono s3
   refine ⟨tt,_,rfl,SqT.of htt,rfl,_,_,rfl,_,_,rfl,rfl,?_⟩
   refine ⟨_,rfl,_,_,_,_,rfl,(λ u h=>h),TyOf.tup ht,T.k_tuple_tuple,_,rfl,iteF ?_⟩
   refine ⟨_,rfl,t,_,rfl,.inr (SqT.of ht),rfl,_,rfl,iteNS rfl ?_⟩
   refine ⟨_,rfl,_,rfl,t,t',_,_,rfl,SqT.of ht,SqT.of ht',λ q nq=>?_⟩
   refine compG_zipT (K:=K) (λ j H4=>j<=3/\Same H3 H4/\H4 q=some (.lst ((List.replicate j true).map V.bl))) ⟨im _,aj nq,ac⟩ (λ j H4 ⟨_,s4,_⟩=>⟨SqT.of (s4 _ _ ht),SqT.of (s4 _ _ ht')⟩) ?_ ?_
   ·rintro j u v t2 H4 hu hv nt2 ⟨j3,s4,h4⟩ zs hzs
    have hj:j<3:=by have:=(hV.mp hu).1;exact this
    obtain ⟨Xj,rj,hXj,hrj,Aj⟩:∃ Xj rj,DctIs a H3 u Xj/\DcpIs H3 v rj/\Alk Xj rj:=by
     match j,hu,hv with
     | 0,hu,hv=>cases hu;cases hv;exact ⟨_,_,h1,g1',A1⟩
     | 1,hu,hv=>cases hu;cases hv;exact ⟨_,_,h2,g2',A2⟩
     | 2,hu,hv=>cases hu;cases hv;exact ⟨_,_,h3,g3',A3⟩
     | j+3,hu,hv=>simp at hu
    have s5:=s4.trans (aj (o:=.tup [u,v]) nt2)
    have h5:=aj (o:=.tup [u,v]) nt2 _ _ h4
    have ht2:upd H4 t2 (.tup [u,v]) t2=some (.tup [u,v]):=ac
    generalize upd H4 t2 (.tup [u,v])=H5 at s5 h5 ht2 ⊢
    match zs,hzs with
    | [w1,w2],_=>
     refine ⟨t2,[u,v],rfl,SqT.of ht2,rfl,u,[v],rfl,⟨v,[],rfl,⟨rfl,⟨[_,_],rfl,rfl⟩,yes ?_⟩⟩⟩
     refine ⟨_,rfl,_,rfl,u,v,Xj,rj,rfl,hXj.mono s5,hrj.mono s5,Aj,λ H6 s6=>?_⟩
     have h6:=s6 _ _ h5
     refine ⟨_,h6,ax (by rw [hZ,jw];omega),dj (by show j<min 3 3;omega) ⟨hj,aC nq (s5.trans s6),?_⟩⟩
     rw [ac,List.replicate_succ',iu]
     rfl
   ·rintro H4 ⟨_,s4,h4⟩
    refine ⟨q,_,rfl,SqL.of h4,?_⟩
    rw [all_true]
    exact ⟨_,rfl,iteF ⟨hi,_,_,rfl,s3.trans s4⟩⟩
  ·rintro σ H2 ⟨_,z2,z3,rfl,s2⟩
   exact k H2 s2
theorem rsN_in2 {rs:List W7} {ss:List S5} {m:Nat}:∀ {i:Nat} {n:Str},n∈(rsN rs ss m i).map (·.nm)->∃ x j,1<=j/\j<=i/\n=atT x ((j:Nat):Int)/\(x∈rs.map (·.nm)∨(x∈ss.map (·.nm)/\j<m))
 | 0,n,h=>absurd h ib
 | i+1,n,h=>by
  rw [rsN_nm] at h
  rcases iS.mp h with h | h
  ·obtain ⟨x,j,b,c,d,e⟩:=rsN_in2 h
   exact ⟨x,j,b,by omega,d,e⟩
  ·obtain ⟨x,hx,e⟩:=iy.mp h
   refine ⟨x,i+1,by omega,ic _,e.symm,?_⟩
   rcases iS.mp hx with z | z
   ·exact .inl z
   ·split at z
    ·rename_i hl
     exact .inr ⟨z,hl⟩
    ·exact absurd z ib
theorem nameA_len_eq (k k' c:Int):(bC k c).length=(bC k' c).length:=by
 unfold bC
 rw [iJ,iJ,iJ,iJ,gY,gY]
noncomputable def hJ (rs:List W7) (ss:List S5) (m:Nat) (n:Str):Prop:=¬ n∈(rsN rs ss m m).map (·.nm)/\n.length<=1000
section
variable {n:Nat} {c1 c2:Int} {es:List Ent} {rs:List W7} {ss:List S5} {ws:List bj}
theorem Pure63.fam (p:Pure63 n c1 c2 es rs ss ws) {x:Str} (h:x∈rs.map (·.nm)∨x∈ss.map (·.nm)):∃ k:Int,x=bC k c2:=by
 rcases h with h | h
 ·rw [p.rn] at h
  unfold cM at h
  obtain ⟨i,_,rfl⟩:=iy.mp h
  exact ⟨_,rfl⟩
 ·rw [p.sn] at h
  unfold d9 at h
  obtain ⟨i,_,rfl⟩:=iy.mp h
  exact ⟨_,rfl⟩
theorem Pure63.alone (p:Pure63 n c1 c2 es rs ss ws) (k:Int):hJ rs ss ws.length (bC k c2):=by
 refine ⟨λ h=>?_,ie (gx k c2) (by decide)⟩
 obtain ⟨x,j,_,_,e,hx⟩:=rsN_in2 h
 obtain ⟨k',rfl⟩:=p.fam (hx.imp id (·.1))
 have:=i7 Str.length e
 unfold atT at this
 rw [iJ,iJ,show (".":Str).length=1 from rfl,nameA_len_eq k k' c2] at this
 omega
theorem Pure63.turn (p:Pure63 n c1 c2 es rs ss ws) {x:Str} {t:Nat} (ht:t<=13) (hx:x∈rs.map (·.nm)∨x∈ss.map (·.nm)) (h:t=0∨ws.length<t∨(t=ws.length/\¬ x∈rs.map (·.nm))):hJ rs ss ws.length (atT x (t:Int)):=by
 have l12:=p.lw12
 obtain ⟨k,ek⟩:=p.fam hx
 refine ⟨λ h'=>?_,ie (atT_len (n:=50) (by rw [ek];exact gx k c2) (cU (by omega))) (by decide)⟩
 obtain ⟨y,j,j1,j2,e,hy⟩:=rsN_in2 h'
 obtain ⟨rfl,rfl⟩:=atT_inj ht (by omega) e
 rcases h with h | h | ⟨h,nx⟩
 ·omega
 ·omega
 ·rcases hy with hy | hy
  ·exact nx hy
  ·omega
end
noncomputable def PA (r:bj) (n:Str):Int × Int:=if n∈r.1 then r.2 n else (0,1)
noncomputable def addP (c d:Int × Int):Int × Int:=(c.1*d.2+d.1*c.2,c.2*d.2)
noncomputable def mulP (c d:Int × Int):Int × Int:=(c.1*d.1,c.2*d.2)
noncomputable def cI (r:bj) (t:Nat) (s:S5):Int × Int:=mulP (PA r (atT s.nm ((t-1:Nat):Int))) s.gain
noncomputable def cS (r:bj) (t:Nat) (s:S5):Int × Int:=PA r (atT s.nm (t:Int))
noncomputable def bi (g:S5->Int × Int) (ss:List S5) (pl:Str):Int × Int:=ss.foldl (λ c s=>if s.pl=pl then addP c (g s) else c) (0,1)
noncomputable def eZ (rs:List W7) (r:bj) (t:Nat):List Str:=(rs.map (·.nm)).filter (λ n=>decide ((PA r (atT n (t:Int))).1≠0))
noncomputable def dueR (es:List Ent) (rs:List W7) (ss:List S5) (r:bj) (t:Nat):Du3:=((eZ rs r t,λ n=>PA r (atT n (t:Int))),(es.map (·.1),bi (cI r t) ss),(es.map (·.1),bi (cS r t) ss))
theorem DcpIs.get2 {H:Hp} {d p:Addr} {r:bj} {n:Str} (h:DcpIs H (.ref d) r) (hp:H p=some (.tup [.int 0,.int 1])):∃ v kvs,H d=some (.dK kvs)/\(bY kvs (Sum.inr n)).getD (.ref p)=v/\DueIs H v (PA r n):=by
 obtain ⟨d0,kvs,e,hd,tb,_⟩:=h
 cases e
 refine ⟨_,kvs,hd,rfl,?_⟩
 unfold PA
 by_cases hn:n∈r.1
 ·obtain ⟨v,ev,q⟩:=tb.vals n hn
  rw [ev,if_pos hn]
  exact q
 ·rw [tb.none hn,if_neg hn]
  exact ⟨p,rfl,hp⟩
theorem gA (g:S5->Int × Int) (ss:List S5) (s:S5) (pl:Str):bi g (ss++[s]) pl=if s.pl=pl then addP (bi g ss pl) (g s) else bi g ss pl:=by unfold bi;rw [List.foldl_append];rfl
theorem vC_add {c d:Int × Int} (hc:c.2≠0) (hd:d.2≠0):vC (addP c d)=vC c+vC d:=by
 unfold vC addP
 rw [Rat.divInt_add_divInt _ _ hc hd]
theorem vC_mul (c d:Int × Int):vC (mulP c d)=vC c*vC d:=by
 unfold vC mulP
 rw [Rat.divInt_mul_divInt]
theorem amt_PA (r:bj) (n:Str):fT (vR r).1 (vR r).2 n=vC (PA r n):=by
 unfold fT PA vR
 dsimp only
 split
 ·rfl
 ·show (0:Rat)=Rat.divInt 0 1
  rw [Rat.zero_divInt]
theorem accP_den {g:S5->Int × Int} (pl:Str) (ss:List S5):(∀ s∈ss,(g s).2≠0)->(bi g ss pl).2≠0:=by
 refine gR (P:=λ ss=>(∀ s∈ss,(g s).2≠0)->(bi g ss pl).2≠0) (λ _=>by show (1:Int)≠0;decide) (λ ss s ih h=>?_) ss
 have i1:=ih λ z hz=>h z (iV _ hz)
 rw [gA]
 split
 ·exact Int.mul_ne_zero i1 (h s (by simp))
 ·exact i1
theorem acc_sum {g:S5->Int × Int} {f:WD->Rat} (pl:Str) (ss:List S5):(∀ s∈ss,(g s).2≠0/\f s.d=vC (g s))->vC (bi g ss pl)=((du (ss.map S5.d) pl).map f).sum:=by
 refine gR (P:=λ ss=>(∀ s∈ss,(g s).2≠0/\f s.d=vC (g s))->vC (bi g ss pl)=((du (ss.map S5.d) pl).map f).sum) (λ _=>by show Rat.divInt 0 1=0;rw [Rat.zero_divInt]) (λ ss s ih h=>?_) ss
 have i1:=ih λ z hz=>h z (iV _ hz)
 have d1:=accP_den (g:=g) pl ss λ z hz=>(h z (iV _ hz)).1
 obtain ⟨h1,h2⟩:=h s (by simp)
 rw [gA]
 unfold du at i1 ⊢
 rw [iu,List.filter_append]
 by_cases e:s.pl=pl
 ·rw [if_pos e,vC_add d1 h1,i1,jp,List.map_nil,jI (p:=λ s:WD=>decide (s.st=pl)) (iM (show s.d.st=pl from e)),jL,iu,jp,List.map_nil,sum_snoc,h2]
 ·rw [if_neg e,i1,jp,List.map_nil,jJ (by simpa using (show ¬ s.d.st=pl from e)),jL,jf]
theorem PA_ok {r:bj} (h:∀ n∈r.1,N50 (r.2 n)) (n:Str):N50 (PA r n):=by
 unfold PA
 split
 ·rename_i hn
  exact h n hn
 ·exact n50_zero
theorem gain_sto {g:Int × Int} (h:1<=g.2):fg .sto (Rat.divInt (g.2-g.1) g.2)=vC g:=by
 show 1-Rat.divInt (g.2-g.1) g.2=Rat.divInt g.1 g.2
 rw [Rat.divInt_eq_div,Rat.divInt_eq_div]
 have:(g.2:Rat)≠0:=λ z=>by
  have:g.2=0:=by exact_mod_cast z
  omega
 push_cast
 rw [Rat.div_def,Rat.div_def]
 have e:=Rat.mul_inv_cancel _ this
 generalize ((g.2:Int):Rat)⁻¹=y at *
 generalize ((g.2:Int):Rat)=x at *
 generalize ((g.1:Int):Rat)=z at *
 grind
theorem accP_bd {g:S5->Int × Int} (pl:Str) (ss:List S5):(∀ s∈ss,(g s).1.natAbs<=2 ^ 39/\(g s).2.natAbs<=2 ^ 39)->(bi g ss pl).1.natAbs<=2 ^ (40*ss.length)/\(bi g ss pl).2.natAbs<=2 ^ (40*ss.length):=by
 refine gR (P:=λ ss=>(∀ s∈ss,(g s).1.natAbs<=2 ^ 39/\(g s).2.natAbs<=2 ^ 39)->(bi g ss pl).1.natAbs<=2 ^ (40*ss.length)/\(bi g ss pl).2.natAbs<=2 ^ (40*ss.length)) (λ _=>⟨im _,ic _⟩) (λ ss s ih h=>?_) ss
 obtain ⟨i1,i2⟩:=ih λ z hz=>h z (iV _ hz)
 obtain ⟨h1,h2⟩:=h s (by simp)
 have e40:40*(ss++[s]).length=40*ss.length+(39+1):=by rw [ir,List.length_singleton];omega
 rw [gA,e40]
 split
 ·exact tot_bd i1 i2 h2 h1 (ic _)
 ·exact ⟨ie i1 (jB (by decide) (by omega)),ie i2 (jB (by decide) (by omega))⟩
theorem vC_zero {c:Int × Int} (h:c.2≠0):vC c=0↔c.1=0:=by
 constructor
 ·intro e
  have:=vC_cross h
  rw [e] at this
  simp at this
  exact this
 ·intro e
  unfold vC
  rw [e,Rat.zero_divInt]
theorem done_eq {rs:List W7} {r:bj} (h:∀ n∈r.1,N50 (r.2 n)) (t:Nat):fO (ownF (vR r) (t:Int)) ((dsT rs).map (·.nm))=eZ rs r t:=by
 unfold fO eZ
 rw [dsT_n]
 refine List.filter_congr λ n _=>?_
 have b:=(PA_ok h (atT n (t:Int))).b
 show decide (fT (vR r).1 (vR r).2 (atT n (t:Int))≠0)=_
 rw [amt_PA]
 exact decide_eq_decide.mpr (not_congr (vC_zero (by omega)))
theorem alk3 {n:Nat} {c1 c2:Int} {es:List Ent} {rs:List W7} {ss:List S5} {ws:List bj} (p:Pure63 n c1 c2 es rs ss ws) {r:bj} (h:∀ n∈r.1,N50 (r.2 n)) {t:Nat} (t1:1<=t):Alk3 (byR (psT es) (dsT rs) (ss.map S5.d) (vR r) (t:Int)) (dueR es rs ss r t):=by
 have n4:=p.n4
 have lr:=p.lr
 have lss:=p.ls
 have le:=p.le
 have okP:∀ m,N50 (PA r m):=PA_ok h
 have sm:∀ g:S5->Int × Int,(∀ s∈ss,(g s).1.natAbs<=2 ^ 39/\(g s).2.natAbs<=2 ^ 39)->∀ pl,(bi g ss pl).1.natAbs<=2 ^ 400/\(bi g ss pl).2.natAbs<=2 ^ 400:=λ g hg pl=>by
  obtain ⟨a1,a2⟩:=accP_bd pl ss hg
  have hl:40*ss.length<=400:=by omega
  exact ⟨ie a1 (jB (by decide) hl),ie a2 (jB (by decide) hl)⟩
 have part:∀ (g:S5->Int × Int) (f:ck->Int->WD->Rat),(∀ s∈ss,((g s).1.natAbs<=2 ^ 39/\(g s).2.natAbs<=2 ^ 39)/\(g s).2≠0/\f (vR r) (t:Int) s.d=vC (g s))->Alk (inR f (psT es) (ss.map S5.d) (vR r) (t:Int)) (es.map (·.1),bi g ss):=λ g f hg=>by
  have e:∀ pl,(inR f (psT es) (ss.map S5.d) (vR r) (t:Int)).2 pl=vC (bi g ss pl):=λ pl=>(acc_sum pl ss λ s hs=>(hg s hs).2).symm
  have b:=sm g λ s hs=>(hg s hs).1
  refine ⟨psT_n es,λ pl _=>e pl,λ pl _=>?_,λ pl _=>⟨Sm.of_le (b pl).1 (by decide),Sm.of_le (b pl).2 (by decide),accP_den pl ss λ s hs=>(hg s hs).2.1⟩,by show (es.map (·.1)).length<=60;rw [hZ];omega⟩
  rw [e]
  exact (Bd.divInt (b pl).1 (b pl).2).smr (by decide)
 refine ⟨⟨done_eq h t,λ n _=>amt_PA r _,λ n _=>?_,λ n _=>?_,?_⟩,part _ _ λ s hs=>?_,part _ _ λ s hs=>?_⟩
 ·show SmR (fT (vR r).1 (vR r).2 _)
  rw [amt_PA]
  exact (okP _).bd.smr (by decide)
 ·have:=(okP (atT n (t:Int))).b
  exact ⟨(okP _).sm.1,(okP _).sm.2,by show (PA r (atT n (t:Int))).2≠0;omega⟩
 ·exact ie (List.length_filter_le _ _) (by rw [hZ];omega)
 ·have o:=p.sok s hs
  have g1:=o.g1
  have g2:=o.g2
  have q:=okP (atT s.nm ((t-1:Nat):Int))
  have q1:=q.t
  have q2:=q.b
  have q3:=q.b'
  refine ⟨⟨?_,?_⟩,?_,?_⟩
  ·show ((PA r _).1*s.gain.1).natAbs<=_
   rw [jo]
   exact ie (i4 q1 (show s.gain.1.natAbs<=9 by omega)) (by decide)
  ·show ((PA r _).2*s.gain.2).natAbs<=_
   rw [jo]
   exact ie (i4 (show _<=997 by omega) (show s.gain.2.natAbs<=9 by omega)) (by decide)
  ·exact Int.mul_ne_zero (by omega) (by omega)
  ·show fT (vR r).1 (vR r).2 (atT s.nm ((t:Int)-1))*fg .sto _=vC (mulP _ _)
   rw [show (t:Int)-1=((t-1:Nat):Int) by omega,amt_PA,vC_mul]
   congr 1
   exact gain_sto (by omega)
 ·have q:=okP (atT s.nm (t:Int))
  have q1:=q.t
  have q2:=q.b
  have q3:=q.b'
  exact ⟨⟨ie q1 (by decide),ie (show _<=997 by show (PA r _).2.natAbs<=997;omega) (by decide)⟩,by show (PA r _).2≠0;omega,amt_PA r _⟩
structure D3 (H:Hp) (dD dT dP:Addr) (kD kT kP:List (Key × V)) (K1 K2 K3:List Str) (F1 F2 F3:Str->Int × Int):Prop where
 h1:H dD=some (.dK kD)
 h2:H dT=some (.dK kT)
 h3:H dP=some (.dK kP)
 t1:Tab DueIs H kD K1 F1
 t2:Tab DueIs H kT K2 F2
 t3:Tab DueIs H kP K3 F3
theorem D3.mono {H H':Hp} {dD dT dP:Addr} {kD kT kP:List (Key × V)} {K1 K2 K3:List Str} {F1 F2 F3:Str->Int × Int} (h:D3 H dD dT dP kD kT kP K1 K2 K3 F1 F2 F3) (s:Same H H'):D3 H' dD dT dP kD kT kP K1 K2 K3 F1 F2 F3:=⟨s _ _ h.h1,s _ _ h.h2,s _ _ h.h3,h.t1.mono λ _ _ z=>DueIs.mono z s,h.t2.mono λ _ _ z=>DueIs.mono z s,h.t3.mono λ _ _ z=>DueIs.mono z s⟩
section
variable {H:Hp} {dD dT dP:Addr} {kD kT kP:List (Key × V)} {K1 K2 K3:List Str} {F1 F2 F3:Str->Int × Int} {n:Str} {v:V} {c:Int × Int}
theorem D3.put1 (h:D3 H dD dT dP kD kT kP K1 K2 K3 F1 F2 F3) (n2:dT≠dD) (n3:dP≠dD) (hv:DueIs H v c):D3 (upd H dD (.dK (bo kD (Sum.inr n) v))) dD dT dP (bo kD (Sum.inr n) v) kT kP (fW K1 n) K2 K3 (upf F1 n c) F2 F3:=
 have ko:KeepO H (upd H dD (.dK (bo kD (Sum.inr n) v))):=.dct h.h1
 ⟨ac,by rw [ai n2];exact h.h2,by rw [ai n3];exact h.h3,Tab.put (h.t1.mono λ _ _ z=>DueIs.ko z ko) (DueIs.ko hv ko),h.t2.mono λ _ _ z=>DueIs.ko z ko,h.t3.mono λ _ _ z=>DueIs.ko z ko⟩
theorem D3.put2 (h:D3 H dD dT dP kD kT kP K1 K2 K3 F1 F2 F3) (n1:dD≠dT) (n3:dP≠dT) (hv:DueIs H v c):D3 (upd H dT (.dK (bo kT (Sum.inr n) v))) dD dT dP kD (bo kT (Sum.inr n) v) kP K1 (fW K2 n) K3 F1 (upf F2 n c) F3:=
 have ko:KeepO H (upd H dT (.dK (bo kT (Sum.inr n) v))):=.dct h.h2
 ⟨by rw [ai n1];exact h.h1,ac,by rw [ai n3];exact h.h3,h.t1.mono λ _ _ z=>DueIs.ko z ko,Tab.put (h.t2.mono λ _ _ z=>DueIs.ko z ko) (DueIs.ko hv ko),h.t3.mono λ _ _ z=>DueIs.ko z ko⟩
theorem D3.put3 (h:D3 H dD dT dP kD kT kP K1 K2 K3 F1 F2 F3) (n1:dD≠dP) (n2:dT≠dP) (hv:DueIs H v c):D3 (upd H dP (.dK (bo kP (Sum.inr n) v))) dD dT dP kD kT (bo kP (Sum.inr n) v) K1 K2 (fW K3 n) F1 F2 (upf F3 n c):=
 have ko:KeepO H (upd H dP (.dK (bo kP (Sum.inr n) v))):=.dct h.h3
 ⟨by rw [ai n1];exact h.h1,by rw [ai n2];exact h.h2,ac,h.t1.mono λ _ _ z=>DueIs.ko z ko,h.t2.mono λ _ _ z=>DueIs.ko z ko,Tab.put (h.t3.mono λ _ _ z=>DueIs.ko z ko) (DueIs.ko hv ko)⟩
end
inductive IspDue65 (K:W.Frag) (vs:List V) (H:Hp) (Q:VK):Prop
 | mk (t0 lp lw ls d:Addr) (tp tw ts:List V) (es:List Ent) (rs:List W7) (ss:List S5) (r:bj) (t:Nat) (c:Int) (h1:vs=[.ref t0,.ref ls,.ref d,.int t,.int c]) (h2:Told H t0 lp lw tp tw es rs) (h3:SqL K H ls ts) (h4:RowAt S5Is H ts ss) (h5:DcpIs H (.ref d) r) (h6:(∀ n∈r.1,N50 (r.2 n))) (h7:(es.map (·.1)).Nodup) (h8:(rs.map (·.nm)).Nodup) (h9:es.length<=12) (h10:rs.length<=12) (h11:ss.length<=8) (h12:1<=t) (h13:t<=12) (h14:(∀ s∈ss,S5Ok (es.map (·.1)) s/\s.nm.length<=700)) (h15:(∀ s∈rs,s.nm.length<=700)) (h16:∀ v H',Same H H'->DuIs H' v (dueR es rs ss r t)->Q v H'):IspDue65 K vs H Q
noncomputable def spDue65 (K:W.Frag):Sp:=λ vs H Q _=>IspDue65 K vs H Q
theorem ok_law_due (T:TX K mg a):FnB P w K mg base CX0 "_law_due" 2 ["_law_told","_law_stores_here","_law_plan_here","_law_turn","_law_last"] (spDue65 K):=by
 refine T.d_law_due.ok sc_law_due (λ vs H Q E h=>?_) (λ f cdv A outer s H vs Q E hr h=>?_)
 ·obtain ⟨_,_,_,_,_,_,_,_,_,_,_,_,_,_,rfl,_⟩:=h
  rfl
 ·obtain ⟨t0,lp,lw,ls,d,tp,tw,ts,es,rs,ss,r,t,c,rfl,td,hS,hss,hpl,nok,nde,ndr,l12,lr12,ls8,t1,t12,sok,lnr,k⟩:=h
  refine ⟨_,(ag (au (i:=5) sc_law_due.nd rfl (Or.inl rfl) bL)
   (ag (au (i:=6) sc_law_due.nd rfl (Or.inl rfl) bL)
   (ag (au (i:=7) sc_law_due.nd rfl (Or.inl rfl) bL)
   (aX (aR ix rfl (aU (aD az (pv 0) ae (λ _ _=>rfl))) (aq (i:=8) sc_law_due.nd rfl (Or.inl rfl)) (ag (bw (aZ hr) (pv 6) (aD az (pv 8) ae (λ _ _=>rfl)) (aV (aa ae (aa ae ad))) rfl)
   (ah (bw (aZ hr) (pv 7) (aD az (pv 8) ae (λ _ _=>rfl)) (aV (aa ae (aa ae ad))) rfl))))
   (aX (aR ix rfl (aU (aD az (pv 0) ae (λ _ _=>rfl))) (aq (i:=9) sc_law_due.nd rfl (Or.inl rfl)) (ag (au (i:=10) sc_law_due.nd rfl (Or.inl rfl) (eL (aZ hr) (pv 2) (ak aI (ak aI (aD az (pv 9) ae (λ _ _=>rfl)) dQ) (bX b4 (by rfl) T.z_str jk (aa (pv 3) ad))) (aV (aa ae (aa ae ad))) ⟨rfl,rfl,rfl,rfl⟩))
   (ah (aS (aG op_ne (aD az (pv 10) ae (λ _ _=>rfl)) ae (aM _)) (ah (bw (aZ hr) (pv 5) (aD az (pv 9) ae (λ _ _=>rfl)) (pv 10) rfl)) aE))))
   (aX (aR ix rfl (aU (pv 1)) (dm rfl (aF (aq (i:=11) sc_law_due.nd rfl (Or.inl rfl)) (aF (aq (i:=8) sc_law_due.nd rfl (Or.inl rfl)) (aF (aq (i:=12) sc_law_due.nd rfl (Or.inl rfl)) (aF (aq (i:=13) sc_law_due.nd rfl (Or.inl rfl)) (aF (aq (i:=14) sc_law_due.nd rfl (Or.inl rfl)) cG)))))) (ag (au (i:=15) sc_law_due.nd rfl (Or.inl rfl) (ay (ok_law_times T) hr am (aa (eL (aZ hr) (pv 2) (ak aI (ak aI (pv 11) dQ) (bX b4 (by rfl) T.z_str jk (aa (ak gc (pv 3) ae) ad))) (aV (aa ae (aa ae ad))) ⟨rfl,rfl,rfl,rfl⟩) (aa (pv 12) ad))))
   (ag (bw (aZ hr) (pv 6) (pv 8) (ay (ok_law_plus T) hr am (aa (cH (aZ hr) (pv 6) (pv 8) (λ _ _=>rfl)) (aa (pv 15) ad))) rfl)
   (ah (bw (aZ hr) (pv 7) (pv 8) (ay (ok_law_plus T) hr am (aa (cH (aZ hr) (pv 7) (pv 8) (λ _ _=>rfl)) (aa (eL (aZ hr) (pv 2) (ak aI (ak aI (pv 11) dQ) (bX b4 (by rfl) T.z_str jk (aa (pv 3) ad))) (aV (aa ae (aa ae ad))) ⟨rfl,rfl,rfl,rfl⟩) ad))) rfl)))))
   (ah (aw (aV (aa (pv 5) (aa (pv 6) (aa (pv 7) ad)))))))))))),?_⟩
  try dsimp only [aK,Cx.nox,Cx.wish]
  intro dD nD
  have sA:=aj (o:=.dK []) nD
  have hA:upd H dD (.dK []) dD=some (.dK []):=ac
  generalize upd H dD (.dK [])=HA at sA hA ⊢
  intro dT nT
  have sB:=sA.trans (aj (o:=.dK []) nT)
  have hB:upd HA dT (.dK []) dT=some (.dK []):=ac
  have hA2:=aj (o:=.dK []) nT _ _ hA
  have nTD:dT≠dD:=λ z=>by rw [z,hA] at nT;cases nT
  have nT':=sA.free nT
  generalize upd HA dT (.dK [])=HB at sB hB hA2 ⊢
  intro dP nP
  have sC:=sB.trans (aj (o:=.dK []) nP)
  have hC:upd HB dP (.dK []) dP=some (.dK []):=ac
  have hA3:=aj (o:=.dK []) nP _ _ hA2
  have hB3:=aj (o:=.dK []) nP _ _ hB
  have nPD:dP≠dD:=λ z=>by rw [z,hA2] at nP;cases nP
  have nPT:dP≠dT:=λ z=>by rw [z,hB] at nP;cases nP
  have nP':=sB.free nP
  generalize upd HB dP (.dK [])=HC at sC hC hA3 hB3 ⊢
  refine ⟨λ σ' H'=>∃ z8 kT kP,σ'=[some (.ref t0),some (.ref ls),some (.ref d),some (.int t),some (.int c),some (.ref dD),some (.ref dT),some (.ref dP),z8,none,none,none,none,none,none,none]/\Same H H'/\D3 H' dD dT dP [] kT kP [] (es.map (·.1)) (es.map (·.1)) (λ n=>PA r (atT n (t:Int))) (bi (cI r t) []) (bi (cS r t) []),?_,?_⟩
  ·have htd:=(td.mono sC).ht
   refine ⟨_,rfl,t0,_,_,_,rfl,rfl,SqT.of htd,rfl,lp,rfl,⟨_,SqL.of (sC _ _ td.hp)⟩,bn (K:=K) (a:=lp) (xs:=tp) (λ i σ H2=>i<=es.length/\∃ z8 kT kP,σ=[some (.ref t0),some (.ref ls),some (.ref d),some (.int t),some (.int c),some (.ref dD),some (.ref dT),some (.ref dP),z8,none,none,none,none,none,none,none]/\Same H H2/\D3 H2 dD dT dP [] kT kP [] ((es.map (·.1)).take i) ((es.map (·.1)).take i) (λ n=>PA r (atT n (t:Int))) (bi (cI r t) []) (bi (cS r t) [])) ⟨im _,_,[],[],rfl,sC,hA3,hB3,hC,Tab.nil,Tab.nil,Tab.nil⟩ (λ i σ H2 _ ⟨_,_,_,_,_,s2,_⟩=>SqL.of (s2 _ _ td.hp)) ?_ ?_⟩
   ·rintro i x σ H2 hx ⟨_,z8,kT,kP,rfl,s2,D⟩
    obtain ⟨e,ee,he⟩:=td.rp.get hx
    have hi:i<es.length:=(hV.mp ee).1
    obtain ⟨te,vp,rfl,hte,_⟩:=he.mono s2
    have en:(es.map (·.1))[i]?=some e.1:=by rw [iq,ee];rfl
    obtain ⟨tk,nk⟩:=bE nde en
    have lT:kT.length<=900:=by rw [D.t2.len,iz,hZ];omega
    have lP:kP.length<=900:=by rw [D.t3.len,iz,hZ];omega
    refine ⟨by show 2<=sizeLine;decide,λ p np=>?_⟩
    have s3:=aj (o:=.tup [.int 0,.int 1]) np
    have hp:upd H2 p (.tup [.int 0,.int 1]) p=some (.tup [.int 0,.int 1]):=ac
    generalize upd H2 p (.tup [.int 0,.int 1])=H3 at s3 hp ⊢
    have D2:=D.mono s3
    refine ⟨_,rfl,_,rfl,te,_,_,_,rfl,rfl,SqT.of (s3 _ _ hte),rfl,dT,_,rfl,DPut.k (k:=Sum.inr e.1) D2.h2 (ax (by omega)),?_⟩
    have D3':=D2.put2 (n:=e.1) (c:=(0,1)) nTD.symm nPT ⟨p,rfl,hp⟩
    have s4:=aC (o:=.dK (bo kT (Sum.inr e.1) (.ref p))) nT' (s2.trans s3)
    have hte4:upd H3 dT (.dK (bo kT (Sum.inr e.1) (.ref p))) te=some (.tup [.str e.1,vp]):=by rw [ai (bz (s3 _ _ hte) D2.h2 (by intro z;cases z))];exact s3 _ _ hte
    generalize upd H3 dT (.dK (bo kT (Sum.inr e.1) (.ref p)))=H4 at D3' s4 hte4 ⊢
    refine ⟨by show 2<=sizeLine;decide,λ p2 np2=>?_⟩
    have s5:=aj (o:=.tup [.int 0,.int 1]) np2
    have hp2:upd H4 p2 (.tup [.int 0,.int 1]) p2=some (.tup [.int 0,.int 1]):=ac
    generalize upd H4 p2 (.tup [.int 0,.int 1])=H5 at s5 hp2 ⊢
    have D5:=D3'.mono s5
    refine ⟨_,rfl,_,rfl,te,_,_,_,rfl,rfl,SqT.of (s5 _ _ hte4),rfl,dP,_,rfl,DPut.k (k:=Sum.inr e.1) D5.h3 (ax (by omega)),?_⟩
    have D6:=D5.put3 (n:=e.1) (c:=(0,1)) nPD.symm nPT.symm ⟨p2,rfl,hp2⟩
    have up:∀ F:Str->Int × Int,(∀ m,F m=(0,1))->upf F e.1 (0,1)=F:=λ F hF=>funext λ m=>by
     unfold upf
     split
     ·exact (hF m).symm
     ·rfl
    rw [cu nk,<- tk,up (bi (cI r t) []) (λ _=>rfl),up (bi (cS r t) []) (λ _=>rfl)] at D6
    exact ⟨hi,_,_,_,rfl,aC nP' (s4.trans s5),D6⟩
   ·rintro σ H2 ⟨_,z8,kT,kP,rfl,s2,D⟩
    rw [td.rp.1,show es.length=(es.map (·.1)).length by rw [hZ],iB] at D
    exact ⟨_,kT,kP,rfl,s2,D⟩
  clear hA hA2 hA3 hB hB3 hC sA sB sC
  rintro σ' H1 ⟨z8,kT,kP,rfl,s1,D⟩
  have ht:=cU (t:=t) (by omega)
  have hlt:=ht.len
  have sl:(700:Nat)+300<=sizeLine:=by rw [iK];decide
  refine ⟨λ σ' H'=>∃ z8 z9 z10 kD,σ'=[some (.ref t0),some (.ref ls),some (.ref d),some (.int t),some (.int c),some (.ref dD),some (.ref dT),some (.ref dP),z8,z9,z10,none,none,none,none,none]/\Same H H'/\D3 H' dD dT dP kD kT kP (eZ rs r t) (es.map λ e:Ent=>e.1) (es.map λ e:Ent=>e.1) (λ n:Str=>PA r (atT n (t:Int))) (bi (cI r t) []) (bi (cS r t) []),?_,?_⟩
  ·refine ⟨_,rfl,t0,_,_,_,rfl,rfl,SqT.of (s1 _ _ td.ht),rfl,lw,rfl,⟨_,SqL.of (s1 _ _ td.hw)⟩,bn (K:=K) (a:=lw) (xs:=tw) (λ i σ H2=>i<=rs.length/\∃ z8 z9 z10 kD,σ=[some (.ref t0),some (.ref ls),some (.ref d),some (.int t),some (.int c),some (.ref dD),some (.ref dT),some (.ref dP),z8,z9,z10,none,none,none,none,none]/\Same H H2/\D3 H2 dD dT dP kD kT kP (eZ (rs.take i) r t) (es.map λ e:Ent=>e.1) (es.map λ e:Ent=>e.1) (λ n:Str=>PA r (atT n (t:Int))) (bi (cI r t) []) (bi (cS r t) [])) ⟨im _,_,_,_,[],rfl,s1,D⟩ (λ i σ H2 _ ⟨_,_,_,_,_,_,s2,_⟩=>SqL.of (s2 _ _ td.hw)) ?_ ?_⟩
   ·rintro i x σ H2 hx ⟨_,z8,z9,z10,kD,rfl,s2,D⟩
    obtain ⟨e,ee,he⟩:=td.rw.get hx
    have hi:i<rs.length:=(hV.mp ee).1
    obtain ⟨te,vg,vh,vc,rfl,hte,_⟩:=he.mono s2
    have le:=lnr e (ig ee)
    have hpl2:=hpl.mono s2
    obtain ⟨d0,kvs,e0,hd,_⟩:=id hpl2
    cases e0
    refine ⟨_,rfl,d,rfl,.inl ⟨kvs,.inl hd⟩,_,rfl,te,_,_,_,rfl,rfl,SqT.of hte,rfl,_,_,rfl,rfl,?_,?_⟩
    ·show e.nm.length+1<=sizeLine
     omega
    refine ⟨_,rfl,_,rfl,ht.log,_,_,rfl,rfl,?_,by show 2<=sizeLine;decide,λ p np=>?_⟩
    ·show (e.nm ++ ".").length+_<=sizeLine
     rw [iJ,show (".":Str).length=1 from rfl]
     exact ie (jK hlt _) (by omega)
    have s3:=aj (o:=.tup [.int 0,.int 1]) np
    have hp:upd H2 p (.tup [.int 0,.int 1]) p=some (.tup [.int 0,.int 1]):=ac
    generalize upd H2 p (.tup [.int 0,.int 1])=H3 at s3 hp ⊢
    have D2:=D.mono s3
    refine ⟨_,DGet.k (k:=Sum.inr (atT e.nm (t:Int))) (s3 _ _ hd),?_⟩
    obtain ⟨v,kv',hd',ev,hv⟩:=(hpl2.mono s3).get2 (n:=atT e.nm (t:Int)) hp
    rw [s3 _ _ hd] at hd'
    cases hd'
    rw [ev]
    obtain ⟨pv',rfl,hpv⟩:=id hv
    have tkk:eZ (rs.take (i+1)) r t=eZ (rs.take i) r t++[e.nm].filter (λ n=>decide ((PA r (atT n (t:Int))).1≠0)):=by
     unfold eZ
     rw [iH,ee,iE,iu,List.filter_append]
     rfl
    refine ⟨_,rfl,pv',_,_,_,rfl,rfl,SqT.of hpv,rfl,rfl,_,rfl,?_⟩
    by_cases h0:(PA r (atT e.nm (t:Int))).1=0
    ·refine fM (by rw [iM (i7 V.int h0)];rfl) ?_
     refine ⟨hi,_,_,_,kD,rfl,s2.trans s3,?_⟩
     rw [tkk,jJ (by simpa using h0),jL,jf]
     exact D2
    ·refine iteC (by rw [iF (λ z=>h0 (V.int.inj z))];rfl) ?_
     have lD:kD.length<=900:=by
      rw [D.t1.len]
      unfold eZ
      exact ie (List.length_filter_le _ _) (by rw [hZ,iz];omega)
     have en:(rs.map (·.nm))[i]?=some e.nm:=by rw [iq,ee];rfl
     have nin:¬ e.nm∈eZ (rs.take i) r t:=λ z=>by
      unfold eZ at z
      have:=(List.mem_filter.mp z).1
      rw [List.map_take] at this
      exact (bE ndr en).2 this
     refine ⟨_,rfl,_,rfl,_,rfl,te,_,_,_,rfl,rfl,SqT.of (s3 _ _ hte),rfl,dD,_,rfl,DPut.k (k:=Sum.inr e.nm) D2.h1 (ax (by omega)),?_⟩
     have D3':=D2.put1 (n:=e.nm) (c:=PA r (atT e.nm (t:Int))) nTD nPD hv
     refine ⟨hi,_,_,_,bo kD (Sum.inr e.nm) (.ref pv'),rfl,aC nD (s2.trans s3),?_⟩
     rw [tkk,jI (p:=λ n:Str=>decide ((PA r (atT n (t:Int))).1≠0)) (iM h0),jL,<- cu nin]
     have up:upf (λ n:Str=>PA r (atT n (t:Int))) e.nm (PA r (atT e.nm (t:Int)))=λ n:Str=>PA r (atT n (t:Int)):=funext λ m=>by
      unfold upf
      split
      ·rename_i q
       rw [q]
      ·rfl
     rw [up] at D3'
     exact D3'
   ·rintro σ H2 ⟨_,z8,z9,z10,kD,rfl,s2,D⟩
    rw [td.rw.1,iB] at D
    exact ⟨_,_,_,kD,rfl,s2,D⟩
  clear D s1
  rintro σ' H1 ⟨z8,z9,z10,kD,rfl,s1,D⟩
  have bT:∀ s∈ss,((cI r t s).1.natAbs<=2 ^ 39/\(cI r t s).2.natAbs<=2 ^ 39):=λ s hs=>by
   have o:=(sok s hs).1
   have g1:=o.g1
   have g2:=o.g2
   have q:=PA_ok nok (atT s.nm ((t-1:Nat):Int))
   have q1:=q.t
   have q2:=q.b
   have q3:=q.b'
   constructor
   ·show ((PA r _).1*s.gain.1).natAbs<=_
    rw [jo]
    exact ie (i4 q1 (show s.gain.1.natAbs<=9 by omega)) (by decide)
   ·show ((PA r _).2*s.gain.2).natAbs<=_
    rw [jo]
    exact ie (i4 (show _<=997 by omega) (show s.gain.2.natAbs<=9 by omega)) (by decide)
  have bP:∀ s∈ss,((cS r t s).1.natAbs<=2 ^ 39/\(cS r t s).2.natAbs<=2 ^ 39):=λ s hs=>by
   have q:=PA_ok nok (atT s.nm (t:Int))
   have q1:=q.t
   have q2:=q.b
   have q3:=q.b'
   exact ⟨ie q1 (by decide),ie (show _<=997 by show (PA r _).2.natAbs<=997;omega) (by decide)⟩
  have smA:∀ g:S5->Int × Int,(∀ s∈ss,(g s).1.natAbs<=2 ^ 39/\(g s).2.natAbs<=2 ^ 39)->∀ i pl,Sm (bi g (ss.take i) pl).1/\Sm (bi g (ss.take i) pl).2:=λ g hg i pl=>by
   obtain ⟨a1,a2⟩:=accP_bd pl (ss.take i) λ s hs=>hg s (List.mem_of_mem_take hs)
   have hl:40*(ss.take i).length<=400:=by rw [iz];omega
   exact ⟨Sm.of_le (ie a1 (jB (by decide) hl)) (by decide),Sm.of_le (ie a2 (jB (by decide) hl)) (by decide)⟩
  refine ⟨λ σ' H2=>∃ (z8 z9 z10 z11 z12 z13 z14 z15:Option V) (kT kP:List (Key × V)),σ'=[some (.ref t0),some (.ref ls),some (.ref d),some (.int t),some (.int c),some (.ref dD),some (.ref dT),some (.ref dP),z8,z9,z10,z11,z12,z13,z14,z15]/\Same H H2/\D3 H2 dD dT dP kD kT kP (eZ rs r t) (es.map λ e:Ent=>e.1) (es.map λ e:Ent=>e.1) (λ n:Str=>PA r (atT n (t:Int))) (bi (cI r t) ss) (bi (cS r t) ss),?_,?_⟩
  ·refine ⟨_,rfl,ls,rfl,⟨_,s1.seq hS⟩,bn (K:=K) (a:=ls) (xs:=ts) (λ i σ H2=>i<=ss.length/\∃ (z8 z9 z10 z11 z12 z13 z14 z15:Option V) (kT kP:List (Key × V)),σ=[some (.ref t0),some (.ref ls),some (.ref d),some (.int t),some (.int c),some (.ref dD),some (.ref dT),some (.ref dP),z8,z9,z10,z11,z12,z13,z14,z15]/\Same H H2/\D3 H2 dD dT dP kD kT kP (eZ rs r t) (es.map λ e:Ent=>e.1) (es.map λ e:Ent=>e.1) (λ n:Str=>PA r (atT n (t:Int))) (bi (cI r t) (ss.take i)) (bi (cS r t) (ss.take i))) ⟨im _,_,_,_,_,_,_,_,_,kT,kP,rfl,s1,D⟩ (λ i σ H2 _ ⟨_,_,_,_,_,_,_,_,_,_,_,_,s2,_⟩=>s2.seq hS) ?_ ?_⟩
   ·clear D s1
    rintro i x σ H2 hx ⟨_,z8,z9,z10,z11,z12,z13,z14,z15,kT,kP,rfl,s2,D⟩
    obtain ⟨e,ee,he⟩:=hss.get hx
    have hi:i<ss.length:=(hV.mp ee).1
    have me:=ig ee
    obtain ⟨te,vg,vh,vc,rfl,hte,⟨pg,rfl,hg⟩,_⟩:=he.mono s2
    obtain ⟨so,le⟩:=sok e me
    have hpl2:=hpl.mono s2
    obtain ⟨d0,kvs,e0,hd,_⟩:=id hpl2
    cases e0
    refine ⟨te,_,rfl,SqT.of hte,rfl,_,_,rfl,_,_,rfl,_,_,rfl,_,_,rfl,_,_,rfl,rfl,?_⟩
    refine ⟨_,rfl,d,rfl,.inl ⟨kvs,.inl hd⟩,_,rfl,_,_,rfl,rfl,?_,?_⟩
    ·show e.nm.length+1<=sizeLine
     omega
    have et:(t:Int)-1=((t-1:Nat):Int):=by omega
    have ht1:=cU (t:=t-1) (by omega)
    have hl1:=ht1.len
    refine ⟨_,rfl,_,_,rfl,rfl,_,rfl,(by show ((t:Int)-1).natAbs.log2<1920;rw [et];exact ht1.log),_,_,rfl,rfl,?_,by show 2<=sizeLine;decide,λ p np=>?_⟩
    ·show (e.nm ++ ".").length+(Str.ofString (toString ((t:Int)-1))).length<=sizeLine
     rw [iJ,show (".":Str).length=1 from rfl,et]
     omega
    have s3:=aj (o:=.tup [.int 0,.int 1]) np
    have hp:upd H2 p (.tup [.int 0,.int 1]) p=some (.tup [.int 0,.int 1]):=ac
    generalize upd H2 p (.tup [.int 0,.int 1])=H3 at s3 hp ⊢
    refine ⟨_,DGet.k (k:=Sum.inr (atT e.nm ((t:Int)-1))) (s3 _ _ hd),?_⟩
    obtain ⟨v,kv',hd',ev,hv⟩:=(hpl2.mono s3).get2 (n:=atT e.nm ((t:Int)-1)) hp
    rw [s3 _ _ hd] at hd'
    cases hd'
    rw [ev]
    obtain ⟨pv',rfl,hpv⟩:=hv
    have q:=PA_ok nok (atT e.nm ((t:Int)-1))
    have g1:=so.g1
    have g2:=so.g2
    refine ⟨_,rfl,pv',pg,_,_,_,_,rfl,hpv,s3 _ _ hg,q.sm.1,q.sm.2,Sm.of_le (n:=20) (by omega) (by decide),Sm.of_le (n:=20) (by omega) (by decide),λ pc npc=>?_⟩
    have s4:=s3.trans (aj (o:=.tup [.int ((PA r (atT e.nm ((t:Int)-1))).1*e.gain.1),.int ((PA r (atT e.nm ((t:Int)-1))).2*e.gain.2)]) npc)
    have hpc:upd H3 pc (.tup [.int ((PA r (atT e.nm ((t:Int)-1))).1*e.gain.1),.int ((PA r (atT e.nm ((t:Int)-1))).2*e.gain.2)]) pc=some (.tup [.int (cI r t e).1,.int (cI r t e).2]):=by
     rw [ac]
     unfold cI mulP
     rw [et]
    generalize upd H3 pc (.tup [.int ((PA r (atT e.nm ((t:Int)-1))).1*e.gain.1),.int ((PA r (atT e.nm ((t:Int)-1))).2*e.gain.2)])=H4 at s4 hpc ⊢
    have D4:=D.mono s4
    obtain ⟨vT,eT,pT,rfl,hT⟩:=D4.t2.vals e.pl so.pl
    obtain ⟨b1,b2⟩:=bT e me
    obtain ⟨sT1,sT2⟩:=smA _ bT i e.pl
    have lT:kT.length<=900:=by rw [D.t2.len,hZ];omega
    have lP:kP.length<=900:=by rw [D.t3.len,hZ];omega
    refine ⟨_,rfl,_,rfl,dT,.ref pT,rfl,.inl ⟨kT,Sum.inr e.pl,.inl D4.h2,rfl,eT.symm⟩,_,rfl,pT,pc,_,_,_,_,rfl,hT,hpc,sT1,sT2,Sm.of_le b1 (by decide),Sm.of_le b2 (by decide),λ pn npn=>?_⟩
    have s5:=s4.trans (aj (o:=(.tup [.int ((bi (cI r t) (ss.take i) e.pl).1*(cI r t e).2+(cI r t e).1*(bi (cI r t) (ss.take i) e.pl).2),.int ((bi (cI r t) (ss.take i) e.pl).2*(cI r t e).2)])) npn)
    have hpn:upd H4 pn (.tup [.int ((bi (cI r t) (ss.take i) e.pl).1*(cI r t e).2+(cI r t e).1*(bi (cI r t) (ss.take i) e.pl).2),.int ((bi (cI r t) (ss.take i) e.pl).2*(cI r t e).2)]) pn=some (.tup [.int (addP (bi (cI r t) (ss.take i) e.pl) (cI r t e)).1,.int (addP (bi (cI r t) (ss.take i) e.pl) (cI r t e)).2]):=ac
    generalize upd H4 pn (.tup [.int ((bi (cI r t) (ss.take i) e.pl).1*(cI r t e).2+(cI r t e).1*(bi (cI r t) (ss.take i) e.pl).2),.int ((bi (cI r t) (ss.take i) e.pl).2*(cI r t e).2)])=H5 at s5 hpn ⊢
    have D5:=D.mono s5
    refine ⟨_,rfl,_,rfl,dT,_,rfl,DPut.k (k:=Sum.inr e.pl) D5.h2 (ax (by omega)),?_⟩
    have D6:=D5.put2 (n:=e.pl) nTD.symm nPT ⟨pn,rfl,hpn⟩
    have s6:=aC (o:=.dK (bo kT (Sum.inr e.pl) (.ref pn))) nT' (s2.trans s5)
    generalize upd H5 dT (.dK (bo kT (Sum.inr e.pl) (.ref pn)))=H6 at D6 s6 ⊢
    have hpl6:=hpl.mono s6
    obtain ⟨d0,kvs6,e0,hd6,_⟩:=id hpl6
    cases e0
    obtain ⟨vP,eP,pP,rfl,hP⟩:=D6.t3.vals e.pl so.pl
    obtain ⟨c1,c2⟩:=bP e me
    obtain ⟨sP1,sP2⟩:=smA _ bP i e.pl
    refine ⟨_,rfl,_,rfl,dP,.ref pP,rfl,.inl ⟨kP,Sum.inr e.pl,.inl D6.h3,rfl,eP.symm⟩,?_⟩
    refine ⟨_,rfl,d,rfl,.inl ⟨kvs6,.inl hd6⟩,_,rfl,_,_,rfl,rfl,?_,?_⟩
    ·show e.nm.length+1<=sizeLine
     omega
    refine ⟨_,rfl,_,rfl,ht.log,_,_,rfl,rfl,?_,by show 2<=sizeLine;decide,λ p2 np2=>?_⟩
    ·show (e.nm ++ ".").length+_<=sizeLine
     rw [iJ,show (".":Str).length=1 from rfl]
     exact ie (jK hlt _) (by omega)
    have s7:=aj (o:=.tup [.int 0,.int 1]) np2
    have hp2:upd H6 p2 (.tup [.int 0,.int 1]) p2=some (.tup [.int 0,.int 1]):=ac
    generalize upd H6 p2 (.tup [.int 0,.int 1])=H7 at s7 hp2 ⊢
    refine ⟨_,DGet.k (k:=Sum.inr (atT e.nm (t:Int))) (s7 _ _ hd6),?_⟩
    obtain ⟨v7,kv7,hd7,ev7,hv7⟩:=(hpl6.mono s7).get2 (n:=atT e.nm (t:Int)) hp2
    rw [s7 _ _ hd6] at hd7
    cases hd7
    rw [ev7]
    obtain ⟨pw',rfl,hpw⟩:=hv7
    have hpw:H7 pw'=some (.tup [.int (cS r t e).1,.int (cS r t e).2]):=hpw
    have D7:=D6.mono s7
    refine ⟨pP,pw',_,_,_,_,rfl,s7 _ _ hP,hpw,sP1,sP2,Sm.of_le c1 (by decide),Sm.of_le c2 (by decide),λ pm npm=>?_⟩
    have s8:=s7.trans (aj (o:=(.tup [.int ((bi (cS r t) (ss.take i) e.pl).1*(cS r t e).2+(cS r t e).1*(bi (cS r t) (ss.take i) e.pl).2),.int ((bi (cS r t) (ss.take i) e.pl).2*(cS r t e).2)])) npm)
    have hpm:upd H7 pm (.tup [.int ((bi (cS r t) (ss.take i) e.pl).1*(cS r t e).2+(cS r t e).1*(bi (cS r t) (ss.take i) e.pl).2),.int ((bi (cS r t) (ss.take i) e.pl).2*(cS r t e).2)]) pm=some (.tup [.int (addP (bi (cS r t) (ss.take i) e.pl) (cS r t e)).1,.int (addP (bi (cS r t) (ss.take i) e.pl) (cS r t e)).2]):=ac
    have D8:=D6.mono s8
    generalize upd H7 pm (.tup [.int ((bi (cS r t) (ss.take i) e.pl).1*(cS r t e).2+(cS r t e).1*(bi (cS r t) (ss.take i) e.pl).2),.int ((bi (cS r t) (ss.take i) e.pl).2*(cS r t e).2)])=H8 at s8 hpm D8 ⊢
    refine ⟨_,rfl,_,rfl,dP,_,rfl,DPut.k (k:=Sum.inr e.pl) D8.h3 (ax (by omega)),?_⟩
    have D9:=D8.put3 (n:=e.pl) nPD.symm nPT.symm ⟨pm,rfl,hpm⟩
    have upA:∀ g:S5->Int × Int,upf (bi g (ss.take i)) e.pl (addP (bi g (ss.take i) e.pl) (g e))=bi g (ss.take (i+1)):=λ g=>funext λ m=>by
     rw [iH,ee,iE,gA]
     unfold upf
     by_cases q:m=e.pl
     ·rw [if_pos q,if_pos q.symm,q]
     ·rw [if_neg q,if_neg λ z=>q z.symm]
    rw [upA,upA,show fW (es.map λ e:Ent=>e.1) e.pl=es.map (λ e:Ent=>e.1) from if_pos so.pl] at D9
    exact ⟨hi,_,_,_,_,_,_,_,_,_,_,rfl,aC nP' (s6.trans s8),D9⟩
   ·rintro σ H2 ⟨_,z8,z9,z10,z11,z12,z13,z14,z15,kT,kP,rfl,s2,D⟩
    rw [hss.1,iB] at D
    exact ⟨_,_,_,_,_,_,_,_,kT,kP,rfl,s2,D⟩
  clear D s1
  rintro σ' H1 ⟨z8,z9,z10,z11,z12,z13,z14,z15,kT,kP,rfl,s1,D⟩
  refine ⟨_,rfl,_,rfl,_,rfl,by show 3<=sizeLine;decide,λ tt ntt=>?_⟩
  have s2:=aj (o:=.tup [.ref dD,.ref dT,.ref dP]) ntt
  have D2:=D.mono s2
  have ndk:(eZ rs r t).Nodup:=ndr.filter _
  exact k _ _ (s1.trans s2) ⟨tt,dD,dT,dP,rfl,ac,⟨dD,kD,rfl,D2.h1,D2.t1,ndk⟩,⟨dT,kT,rfl,D2.h2,D2.t2,nde⟩,⟨dP,kP,rfl,D2.h3,D2.t3,nde⟩⟩
structure St63 (H:Hp) (t lp lw ls lq:Addr) (tp tw ts tq:List V) (es:List Ent) (rs:List W7) (ss:List S5) (ws:List bj):Prop where
 td:Told H t lp lw tp tw es rs
 hs:H ls=some (.lst ts)
 rs':RowAt S5Is H ts ss
 hq:H lq=some (.lst tq)
 rq:RowAt DcpIs H tq ws
theorem St63.mono {H H':Hp} {t lp lw ls lq:Addr} {tp tw ts tq:List V} {es:List Ent} {rs:List W7} {ss:List S5} {ws:List bj} (h:St63 H t lp lw ls lq tp tw ts tq es rs ss ws) (s:Same H H'):St63 H' t lp lw ls lq tp tw ts tq es rs ss ws:=⟨h.td.mono s,s _ _ h.hs,h.rs'.mono λ _ _ z=>z.mono s,s _ _ h.hq,h.rq.mono λ _ _ z=>z.mono s⟩
structure A65 (H:Hp) (t lp lw ls lq wl pd:Addr) (tp tw ts tq tv:List V) (es:List Ent) (rs:List W7) (ss:List S5) (ws:List bj) (r:bj):Prop where
 st:St63 H t lp lw ls lq tp tw ts tq es rs ss ws
 wy:H wl=some (.lst tv)
 wr:RowAt W7Is H tv (rsN rs ss ws.length ws.length)
 pl:DcpIs H (.ref pd) r
theorem A65.mono {H H':Hp} {t lp lw ls lq wl pd:Addr} {tp tw ts tq tv:List V} {es:List Ent} {rs:List W7} {ss:List S5} {ws:List bj} {r:bj} (h:A65 H t lp lw ls lq wl pd tp tw ts tq tv es rs ss ws r) (s:Same H H'):A65 H' t lp lw ls lq wl pd tp tw ts tq tv es rs ss ws r:=⟨h.st.mono s,s _ _ h.wy,h.wr.mono λ _ _ z=>z.mono s,h.pl.mono s⟩
theorem TuIn.mono {H H':Hp} {p ls lw:Addr} {ps:List (Str × Rat)} {ds ss:List WD} {ws:List ck} {ts tw:List V} (h:TuIn K a H p ls lw ps ds ss ws ts tw) (s:Same H H'):TuIn K a H' p ls lw ps ds ss ws ts tw:=⟨h.net.mono s,h.np,s.seq h.hs,h.rs.mono λ _ _ z=>z.mono s,s.seq h.hw,h.rw.mono λ _ _ z=>z.mono s,λ d hd=>(h.ap d hd).mono s,h.sub,h.st,h.nd,h.lp,h.ld,h.lss,h.lws,h.ln,h.td,h.ts',h.ok⟩
theorem NetAt.apn {H H':Hp} {p d:Addr} {ps:List (Str × Rat)} {ds:List WD} (h:NetAt a H p ps ds) (s:Same H H') (hd:H d=none):NetAp a H' p d ps ds:=by
 obtain ⟨dx,dw,dy,h1,hw,hy⟩:=h
 obtain ⟨kw,w1,_⟩:=id hw
 obtain ⟨ky,y1,_⟩:=id hy
 exact ⟨dx,dw,dy,s _ _ h1,hw.mono s,hy.mono s,(λ z=>by rw [<- z,w1] at hd;cases hd),(λ z=>by rw [<- z,y1] at hd;cases hd)⟩
theorem nmN (rs:List W7) (ss:List S5) (ws:List bj):(dsN (dsT rs) (ss.map S5.d) (ws.map vR).length (ws.map vR).length).map (·.nm)=(rsN rs ss ws.length ws.length).map (·.nm):=by
 rw [hZ,dsN_eq,dsT_n]
theorem byin {n:Nat} {c1 c2:Int} {es:List Ent} {rs:List W7} {ss:List S5} {ws:List bj} {H:Hp} {p l9 l10 d:Addr} {t9 t10:List V} {r:bj} (pu:Pure63 n c1 c2 es rs ss ws) (D:TuIn K a H p l9 l10 (psT es) (dsT rs) (ss.map S5.d) (ws.map vR) t9 t10) (hd:DctIs a H (.ref d) (vR r)) (ok:∀ n∈r.1,N50 (r.2 n)):ByIn K a H p l9 l10 d (psT es) (dsT rs) (ss.map S5.d) (ws.map vR) t9 t10 (vR r):=by
 refine ⟨D,hd,λ x hx=>?_,λ n=>?_,?_⟩
 ·obtain ⟨s,hs,rfl⟩:=iy.mp hx
  have o:=pu.sok s hs
  have g1:=o.g1
  have g2:=o.g2
  refine ⟨Bd.divInt (n:=20) (by omega) (by omega),?_⟩
  show Bd 20 (fg .sto (Rat.divInt (s.gain.2-s.gain.1) s.gain.2))
  rw [gain_sto (by omega)]
  exact Bd.divInt (n:=20) (by omega) (by omega)
 ·rw [amt_PA]
  exact (PA_ok ok n).bd.mono (by decide)
 ·rw [nmN]
  exact rsN_nd pu.nd (by have:=pu.lw12;omega)
theorem DcpIs.lst {H:Hp} {l:Addr} {ts us:List V} {v:V} {r:bj} (h:DcpIs H v r) (hl:H l=some (.lst ts)):DcpIs (upd H l (.lst us)) v r:=by
 obtain ⟨d,kvs,e,f,t,n⟩:=h
 exact ⟨d,kvs,e,by rw [ai (bz f hl (by intro z;cases z))];exact f,t.mono λ _ _ z=>DueIs.ko z (.lst hl),n⟩
theorem DuIs.lst {H:Hp} {l:Addr} {ts us:List V} {v:V} {x:Du3} (h:DuIs H v x) (hl:H l=some (.lst ts)):DuIs (upd H l (.lst us)) v x:=let ⟨t,d1,d2,d3,e,f,h1,h2,h3⟩:=h;⟨t,d1,d2,d3,e,by rw [ai (bz f hl (by intro z;cases z))];exact f,h1.lst hl,h2.lst hl,h3.lst hl⟩
theorem alks {n:Nat} {c1 c2:Int} {es:List Ent} {rs:List W7} {ss:List S5} {ws:List bj} (p:Pure63 n c1 c2 es rs ss ws) {r:bj} (h:∀ n∈r.1,N50 (r.2 n)):∀ (i:Nat) (x:Tr3) (d:Du3),((List.range (ws.map vR).length).map λ i:Nat=>byR (psT es) (dsT rs) (ss.map S5.d) (vR r) ((i+1:Nat):Int))[i]?=some x->((List.range ws.length).map λ i:Nat=>dueR es rs ss r (i+1))[i]?=some d->Alk3 x d:=λ i x d hx hd=>by
 have hi:i<ws.length:=by
  have:=(hV.mp hd).1
  rw [hZ,List.length_range] at this
  exact this
 rw [iq,List.getElem?_range (by rw [hZ];exact hi)] at hx
 rw [iq,List.getElem?_range hi] at hd
 cases hx
 cases hd
 exact alk3 p h (by omega)
noncomputable def RwOk (H0 H:Hp) (v:V):Prop:=∃ t d1 d2 d3,v=.ref t/\H t=some (.tup [.ref d1,.ref d2,.ref d3])/\(∃ kv,H d1=some (.dK kv))/\(∃ kv,H d2=some (.dK kv))/\(∃ kv,H d3=some (.dK kv))/\H0 d1=none/\H0 d2=none/\H0 d3=none
theorem RwOk.of {H0 H:Hp} {v:V} {x:Tr3} (h:TrIs a H0 H v x):RwOk H0 H v:=by
 obtain ⟨t,d1,d2,d3,e,f,⟨_,k1,e1,f1,_⟩,⟨_,k2,e2,f2,_⟩,⟨_,k3,e3,f3,_⟩,n1,n2,n3⟩:=h
 cases e1
 cases e2
 cases e3
 exact ⟨t,d1,d2,d3,e,f,⟨k1,f1⟩,⟨k2,f2⟩,⟨k3,f3⟩,n1,n2,n3⟩
theorem RwOk.clr {H0 H:Hp} {v:V} {d:Addr} {kv:List (Key × V)} (h:RwOk H0 H v) (hd:H d=some (.dK kv)):RwOk H0 (upd H d (.dK [])) v:=by
 obtain ⟨t,d1,d2,d3,e,f,h1,h2,h3,n⟩:=h
 have up:∀ b,(∃ kv,H b=some (.dK kv))->∃ kv,upd H d (.dK []) b=some (.dK kv):=λ b ⟨k,f⟩=>by
  by_cases hb:b=d
  ·rw [hb,ac]
   exact ⟨_,rfl⟩
  ·rw [ai hb]
   exact ⟨k,f⟩
 exact ⟨t,d1,d2,d3,e,by rw [ai (bz f hd (by intro z;cases z))];exact f,up _ h1,up _ h2,up _ h3,n⟩
structure Bt (i:Int):Prop where
 le:Builtin.Int.intBits i<=2 ^ 20
inductive IspLaw (K:W.Frag) (vs:List V) (H:Hp) (Q:VK):Prop
 | mk (l:Addr) (ns:List Int) (h1:vs=[.ref l]) (h2:SqL K H l (ns.map V.int)) (h3:ns.length<=63) (h4:(∀ i∈ns,Bt i)) (h5:∀ H',Q (.bl true) H'):IspLaw K vs H Q
noncomputable def spLaw (K:W.Frag):Sp:=λ vs H Q _=>IspLaw K vs H Q
theorem ok_law {f:Addr} {fd:FuncData} (N:Fun K "law" "law" gC f fd) (T:TX K mg a):FnOk P w K mg base CX0 14 f fd ["_law_script"] (spLaw K):=by
 refine N.ok sc_law (λ vs H Q E h=>?_) (λ cdv A outer s₀ H vs Q E hr h=>?_)
 ·obtain ⟨l,ns,rfl,_⟩:=h
  rfl
 ·obtain ⟨l,ns,rfl,hS,hlen,hbt,k⟩:=h
  refine ⟨_,(ag (au (i:=1) sc_law.nd rfl (Or.inl rfl) (ak aJ ae (ak aL (ay (aA T) hr am (aa (pv 0) (aa ae ad))) ae)))
   (ag (au (i:=2) sc_law.nd rfl (Or.inl rfl) ae)
   (aX (aS (aG op_gt (pv 1) ae (aM _)) (ah (au (i:=2) sc_law.nd rfl (Or.inl rfl) (ak aL (ak aY (ay (aA T) hr am (aa (pv 0) (aa ae ad))) ae) (ak aJ (pv 1) ae)))) aE)
   (ag (au (i:=3) sc_law.nd rfl (Or.inr rfl) (ay (ok_law_net T) hr am (aa (pv 0) (aa (pv 1) (aa (pv 2) ad)))))
   (ag (au (i:=4) sc_law.nd rfl (Or.inr rfl) (ay (ok_law_stores T) hr am (aa (pv 0) (aa ae (aa (aD az (pv 3) ae (λ _ _=>rfl)) (aa (ak aL (ak aY (ay (aA T) hr am (aa (pv 0) (aa ae ad))) ae) (ak aJ (aH (call_max2 rfl) (by rfl) T.z_max PyProof.Rows.boot_max (aa ae (aa (pv 1) ad))) ae)) ad))))))
   (aX (au (i:=5) sc_law.nd rfl (Or.inr rfl) (ay (ok_law_wants T) hr am (aa (pv 0) (aa ae (aa (aD az (pv 3) ae (λ _ _=>rfl)) (aa (ak aL (ak aY (ay (aA T) hr am (aa (pv 0) (aa ae ad))) ae) (ak aJ (ak bh ae (pv 1)) ae)) ad))))))
   (ag (au (i:=6) sc_law.nd rfl (Or.inl rfl) (aD az (ay (ok_law_turned T) hr am (aa (pv 3) (aa (pv 4) (aa (pv 5) ad)))) ae (λ _ _=>rfl)))
   (aX (au (i:=7) sc_law.nd rfl (Or.inr rfl) (ay (ok_law_plan T) hr am (aa (pv 0) (aa (pv 6) ad))))
   (ag (au (i:=8) sc_law.nd rfl (Or.inl rfl) (ay (ok_law_built T) hr am (aa (pv 3) ad)))
   (aX (eK (i:=9) (xs:=["_law_store_here"]) (rest:=[]) sc_law.nd rfl rfl rfl (aU (pv 4))
   (λ pins fp C' s' H'=>(aq (i:=0) (show (["_law_store_here"]:List Str).Nodup by decide +kernel) rfl (Or.inl rfl))) (λ pins fp C' s' H'=>cF)
   (λ pins fp C' s' H'=>(ay (ok_law_store T) hr am (aa (pv 0) ad)))
   (Clos.none (by decide +kernel) (by decide +kernel)) (Reads.many (ys:=[]) (js:=[]) True.intro))
   (aX (eK (i:=10) (xs:=["_law_row"]) (rest:=[]) sc_law.nd rfl rfl rfl (aU (pv 5))
   (λ pins fp C' s' H'=>(aq (i:=0) (show (["_law_row"]:List Str).Nodup by decide +kernel) rfl (Or.inl rfl))) (λ pins fp C' s' H'=>cF)
   (λ pins fp C' s' H'=>(ay (dS T) hr am (aa (pv 0) ad)))
   (Clos.none (by decide +kernel) (by decide +kernel)) (Reads.many (ys:=[]) (js:=[]) True.intro))
   (ag (au (i:=11) sc_law.nd rfl (Or.inl rfl) (pv 7))
   (aX (aR ix rfl (fu rfl T.z_range (aa (ak aL (ay (aA T) hr am (aa (pv 0) (aa ae ad))) ae) ad)) (aq (i:=12) sc_law.nd rfl (Or.inl rfl)) (ag (au (i:=13) sc_law.nd rfl (Or.inl rfl) (ak bh (ak aY (ay (aA T) hr am (aa (pv 0) (aa ae ad))) ae) (ak aJ ae (ak aQ ae (pv 12)))))
   (ag (au (i:=14) sc_law.nd rfl (Or.inl rfl) (ay (ok_law_strange T) hr am (aa (pv 3) (aa (pv 4) (aa (aH a8 (by rfl) T.z_len iU (aa (pv 5) ad)) (aa (pv 13) (aa (ay (eW T) hr am (aa ae (aa (ay (aA T) hr am (aa (pv 0) (aa ae ad))) ad))) ad)))))))
   (ah (au (i:=11) sc_law.nd rfl (Or.inl rfl) (ay (ok_law_put_in T) hr am (aa (pv 11) (aa (pv 14) (aa (ak aL (ak aY (pv 13) ae) (ak aJ (aH call_lenD (by rfl) T.z_len iU (aa (pv 11) ad)) ae)) ad)))))))))
   (aX (aS (aG op_gt (ak aL (ay (aA T) hr am (aa (pv 0) (aa ae ad))) ae) ae (aM _)) (ah (aS (aG op_ne (ay (ok_law_refused T) hr am (aa (pv 8) (aa (pv 9) (aa (pv 10) (aa (ay (dS T) hr am (aa (pv 11) ad)) ad))))) (ay (ok_law_first T) hr am (aa (pv 11) (aa (pv 6) ad))) (aM _)) (ah (aw f9)) aE)) aE)
   (ag (au (i:=15) sc_law.nd rfl (Or.inl rfl) (ay (dS T) hr am (aa (pv 7) ad)))
   (aX (eK (i:=16) (xs:=["_law_turn"]) (rest:=["_law_plan_here","_law_stores_here","_law_told","_law_wants_here"]) sc_law.nd rfl rfl rfl (pi_range2 rfl T.z_range (aa ae (aa (ak aJ (aH a8 (by rfl) T.z_len iU (aa (pv 5) ad)) ae) ad)))
   (λ pins fp C' s' H'=>(aq (i:=0) (show (["_law_turn","_law_plan_here","_law_stores_here","_law_told","_law_wants_here"]:List Str).Nodup by decide +kernel) rfl (Or.inl rfl))) (λ pins fp C' s' H'=>cF)
   (λ pins fp C' s' H'=>(ay (ok_law_due T) hr am (aa (pv 3) (aa (pv 2) (aa (pv 1) (aa (pv 0) (aa (aH (r:=rLen K) a8 (by rfl) T.z_len iU (aa (pv 4) ad)) ad)))))))
   (Clos.many (ys:=["_law_wants_here","_law_told","_law_stores_here","_law_plan_here"]) rfl ⟨rfl,rfl,rfl,rfl,True.intro⟩ rfl (by decide +kernel)) (Reads.many (ys:=["_law_plan_here","_law_stores_here","_law_told","_law_wants_here"]) (js:=[7,4,3,5]) ⟨⟨rfl,rfl,rfl⟩,⟨rfl,rfl,rfl⟩,⟨rfl,rfl,rfl⟩,⟨rfl,rfl,rfl⟩,True.intro⟩))
   (ag (au (i:=17) sc_law.nd rfl (Or.inl rfl) (ay (ok_by_turns T) hr am (aa (pv 8) (aa (pv 9) (aa (pv 10) (aa (pv 15) ad))))))
   (aX (aS (e9 (d7 (ay (fR T) hr am (aa (pv 17) (aa (pv 16) ad))))) (ah (aw f9)) aE)
   (aX (aR ix rfl (aU (pv 17)) (aq (i:=18) sc_law.nd rfl (Or.inl rfl)) (ag (aT (pe_bm0 PySem.F.plainAttrs_dict PySem.F.slot_dict_clear PySem.F.type_dict_clear mt_dclear (aD az (pv 18) ae (λ _ _=>rfl))))
   (ag (aT (pe_bm0 PySem.F.plainAttrs_dict PySem.F.slot_dict_clear PySem.F.type_dict_clear mt_dclear (aD az (pv 18) ae (λ _ _=>rfl))))
   (ah (aT (pe_bm0 PySem.F.plainAttrs_dict PySem.F.slot_dict_clear PySem.F.type_dict_clear mt_dclear (aD az (pv 18) ae (λ _ _=>rfl))))))))
   (ah (aw (pe_and (ay (fR T) hr am (aa (ay (ok_by_turns T) hr am (aa (pv 8) (aa (pv 9) (aa (pv 10) (aa (pv 15) ad))))) (aa (pv 16) ad))) (pe_one (ay (ok_law_stays T) hr am (aa (pv 15) (aa (pv 7) ad)))))))))))))))))))))))))),?_⟩
  try dsimp only [aK,Cx.nox,Cx.wish]
  obtain ⟨n0,n1⟩:=aN (aP ns 0) (show (0:Int)<4 by decide)
  obtain ⟨n,hn⟩:∃ n:Nat,1+aP ns 0 % 4=(n:Int):=iT (by omega)
  refine ⟨_,rfl,l,ns,0,rfl,hS,by decide,_,_,rfl,rfl,by show (0:Int)<4;decide,_,_,rfl,rfl,?_⟩
  refine ⟨λ σ' H'=>∃ m:Nat,σ'=[some (.ref l),some (.int n),some (.int m),none,none,none,none,none,none,none,none,none,none,none,none,none,none,none,none]/\H'=H/\m<=n/\(n<2->m=0),?_,?_⟩
  ·dsimp only
   rw [hn]
   refine ⟨_,rfl,_,_,rfl,rfl,_,rfl,ifB (λ h1=>?_) (λ h1=>?_)⟩
   ·refine ⟨_,rfl,l,ns,0,rfl,hS,by decide,_,_,rfl,rfl,⟨by decide,by decide⟩,_,rfl,_,_,rfl,rfl,_,_,rfl,rfl,by show (0:Int)<(n:Int)+1;omega,?_⟩
    obtain ⟨z0,z1⟩:=aN (aP ns 0 / 4) (show (0:Int)<(n:Int)+1 by omega)
    obtain ⟨m,hm⟩:=iT z0
    refine ⟨m,?_,rfl,by omega,λ h=>?_⟩
    ·rw [<- hm]
     rfl
    ·have:(n:Int) > 1:=h1
     omega
   ·exact ⟨0,rfl,rfl,by omega,λ _=>rfl⟩
  rintro σ' H' ⟨m,rfl,eH,mn,m0⟩
  rw [eH]
  clear eH
  refine ⟨_,rfl,_,rfl,_,rfl,l,ns,n,m,rfl,hS,by omega,by omega,λ h=>m0 h,λ t lp lw tp tw es rs H1 s1 h1 h2 h3 h4 h5 le en eok lr rn rok=>?_⟩
  have td:Told H1 t lp lw tp tw es rs:=⟨h1,h2,h3,h4,h5⟩
  have sqt:=SqT.of (K:=K) h1
  have hS1:=s1.seq hS
  refine ⟨_,rfl,_,rfl,t,_,_,_,rfl,rfl,sqt,rfl,?_⟩
  obtain ⟨mx,hmx⟩:∃ mx:Nat,(if (n:Int) > 2 then (n:Int) else 2)=(mx:Int)/\mx<=max 2 n:=by
   by_cases h:(n:Int) > 2
   ·exact ⟨n,by rw [if_pos h],by omega⟩
   ·exact ⟨2,by rw [if_neg h];rfl,by omega⟩
  obtain ⟨hmx,hmx2⟩:=hmx
  obtain ⟨z0,z1⟩:=aN (aP ns 0 / 20) (show (0:Int)<(mx:Int)+1 by omega)
  obtain ⟨c,hc⟩:=iT z0
  refine ⟨_,rfl,l,ns,0,rfl,hS1,by decide,_,_,rfl,rfl,⟨by decide,by decide⟩,_,rfl,_,_,rfl,_,_,rfl,rfl,_,_,rfl,rfl,by show (0:Int)<(if (n:Int) > 2 then (n:Int) else 2)+1;rw [hmx];omega,?_⟩
  have vs4:([V.ref l,V.int 24,V.ref lp,V.int (aP ns 0 / 20 % ((if (n:Int) > 2 then (n:Int) else 2)+1))]:List V)=[V.ref l,V.int ((24:Nat):Int),V.ref lp,V.int (c:Int)]:=by rw [hmx,hc];rfl
  refine ⟨l,lp,ns,24,c,tp,es,vs4,hS1,by decide,by omega,SqL.of h2,h4,by omega,by omega,λ ls H2 ts ss nls s2 hls rS lss sn sok=>?_⟩
  obtain ⟨w12,hw12⟩:∃ w12,12 / n=w12:=⟨_,rfl⟩
  have h12:w12<=12:=by rw [<- hw12];exact Nat.div_le_self _ _
  have e12:(12:Int).fdiv (n:Int)=(w12:Int):=by
   rw [<- hw12]
   obtain rfl | rfl | rfl | rfl:n=1∨n=2∨n=3∨n=4:=by omega
   all_goals rfl
  refine ⟨λ σ' H'=>∃ t lp lw ls lq tp tw ts tq es rs ss ws,σ'=[some (.ref l),some (.int n),some (.int m),some (.ref t),some (.ref ls),some (.ref lq),none,none,none,none,none,none,none,none,none,none,none,none,none]/\SqL K H' l (ns.map V.int)/\St63 H' t lp lw ls lq tp tw ts tq es rs ss ws/\Pure63 n (aP ns 1) (aP ns 2) es rs ss ws,?_,?_⟩
  ·have td2:=td.mono s2
   have hS2:=s2.seq hS1
   obtain ⟨y0,y1⟩:=aN (aP ns 0 / 100) (show (0:Int)<(w12:Int)+1 by omega)
   obtain ⟨tn,htn⟩:=iT y0
   refine ⟨_,rfl,_,rfl,t,_,_,_,rfl,rfl,SqT.of td2.ht,rfl,_,rfl,l,ns,0,rfl,hS2,by decide,_,_,rfl,rfl,⟨by decide,by decide⟩,_,rfl,_,_,rfl,rfl,?d1,_,_,rfl,rfl,_,_,rfl,rfl,?d2,?_⟩
   case d1=>exact ⟨by omega,Sm.of_le (n:=20) (by omega) (by decide)⟩
   case d2=>show (0:Int)<(12:Int).fdiv (n:Int)+1;rw [e12];omega
   have vs5:([V.ref l,V.int 37,V.ref lp,V.int (aP ns 0 / 100 % ((12:Int).fdiv (n:Int)+1))]:List V)=[V.ref l,V.int ((37:Nat):Int),V.ref lp,V.int (tn:Int)]:=by rw [e12,htn];rfl
   refine ⟨l,lp,ns,37,tn,tp,es,vs5,hS2,by decide,by omega,SqL.of td2.hp,td2.rp,by omega,by rw [en];exact gw (by omega),λ lq H3 tq ws nlq s3 hlq rq lws wok=>?_⟩
   exact ⟨t,lp,lw,ls,lq,tp,tw,ts,tq,es,rs,ss,ws,rfl,s3.seq hS2,⟨td2.mono s3,s3 _ _ hls,rS.mono λ _ _ z=>z.mono s3,hlq,rq⟩,⟨by omega,by omega,le,en,eok,by omega,λ h=>by rw [lr];exact m0 h,by rw [lr];exact rn,rok,by omega,by rw [lss];exact sn,sok,by rw [lws,hw12];omega,wok⟩⟩
  clear hS hS1 td sqt h1 h2 h3 h4 h5 le en eok lr rn rok s1 s2 hls rS lss sn sok nls
  rintro σ' H5 ⟨t,lp,lw,ls,lq,tp,tw,ts,tq,es,rs,ss,ws,rfl,hS,st,pu⟩
  have l12:=pu.lw12
  have n4:=pu.n4
  have lss:ss.length<=4:=by have:=pu.ls;omega
  have lrs:rs.length<=4:=by have:=pu.lr;omega
  have les:es.length<=4:=by have:=pu.le;omega
  have ltq:tq.length=ws.length:=st.rq.1
  have lts:ts.length=ss.length:=st.rs'.1
  have D0:TurIn K H5 ls lq ts tq es rs ss ws:=⟨SqL.of st.hs,st.rs',SqL.of st.hq,st.rq,by omega,by omega,by omega,l12,λ e he=>pu.lne (iy.mpr ⟨e,he,rfl⟩),λ r hr=>⟨pu.lnr hr,pu.lne (pu.rok r hr).st,pu.lne (pu.rok r hr).go⟩,λ r hr=>⟨pu.lns hr,pu.lne (pu.sok r hr).pl⟩⟩
  refine ⟨_,rfl,_,rfl,_,rfl,t,lp,lw,ls,lq,tp,tw,ts,tq,es,rs,ss,ws,rfl,st.td,D0,λ t' lp' wl tp' tv H6 s6 td6=>?_⟩
  refine ⟨t',_,_,_,rfl,rfl,SqT.of td6.ht,rfl,?_⟩
  refine ⟨λ σ' H'=>∃ pd r,σ'=[some (.ref l),some (.int n),some (.int m),some (.ref t),some (.ref ls),some (.ref lq),some (.ref wl),some (.ref pd),none,none,none,none,none,none,none,none,none,none,none]/\SqL K H' l (ns.map V.int)/\A65 H' t lp lw ls lq wl pd tp tw ts tq tv es rs ss ws r/\PlnOk r 24/\∀ n∈r.1,n∈(rsN rs ss ws.length ws.length).map (·.nm),?_,?_⟩
  ·refine ⟨_,rfl,_,rfl,l,wl,ns,tv,rsN rs ss ws.length ws.length,rfl,s6.seq hS,SqL.of td6.hw,td6.rw,pu.tok2.l24,pu.tok2.nw,λ pd H7 r npd s7 hpd ok sub=>?_⟩
   exact ⟨pd,r,rfl,s7.seq (s6.seq hS),⟨st.mono (s6.trans s7),s7 _ _ td6.hw,td6.rw.mono λ _ _ z=>z.mono s7,hpd⟩,ok,sub⟩
  clear hS st D0 s6 td6
  rintro σ' H7 ⟨pd,r,rfl,hS,A,ok,sub⟩
  refine ⟨_,rfl,t,lp,lw,tp,tw,es,rs,rfl,A.st.td,pu.tok,λ p H8 s8 hnn=>?_⟩
  have hn8:=hnn.at_
  have A8:=A.mono s8
  have hS8:=s8.seq hS
  clear hnn hS A
  refine ⟨λ σ' H'=>∃ l9 t9,σ'=[some (.ref l),some (.int n),some (.int m),some (.ref t),some (.ref ls),some (.ref lq),some (.ref wl),some (.ref pd),some (.ref p),some (.ref l9),none,none,none,none,none,none,none,none,none]/\Same H8 H'/\H' l9=some (.lst t9)/\RowAt (WayE a) H' t9 (ss.map S5.d),?_,?_⟩
  ·refine ⟨_,rfl,ls,rfl,⟨_,SqL.of A8.st.hs⟩,λ l7 nl7=>?_⟩
   refine bB (K:=K) (a:=ls) (xs:=ts) (λ i H7=>i<=ss.length/\Same H8 H7/\∃ t7,H7 l7=some (.lst t7)/\RowAt (WayE a) H7 t7 ((ss.take i).map S5.d)) ⟨im _,aj nl7,[],ac,RowAt.nil⟩ (λ i H7 ⟨_,s7,_⟩=>SqL.of (s7 _ _ A8.st.hs)) ?_ ?_
   ·rintro i x H7 hx ⟨_,s7,t7,h7,hv⟩
    obtain ⟨r,er,hr0⟩:=A8.st.rs'.get hx
    have hi:i<ss.length:=(hV.mp er).1
    have so:=pu.sok r (ig er)
    have lt7:t7.length<=12:=by rw [hv.1,hZ,iz];omega
    refine g1 ⟨⟨[_],rfl,rfl⟩,yes ?_⟩
    refine ⟨_,rfl,x,r,_,rfl,hr0.mono s7,so,λ p H8 np s8 hp=>?_⟩
    have h8:=s8 _ _ h7
    have sy:Stays a H8 (upd H8 l7 (.lst (t7++[.ref p]))):=.put h8 (λ _ _ _ z=>by cases z)
    refine ⟨_,h8,ax (by omega),dj (by rw [lts];exact hi) ⟨hi,aC nl7 (s7.trans s8),_,ac,?_⟩⟩
    rw [iH,er,iE,iu]
    exact RowAt.snoc (hv.mono λ v x z=>(z.mono s8).keep sy) (hp.keep sy)
   ·rintro H7 ⟨_,s7,t7,h7,hv⟩
    rw [lts,iB] at hv
    exact ⟨l7,t7,rfl,s7,h7,hv⟩
  rintro σ' H9 ⟨l9,t9,rfl,s9,h9,hv9⟩
  have hn9:=hn8.mono s9
  have A9:=A8.mono s9
  have hS9:=s9.seq hS8
  clear hn8 A8 hS8 s9 s8
  refine ⟨λ σ' H'=>∃ l10 t10,σ'=[some (.ref l),some (.int n),some (.int m),some (.ref t),some (.ref ls),some (.ref lq),some (.ref wl),some (.ref pd),some (.ref p),some (.ref l9),some (.ref l10),none,none,none,none,none,none,none,none]/\Same H9 H'/\TuIn K a H' p l9 l10 (psT es) (dsT rs) (ss.map S5.d) (ws.map vR) t9 t10,?_,?_⟩
  ·refine ⟨_,rfl,lq,rfl,⟨_,SqL.of A9.st.hq⟩,λ l6 nl6=>?_⟩
   refine bB (K:=K) (a:=lq) (xs:=tq) (λ i H6=>i<=ws.length/\Same H9 H6/\∃ t6,H6 l6=some (.lst t6)/\RowAt (DctIs a) H6 t6 ((ws.take i).map vR)/\∀ d,V.ref d∈t6->H9 d=none/\d≠l6) ⟨im _,aj nl6,[],ac,RowAt.nil,λ d hd=>absurd hd ib⟩ (λ i H6 ⟨_,s6,_⟩=>SqL.of (s6 _ _ A9.st.hq)) ?_ ?_
   ·rintro i x H6 hx ⟨_,s6,t6,h6,hv,nw⟩
    obtain ⟨r,er,hr0⟩:=A9.st.rq.get hx
    have hi:i<ws.length:=(hV.mp er).1
    have wo:=pu.wok r (ig er)
    have wl12:=wo.len
    have lt6:t6.length<=12:=by rw [hv.1,hZ,iz];omega
    refine g1 ⟨⟨[_],rfl,rfl⟩,yes ?_⟩
    refine ⟨_,rfl,x,r,rfl,hr0.mono s6,wo.ok,by omega,λ d' H7 nd' s7 hd'=>?_⟩
    have h7:=s7 _ _ h6
    have ndl:d'≠l6:=λ z=>by rw [z,h6] at nd';cases nd'
    refine ⟨_,h7,ax (by omega),dj (by rw [ltq];exact hi) ⟨hi,aC nl6 (s6.trans s7),_,ac,?_,λ d hd=>?_⟩⟩
    ·rw [iH,er,iE,iu]
     have up:∀ v x,DctIs a H7 v x->v≠.ref l6->DctIs a (upd H7 l6 (.lst (t6++[.ref d']))) v x:=λ v x ⟨d2,kv2,e,f,t,q⟩ ne=>⟨d2,kv2,e,by rw [ai (λ z=>ne (by rw [e,z]))];exact f,t.mono λ _ _ z=>FrIs.ko z (.lst h7),q⟩
     refine RowAt.snoc ⟨hv.1,λ j u y e1 e2=>up _ _ ((hv.2 j u y e1 e2).mono s7) λ z=>?_⟩ (up _ _ hd' (λ z=>by cases z;exact ndl rfl))
     subst z
     exact (nw l6 (ig e1)).2 rfl
    ·rcases iS.mp hd with z | z
     ·exact nw d z
     ·cases i5.mp z
      exact ⟨s6.free nd',ndl⟩
   rintro H6 ⟨_,s6,t6,h6,hv6,nw6⟩
   rw [ltq,iB] at hv6
   refine ⟨l6,t6,rfl,s6,?_⟩
   refine ⟨hn9.mono s6,by rw [psT_n];exact pu.nde,SqL.of (s6 _ _ h9),hv9.mono λ v x z=>z.mono s6,SqL.of h6,hv6,λ d hd=>hn9.apn s6 (nw6 d hd).1,λ r hr n hn=>?_,λ x hx=>?_,?_,?_,?_,?_,?_,λ z hz=>?_,pu.td,pu.ts,?_⟩
   ·obtain ⟨r0,h0,rfl⟩:=iy.mp hr
    rw [psT_n]
    exact (pu.wok r0 h0).sub n hn
   ·obtain ⟨r0,h0,rfl⟩:=iy.mp hx
    rw [psT_n]
    exact (pu.sok r0 h0).pl
   ·rw [dsT_n,iQ]
    exact pu.nd
   ·unfold psT;rw [hZ];omega
   ·unfold dsT;rw [hZ];omega
   ·rw [hZ];omega
   ·rw [hZ];omega
   ·exact pu.lne (by rw [<- psT_n];exact iy.mpr ⟨z,hz,rfl⟩)
   ·rw [hZ,psN_eq _ _ _ (ic _),dsN_eq]
    exact pu.tok2.net
  rintro σ' H10 ⟨l10,t10,rfl,s10,D⟩
  have A:=A9.mono s10
  have hS:=s10.seq hS9
  clear A9 hS9 hn9 h9 hv9 s10
  have pure0:hJ rs ss ws.length (bC 30 (aP ns 2)):=pu.alone 30
  have pureR:∀ r∈rs,r.nm.length<=700/\hJ rs ss ws.length r.nm/\hJ rs ss ws.length (atT r.nm 0)/\hJ rs ss ws.length (atT r.nm ((ws.length+1:Nat):Int)):=λ r hr=>by
   have hm:r.nm∈rs.map (·.nm):=iy.mpr ⟨r,hr,rfl⟩
   obtain ⟨kk,ek⟩:=pu.fam (.inl hm)
   exact ⟨pu.lnr hr,by rw [ek];exact pu.alone kk,pu.turn (t:=0) (by decide) (.inl hm) (.inl rfl),pu.turn (by omega) (.inl hm) (.inr (.inl (Nat.lt_succ_self _)))⟩
  have pureS:∀ r∈ss,r.nm.length<=700/\hJ rs ss ws.length r.nm/\hJ rs ss ws.length (atT r.nm 0)/\hJ rs ss ws.length (atT r.nm (ws.length:Int)):=λ r hr=>by
   have hm:r.nm∈ss.map (·.nm):=iy.mpr ⟨r,hr,rfl⟩
   obtain ⟨kk,ek⟩:=pu.fam (.inr hm)
   exact ⟨pu.lns hr,by rw [ek];exact pu.alone kk,pu.turn (t:=0) (by decide) (.inr hm) (.inl rfl),pu.turn (by omega) (.inr hm) (.inr (.inr ⟨rfl,λ z=>(jb.mp pu.nd).2.2 _ z _ hm rfl⟩))⟩
  obtain ⟨c0,c1⟩:=aN (aP ns 49) (show (0:Int)<3 by decide)
  obtain ⟨q,hq⟩:=iT c0
  refine ⟨_,rfl,?_⟩
  refine ⟨λ σ' H'=>∃ z12 z13 z14 sd rq,σ'=[some (.ref l),some (.int n),some (.int m),some (.ref t),some (.ref ls),some (.ref lq),some (.ref wl),some (.ref pd),some (.ref p),some (.ref l9),some (.ref l10),some (.ref sd),z12,z13,z14,none,none,none,none]/\Same H10 H'/\DcpIs H' (.ref sd) rq/\PlnOk rq 30/\(0<q->∃ x∈rq.1,hJ rs ss ws.length x)/\∀ x∈rq.1,x∈(rsN rs ss ws.length ws.length).map (·.nm)∨hJ rs ss ws.length x,?_,?_⟩
  ·refine ⟨_,rfl,l,ns,49,rfl,hS,by decide,_,_,rfl,rfl,by show (0:Int)<3;decide,?_⟩
   have pureR':=pureR
   have pureS':=pureS
   have pure0':=pure0
   rw [<- ltq] at pureR' pureS' pure0'
   refine ⟨(q:Int),(by show [V.int (aP ns 49 % 3)]=[V.int (q:Int)];rw [hq]),by omega,by omega,eI (n:=q) (λ i σ H11=>i<=q/\∃ z12 z13 z14 sd rq,σ=[some (.ref l),some (.int n),some (.int m),some (.ref t),some (.ref ls),some (.ref lq),some (.ref wl),some (.ref pd),some (.ref p),some (.ref l9),some (.ref l10),some (.ref sd),z12,z13,z14,none,none,none,none]/\Same H10 H11/\DcpIs H11 (.ref sd) rq/\PlnOk rq (24+i)/\(0<i->∃ x∈rq.1,hJ rs ss ws.length x)/\∀ x∈rq.1,x∈(rsN rs ss ws.length ws.length).map (·.nm)∨hJ rs ss ws.length x) ⟨im _,_,_,_,pd,r,rfl,Same.refl _,A.pl,ok,λ h=>absurd h (iP _),λ x hx=>.inl (sub x hx)⟩ ?_ ?_⟩
   ·rintro i σ H11 hi ⟨_,z12,z13,z14,sd,rq,rfl,s11,hsd,okq,_,al⟩
    have hi':i<q:=by omega
    have q3:q<3:=by omega
    have hS11:=s11.seq hS
    have A11:=A.mono s11
    have mul:∀ u:Int,u=0+(i:Int)->CMulB 11 u:=λ u e=>⟨Sm.of_le (n:=20) (by decide) (by decide),Sm.of_le (n:=20) (by omega) (by decide)⟩
    refine ⟨_,rfl,l,ns,49,rfl,hS11,by decide,_,_,rfl,rfl,⟨by decide,by decide⟩,_,rfl,_,_,rfl,rfl,mul _ rfl,_,_,rfl,rfl,_,_,rfl,rfl,?d1,?_⟩
    case d1=>exact ⟨by omega,Sm.of_le (n:=20) (by omega) (by decide)⟩
    dsimp only
    generalize (aP ns 49 / 3).fdiv (1+11*(0+(i:Int)))=cv
    refine ⟨_,rfl,_,rfl,_,rfl,lq,_,rfl,.inl (SqL.of A11.st.hq),_,rfl,_,rfl,l,ns,2,rfl,hS11,by decide,30,_,rfl,by decide,by decide,?_⟩
    refine ⟨hJ rs ss tq.length,t,lp,lw,ls,tp,tw,ts,es,rs,ss,tq.length,cv,_,rfl,A11.st.td,SqL.of A11.st.hs,A11.st.rs',by omega,by omega,by omega,pure0',pureR',pureS',λ H12 x s12 Rx=>?_⟩
    rw [ltq] at Rx
    have hsd12:=hsd.mono s12
    obtain ⟨sd0,kvd,e0,fd0,_⟩:=id hsd12
    cases e0
    refine ⟨_,rfl,_,rfl,_,rfl,_,_,rfl,rfl,⟨by decide,by decide⟩,_,rfl,sd,kvd,rfl,fd0,_,_,rfl,rfl,_,_,rfl,rfl,by omega,?_⟩
    refine ⟨sd,rq,x,_,24+i,rfl,hsd12,okq,by omega,λ d' H13 r' nd' s13 hd' ok' nin sub' con=>?_⟩
    exact ⟨hi',_,_,_,d',r',rfl,s11.trans (s12.trans s13),hd',ok',λ _=>⟨x,nin,Rx⟩,λ y hy=>(con y hy).elim (λ e=>.inr (by rw [e];exact Rx)) (al y)⟩
   ·rintro σ H11 ⟨_,z12,z13,z14,sd,rq,rfl,s11,hsd,okq,ex,al⟩
    exact ⟨_,_,_,sd,rq,rfl,s11,hsd,⟨okq.nd,okq.ok,by have:=okq.len;omega⟩,ex,al⟩
  rintro σ' H11 ⟨z12,z13,z14,sd,rq,rfl,s11,hsd,okq,ex,al⟩
  have D11:=D.mono s11
  have A11:=A.mono s11
  have hS11:=s11.seq hS
  have lq30:=okq.len
  have lr24:=ok.len
  have lrsN:=pu.tok2.l24
  clear D A hS s11
  refine ⟨λ σ' H'=>σ'=[some (.ref l),some (.int n),some (.int m),some (.ref t),some (.ref ls),some (.ref lq),some (.ref wl),some (.ref pd),some (.ref p),some (.ref l9),some (.ref l10),some (.ref sd),z12,z13,z14,none,none,none,none]/\Same H11 H',?_,?_⟩
  ·refine ⟨_,rfl,l,ns,49,rfl,hS11,by decide,_,_,rfl,rfl,by show (0:Int)<3;decide,_,_,rfl,rfl,_,rfl,ifB (λ h1=>?_) (λ h1=>⟨rfl,Same.refl _⟩)⟩
   have q0:0<q:=by
    have:aP ns 49 % 3 > 0:=h1
    omega
   obtain ⟨y,hy,hys⟩:=ex q0
   obtain ⟨i,x,e1,e2,e3,_,_⟩:=first_of (p:=λ n=>decide (¬ n∈(rsN rs ss ws.length ws.length).map (·.nm))) rq.1 ⟨y,hy,iM hys.1⟩
   have nin:=of_decide_eq_true e2
   have ahead:∀ (j:Nat) (m:Str),j<i->rq.1[j]?=some m->m∈(rsN rs ss ws.length ws.length).map (·.nm):=λ j m hj hm=>Classical.not_not.mp λ z=>absurd (iM z) (by rw [e3 j m hj hm];decide)
   have lx:x.length<=1000:=((al x (ig e1)).resolve_left nin).2
   refine ⟨_,rfl,_,rfl,_,rfl,_,rfl,.ref sd,rq,rfl,hsd,okq.ok,by omega,λ d' H12 nd' s12 hd'=>?_⟩
   refine ⟨p,l9,l10,d',psT es,dsT rs,ss.map S5.d,ws.map vR,t9,t10,vR rq,i,x,rfl,byin pu (D11.mono s12) hd' okq.ok,e1,by rw [nmN];exact nin,by rw [nmN];exact ahead,lx,λ H13 k13=>?_⟩
   have s13:Same H11 H13:=λ b u e=>k13 b u (s12 _ _ e) (λ z=>by rw [z,nd'] at e;cases e)
   have A13:=A11.mono s13
   refine ⟨_,rfl,_,rfl,sd,wl,rq,tv,rsN rs ss ws.length ws.length,rfl,hsd.mono s13,by omega,SqL.of A13.wy,A13.wr,by omega,⟨x,ig e1,nin⟩,λ H14 i2 x2 s14 e2' nin2 ahead2=>?_⟩
   have ei:i=i2:=by
    rcases Nat.lt_trichotomy i i2 with h | h | h
    ·exact absurd (ahead2 i x h e1) nin
    ·exact h
    ·exact absurd (ahead i2 x2 h e2') nin2
   subst ei
   rw [e1] at e2'
   cases e2'
   exact ⟨rfl,_,rfl,iteNS rfl ⟨rfl,s13.trans s14⟩⟩
  rintro σ' H12 ⟨rfl,s12⟩
  have D12:=D11.mono s12
  have A12:=A11.mono s12
  clear D11 A11 hS11 s12 hsd okq ex al
  refine ⟨_,rfl,.ref pd,r,rfl,A12.pl,ok.ok,by omega,λ hd H15 nhd s15 hhd=>?_⟩
  have D15:=D12.mono s15
  have A15:=A12.mono s15
  clear D12 A12
  refine ⟨λ σ' H'=>∃ l16 td,σ'=[some (.ref l),some (.int n),some (.int m),some (.ref t),some (.ref ls),some (.ref lq),some (.ref wl),some (.ref pd),some (.ref p),some (.ref l9),some (.ref l10),some (.ref sd),z12,z13,z14,some (.ref hd),some (.ref l16),none,none]/\Same H15 H'/\H' l16=some (.lst td)/\RowAt DuIs H' td ((List.range ws.length).map λ i:Nat=>dueR es rs ss r (i+1)),?_,?_⟩
  ·refine ⟨_,rfl,lq,_,rfl,.inl (SqL.of A15.st.hq),_,_,rfl,rfl,_,_,rfl,⟨by decide,by decide,by omega,by omega⟩,λ l16 nl16=>?_⟩
   refine compG_range (λ i H16=>i<=ws.length/\Same H15 H16/\∃ td,H16 l16=some (.lst td)/\RowAt DuIs H16 td ((List.range i).map λ i:Nat=>dueR es rs ss r (i+1))) ⟨im _,aj nl16,[],ac,RowAt.nil⟩ ?_ ?_
   ·rintro i H16 hi ⟨_,s16,td,h16,hv⟩
    have hi':i<ws.length:=by omega
    have A16:=A15.mono s16
    have ltd:td.length<=12:=by rw [hv.1,hZ,List.length_range];omega
    refine g1 ⟨⟨[_],rfl,rfl⟩,yes ?_⟩
    refine ⟨_,rfl,_,rfl,_,rfl,_,rfl,_,rfl,lq,_,rfl,.inl (SqL.of A16.st.hq),?_⟩
    refine ⟨t,lp,lw,ls,pd,tp,tw,ts,es,rs,ss,r,i+1,(tq.length:Int),(by show [V.ref t,V.ref ls,V.ref pd,V.int (1+(i:Int)),V.int (tq.length:Int)]=[.ref t,.ref ls,.ref pd,.int ((i+1:Nat):Int),.int (tq.length:Int)];rw [show 1+(i:Int)=((i+1:Nat):Int) by omega]),A16.st.td,SqL.of A16.st.hs,A16.st.rs',A16.pl,ok.ok,pu.nde,(jb.mp pu.nd).1,by omega,by omega,by omega,by omega,by omega,λ s hs=>⟨pu.sok s hs,pu.lns hs⟩,λ s hs=>pu.lnr hs,λ v H17 s17 hd17=>?_⟩
    have h17:=s17 _ _ h16
    refine ⟨_,h17,ax (by omega),dj hi ⟨hi',aC nl16 (s16.trans s17),_,ac,?_⟩⟩
    rw [List.range_succ,iu]
    exact RowAt.snoc (hv.mono λ v x z=>(DuIs.mono z s17).lst h17) (hd17.lst h17)
   ·rintro H16 ⟨_,s16,td,h16,hv⟩
    rw [show ((tq.length:Int)+1-1).toNat=ws.length by omega] at hv
    exact ⟨l16,td,rfl,s16,h16,hv⟩
  rintro σ' H16 ⟨l16,td,rfl,s16,h16,hv16⟩
  have D16:=D15.mono s16
  have A16:=A15.mono s16
  have hhd16:=hhd.mono s16
  clear D15 A15 s15 s16 hhd
  have B16:=byin pu D16 hhd16 ok.ok
  have sub':∀ n∈(vR r).1,n∈(dsN (dsT rs) (ss.map S5.d) (ws.map vR).length (ws.map vR).length).map (·.nm):=by rw [nmN];exact sub
  have AL:=alks pu ok.ok
  have LL:((List.range (ws.map vR).length).map λ i:Nat=>byR (psT es) (dsT rs) (ss.map S5.d) (vR r) ((i+1:Nat):Int)).length=((List.range ws.length).map λ i:Nat=>dueR es rs ss r (i+1)).length:=by simp only [hZ,List.length_range]
  refine ⟨_,rfl,_,rfl,_,rfl,_,rfl,p,l9,l10,hd,psT es,dsT rs,ss.map S5.d,ws.map vR,t9,t10,vR r,rfl,B16,sub',λ lf H17 us nlf s17 hlf hrow=>?_⟩
  refine ⟨λ σ' H'=>σ'=[some (.ref l),some (.int n),some (.int m),some (.ref t),some (.ref ls),some (.ref lq),some (.ref wl),some (.ref pd),some (.ref p),some (.ref l9),some (.ref l10),some (.ref sd),z12,z13,z14,some (.ref hd),some (.ref l16),some (.ref lf),none]/\Same H17 H',?_,?_⟩
  ·refine ⟨_,rfl,_,rfl,H16,lf,l16,us,td,_,_,rfl,hlf,hrow,s17 _ _ h16,hv16.mono λ _ _ z=>z.mono s17,LL,AL,λ H18 s18=>?_⟩
   exact ⟨_,rfl,iteF ⟨rfl,s18⟩⟩
  rintro σ' H18 ⟨rfl,s18⟩
  have hlf18:=s18 _ _ hlf
  have rw18:∀ v∈us,RwOk H16 H18 v:=λ v hv=>by
   obtain ⟨i,hi⟩:=jj.mp hv
   obtain ⟨x,_,z⟩:=hrow.get hi
   exact RwOk.of (z.mono s18)
  have s618:=s17.trans s18
  clear hrow hlf s17 s18
  refine ⟨λ σ' H'=>∃ z,σ'=[some (.ref l),some (.int n),some (.int m),some (.ref t),some (.ref ls),some (.ref lq),some (.ref wl),some (.ref pd),some (.ref p),some (.ref l9),some (.ref l10),some (.ref sd),z12,z13,z14,some (.ref hd),some (.ref l16),some (.ref lf),z]/\Same H16 H',?_,?_⟩
  ·refine ⟨_,rfl,lf,rfl,⟨_,SqL.of hlf18⟩,bn (K:=K) (a:=lf) (xs:=us) (λ i σ H19=>∃ z,σ=[some (.ref l),some (.int n),some (.int m),some (.ref t),some (.ref ls),some (.ref lq),some (.ref wl),some (.ref pd),some (.ref p),some (.ref l9),some (.ref l10),some (.ref sd),z12,z13,z14,some (.ref hd),some (.ref l16),some (.ref lf),z]/\Same H16 H19/\H19 lf=some (.lst us)/\∀ v∈us,RwOk H16 H19 v) ⟨_,rfl,s618,hlf18,rw18⟩ (λ i σ H19 _ ⟨_,_,_,h,_⟩=>SqL.of h) ?_ ?_⟩
   ·rintro i x σ H19 hx ⟨z,rfl,s19,hl19,hr19⟩
    have hxm:=ig hx
    obtain ⟨t1,d1,d2,d3,rfl,ht,⟨k1,f1⟩,_,_,m1,m2,m3⟩:=id (hr19 _ hxm)
    refine ⟨_,rfl,t1,_,_,_,rfl,rfl,SqT.of ht,rfl,.inr (.inr (.inl ⟨rfl,.inl ⟨k1,f1⟩⟩)),d1,k1,rfl,rfl,f1,?_⟩
    have s20:=aC (o:=.dK []) m1 s19
    have hl20:upd H19 d1 (.dK []) lf=some (.lst us):=by rw [ai (bz hl19 f1 (by intro z;cases z))];exact hl19
    have hr20:∀ v∈us,RwOk H16 (upd H19 d1 (.dK [])) v:=λ v hv=>(hr19 v hv).clr f1
    have ht20:upd H19 d1 (.dK []) t1=some (.tup [.ref d1,.ref d2,.ref d3]):=by rw [ai (bz ht f1 (by intro z;cases z))];exact ht
    generalize upd H19 d1 (.dK [])=H20 at s20 hl20 hr20 ht20 ⊢
    obtain ⟨t1',e1,e2,e3,ee,ht',_,⟨k2,f2⟩,_⟩:=id (hr20 _ hxm)
    cases ee
    rw [ht20] at ht'
    cases ht'
    refine ⟨_,rfl,t1,_,_,_,rfl,rfl,SqT.of ht20,rfl,.inr (.inr (.inl ⟨rfl,.inl ⟨k2,f2⟩⟩)),d2,k2,rfl,rfl,f2,?_⟩
    have s21:=aC (o:=.dK []) m2 s20
    have hl21:upd H20 d2 (.dK []) lf=some (.lst us):=by rw [ai (bz hl20 f2 (by intro z;cases z))];exact hl20
    have hr21:∀ v∈us,RwOk H16 (upd H20 d2 (.dK [])) v:=λ v hv=>(hr20 v hv).clr f2
    have ht21:upd H20 d2 (.dK []) t1=some (.tup [.ref d1,.ref d2,.ref d3]):=by rw [ai (bz ht20 f2 (by intro z;cases z))];exact ht20
    generalize upd H20 d2 (.dK [])=H21 at s21 hl21 hr21 ht21 ⊢
    obtain ⟨t1',e1,e2,e3,ee,ht',_,_,⟨k3,f3⟩,_⟩:=id (hr21 _ hxm)
    cases ee
    rw [ht21] at ht'
    cases ht'
    refine ⟨_,rfl,t1,_,_,_,rfl,rfl,SqT.of ht21,rfl,.inr (.inr (.inl ⟨rfl,.inl ⟨k3,f3⟩⟩)),d3,k3,rfl,rfl,f3,?_⟩
    exact ⟨_,rfl,aC m3 s21,by rw [ai (bz hl21 f3 (by intro z;cases z))];exact hl21,λ v hv=>(hr21 v hv).clr f3⟩
   ·rintro σ H19 ⟨z,rfl,s19,_⟩
    exact ⟨_,rfl,s19⟩
  rintro σ' H19 ⟨z,rfl,s19⟩
  have B19:=byin pu (D16.mono s19) (hhd16.mono s19) ok.ok
  refine ⟨_,rfl,_,rfl,_,rfl,_,rfl,p,l9,l10,hd,psT es,dsT rs,ss.map S5.d,ws.map vR,t9,t10,vR r,rfl,B19,sub',λ lf2 H20 us2 nlf2 s20 hlf2 hrow2=>?_⟩
  have s1620:=s19.trans s20
  refine ⟨_,rfl,H19,lf2,l16,us2,td,_,_,rfl,hlf2,hrow2,s1620 _ _ h16,hv16.mono λ _ _ z=>z.mono s1620,LL,AL,λ H21 s21=>?_⟩
  have s1621:=s1620.trans s21
  exact ⟨_,rfl,iteT ⟨_,rfl,_,rfl,.ref hd,.ref pd,r,rfl,hhd16.mono s1621,(A16.mono s1621).pl,ok.ok,by omega,λ H22 _=>k H22⟩⟩
end
end G
namespace G
open PySem L2
theorem lm1 {α:Type}:∀ us:List α,us.length=1->∃ a,us=[a]
 | [a],_=>⟨a,rfl⟩
theorem lm2 {α:Type}:∀ us:List α,us.length=2->∃ a b,us=[a,b]
 | [a,b],_=>⟨a,b,rfl⟩
theorem lm3 {α:Type}:∀ us:List α,us.length=3->∃ a b c,us=[a,b,c]
 | [a,b,c],_=>⟨a,b,c,rfl⟩
theorem lm4 {α:Type}:∀ us:List α,us.length=4->∃ a b c d,us=[a,b,c,d]
 | [a,b,c,d],_=>⟨a,b,c,d,rfl⟩
theorem lm5 {α:Type}:∀ us:List α,us.length=5->∃ a b c d e,us=[a,b,c,d,e]
 | [a,b,c,d,e],_=>⟨a,b,c,d,e,rfl⟩
theorem lm6 {α:Type}:∀ us:List α,us.length=6->∃ a b c d e f,us=[a,b,c,d,e,f]
 | [a,b,c,d,e,f],_=>⟨a,b,c,d,e,f,rfl⟩
theorem lm7 {α:Type}:∀ us:List α,us.length=7->∃ a b c d e f g,us=[a,b,c,d,e,f,g]
 | [a,b,c,d,e,f,g],_=>⟨a,b,c,d,e,f,g,rfl⟩
theorem all_mk {l:W.OpenLaw} {w:World} {K:W.Frag} {h:Heap} {mg:Str->Option Value} {fa A_Fraction A_Way A_Growing A_Leaking A_Store A_Net A_GainError A_NoNumber A_TooMany A_NoWay A_Twice A_NoPlace:Addr} (X:K.In h) (G:h.Ns mainGlobals mg) (hfa:mg "law"=some (.ref fa))
  (n_Fraction:W.nsIn K mainGlobals "Fraction"=some (some (.ref A_Fraction)))
  (n_Way:W.nsIn K mainGlobals "Way"=some (some (.ref A_Way)))
  (n_Growing:W.nsIn K mainGlobals "Growing"=some (some (.ref A_Growing)))
  (n_Leaking:W.nsIn K mainGlobals "Leaking"=some (some (.ref A_Leaking)))
  (n_Store:W.nsIn K mainGlobals "Store"=some (some (.ref A_Store)))
  (n_Net:W.nsIn K mainGlobals "Net"=some (some (.ref A_Net)))
  (n_GainError:W.nsIn K mainGlobals "GainError"=some (some (.ref A_GainError)))
  (n_NoNumber:W.nsIn K mainGlobals "NoNumber"=some (some (.ref A_NoNumber)))
  (n_TooMany:W.nsIn K mainGlobals "TooMany"=some (some (.ref A_TooMany)))
  (n_NoWay:W.nsIn K mainGlobals "NoWay"=some (some (.ref A_NoWay)))
  (n_Twice:W.nsIn K mainGlobals "Twice"=some (some (.ref A_Twice)))
  (n_NoPlace:W.nsIn K mainGlobals "NoPlace"=some (some (.ref A_NoPlace)))
  (aQ0:W.nsIn K mainGlobals "divisor"=some (some (.ref fQ0)))
  (lQ0:K.lookup fQ0=some ⟨ocQ0,odQ0,.func (W.fnOf "divisor" "divisor" (ar eF) (ao eF) (af eF) .none kVQ0 dcQ0 pmQ0 anQ0 cdQ0 ctQ0),slQ0⟩)
  (cQ0:W.codeIn K cdQ0 "divisor"=true)
  (kQ0:W.keepIn K (.ref fQ0)=true)
  (aQ1:W.nsIn K mainGlobals "in_lowest_terms"=some (some (.ref fQ1)))
  (lQ1:K.lookup fQ1=some ⟨ocQ1,odQ1,.func (W.fnOf "in_lowest_terms" "in_lowest_terms" (ar bt) (ao bt) (af bt) .none kVQ1 dcQ1 pmQ1 anQ1 cdQ1 ctQ1),slQ1⟩)
  (cQ1:W.codeIn K cdQ1 "in_lowest_terms"=true)
  (kQ1:W.keepIn K (.ref fQ1)=true)
  (aQ2:W.nsIn K mainGlobals "total"=some (some (.ref fQ2)))
  (lQ2:K.lookup fQ2=some ⟨ocQ2,odQ2,.func (W.fnOf "total" "total" (ar gr) (ao gr) (af gr) .none kVQ2 dcQ2 pmQ2 anQ2 cdQ2 ctQ2),slQ2⟩)
  (cQ2:W.codeIn K cdQ2 "total"=true)
  (kQ2:W.keepIn K (.ref fQ2)=true)
  (aQ3:W.nsIn K mainGlobals "name_at"=some (some (.ref fQ3)))
  (lQ3:K.lookup fQ3=some ⟨ocQ3,odQ3,.func (W.fnOf "name_at" "name_at" (ar eA) (ao eA) (af eA) .none kVQ3 dcQ3 pmQ3 anQ3 cdQ3 ctQ3),slQ3⟩)
  (cQ3:W.codeIn K cdQ3 "name_at"=true)
  (kQ3:W.keepIn K (.ref fQ3)=true)
  (aQ4:W.nsIn K mainGlobals "wants_by_name"=some (some (.ref fQ4)))
  (lQ4:K.lookup fQ4=some ⟨ocQ4,odQ4,.func (W.fnOf "wants_by_name" "wants_by_name" (ar bM) (ao bM) (af bM) .none kVQ4 dcQ4 pmQ4 anQ4 cdQ4 ctQ4),slQ4⟩)
  (cQ4:W.codeIn K cdQ4 "wants_by_name"=true)
  (kQ4:W.keepIn K (.ref fQ4)=true)
  (aQ5:W.nsIn K mainGlobals "check_way"=some (some (.ref fQ5)))
  (lQ5:K.lookup fQ5=some ⟨ocQ5,odQ5,.func (W.fnOf "check_way" "check_way" (ar dg) (ao dg) (af dg) .none kVQ5 dcQ5 pmQ5 anQ5 cdQ5 ctQ5),slQ5⟩)
  (cQ5:W.codeIn K cdQ5 "check_way"=true)
  (kQ5:W.keepIn K (.ref fQ5)=true)
  (aQ6:W.nsIn K mainGlobals "ways_by_name"=some (some (.ref fQ6)))
  (lQ6:K.lookup fQ6=some ⟨ocQ6,odQ6,.func (W.fnOf "ways_by_name" "ways_by_name" (ar b8) (ao b8) (af b8) .none kVQ6 dcQ6 pmQ6 anQ6 cdQ6 ctQ6),slQ6⟩)
  (cQ6:W.codeIn K cdQ6 "ways_by_name"=true)
  (kQ6:W.keepIn K (.ref fQ6)=true)
  (aQ7:W.nsIn K mainGlobals "amount"=some (some (.ref fQ7)))
  (lQ7:K.lookup fQ7=some ⟨ocQ7,odQ7,.func (W.fnOf "amount" "amount" (ar fo) (ao fo) (af fo) .none kVQ7 dcQ7 pmQ7 anQ7 cdQ7 ctQ7),slQ7⟩)
  (cQ7:W.codeIn K cdQ7 "amount"=true)
  (kQ7:W.keepIn K (.ref fQ7)=true)
  (aQ8:W.nsIn K mainGlobals "without_noughts"=some (some (.ref fQ8)))
  (lQ8:K.lookup fQ8=some ⟨ocQ8,odQ8,.func (W.fnOf "without_noughts" "without_noughts" (ar br) (ao br) (af br) .none kVQ8 dcQ8 pmQ8 anQ8 cdQ8 ctQ8),slQ8⟩)
  (cQ8:W.codeIn K cdQ8 "without_noughts"=true)
  (kQ8:W.keepIn K (.ref fQ8)=true)
  (aQ9:W.nsIn K mainGlobals "refuse_other_names"=some (some (.ref fQ9)))
  (lQ9:K.lookup fQ9=some ⟨ocQ9,odQ9,.func (W.fnOf "refuse_other_names" "refuse_other_names" (ar bg) (ao bg) (af bg) .none kVQ9 dcQ9 pmQ9 anQ9 cdQ9 ctQ9),slQ9⟩)
  (cQ9:W.codeIn K cdQ9 "refuse_other_names"=true)
  (kQ9:W.keepIn K (.ref fQ9)=true)
  (aQ10:W.nsIn K mainGlobals "refuse_stores"=some (some (.ref fQ10)))
  (lQ10:K.lookup fQ10=some ⟨ocQ10,odQ10,.func (W.fnOf "refuse_stores" "refuse_stores" (ar bO) (ao bO) (af bO) .none kVQ10 dcQ10 pmQ10 anQ10 cdQ10 ctQ10),slQ10⟩)
  (cQ10:W.codeIn K cdQ10 "refuse_stores"=true)
  (kQ10:W.keepIn K (.ref fQ10)=true)
  (aQ11:W.nsIn K mainGlobals "refuse_wants"=some (some (.ref fQ11)))
  (lQ11:K.lookup fQ11=some ⟨ocQ11,odQ11,.func (W.fnOf "refuse_wants" "refuse_wants" (ar b9) (ao b9) (af b9) .none kVQ11 dcQ11 pmQ11 anQ11 cdQ11 ctQ11),slQ11⟩)
  (cQ11:W.codeIn K cdQ11 "refuse_wants"=true)
  (kQ11:W.keepIn K (.ref fQ11)=true)
  (aQ12:W.nsIn K mainGlobals "places_at"=some (some (.ref fQ12)))
  (lQ12:K.lookup fQ12=some ⟨ocQ12,odQ12,.func (W.fnOf "places_at" "places_at" (ar cY) (ao cY) (af cY) .none kVQ12 dcQ12 pmQ12 anQ12 cdQ12 ctQ12),slQ12⟩)
  (cQ12:W.codeIn K cdQ12 "places_at"=true)
  (kQ12:W.keepIn K (.ref fQ12)=true)
  (aQ13:W.nsIn K mainGlobals "turned"=some (some (.ref fQ13)))
  (lQ13:K.lookup fQ13=some ⟨ocQ13,odQ13,.func (W.fnOf "turned" "turned" (ar fk) (ao fk) (af fk) .none kVQ13 dcQ13 pmQ13 anQ13 cdQ13 ctQ13),slQ13⟩)
  (cQ13:W.codeIn K cdQ13 "turned"=true)
  (kQ13:W.keepIn K (.ref fQ13)=true)
  (aQ14:W.nsIn K mainGlobals "own_plan"=some (some (.ref fQ14)))
  (lQ14:K.lookup fQ14=some ⟨ocQ14,odQ14,.func (W.fnOf "own_plan" "own_plan" (ar dz) (ao dz) (af dz) .none kVQ14 dcQ14 pmQ14 anQ14 cdQ14 ctQ14),slQ14⟩)
  (cQ14:W.codeIn K cdQ14 "own_plan"=true)
  (kQ14:W.keepIn K (.ref fQ14)=true)
  (aQ15:W.nsIn K mainGlobals "taken_in"=some (some (.ref fQ15)))
  (lQ15:K.lookup fQ15=some ⟨ocQ15,odQ15,.func (W.fnOf "taken_in" "taken_in" (ar dv) (ao dv) (af dv) .none kVQ15 dcQ15 pmQ15 anQ15 cdQ15 ctQ15),slQ15⟩)
  (cQ15:W.codeIn K cdQ15 "taken_in"=true)
  (kQ15:W.keepIn K (.ref fQ15)=true)
  (aQ16:W.nsIn K mainGlobals "put_in"=some (some (.ref fQ16)))
  (lQ16:K.lookup fQ16=some ⟨ocQ16,odQ16,.func (W.fnOf "put_in" "put_in" (ar fm) (ao fm) (af fm) .none kVQ16 dcQ16 pmQ16 anQ16 cdQ16 ctQ16),slQ16⟩)
  (cQ16:W.codeIn K cdQ16 "put_in"=true)
  (kQ16:W.keepIn K (.ref fQ16)=true)
  (aQ17:W.nsIn K mainGlobals "by_turns"=some (some (.ref fQ17)))
  (lQ17:K.lookup fQ17=some ⟨ocQ17,odQ17,.func (W.fnOf "by_turns" "by_turns" (ar dJ) (ao dJ) (af dJ) .none kVQ17 dcQ17 pmQ17 anQ17 cdQ17 ctQ17),slQ17⟩)
  (cQ17:W.codeIn K cdQ17 "by_turns"=true)
  (kQ17:W.keepIn K (.ref fQ17)=true)
  (aQ18:W.nsIn K mainGlobals "_law_cell_at"=some (some (.ref fQ18)))
  (lQ18:K.lookup fQ18=some ⟨ocQ18,odQ18,.func (W.fnOf "_law_cell_at" "_law_cell_at" (ar cz) (ao cz) (af cz) .none kVQ18 dcQ18 pmQ18 anQ18 cdQ18 ctQ18),slQ18⟩)
  (cQ18:W.codeIn K cdQ18 "_law_cell_at"=true)
  (kQ18:W.keepIn K (.ref fQ18)=true)
  (aQ19:W.nsIn K mainGlobals "_law_plus"=some (some (.ref fQ19)))
  (lQ19:K.lookup fQ19=some ⟨ocQ19,odQ19,.func (W.fnOf "_law_plus" "_law_plus" (ar dA) (ao dA) (af dA) .none kVQ19 dcQ19 pmQ19 anQ19 cdQ19 ctQ19),slQ19⟩)
  (cQ19:W.codeIn K cdQ19 "_law_plus"=true)
  (kQ19:W.keepIn K (.ref fQ19)=true)
  (aQ20:W.nsIn K mainGlobals "_law_less"=some (some (.ref fQ20)))
  (lQ20:K.lookup fQ20=some ⟨ocQ20,odQ20,.func (W.fnOf "_law_less" "_law_less" (ar dG) (ao dG) (af dG) .none kVQ20 dcQ20 pmQ20 anQ20 cdQ20 ctQ20),slQ20⟩)
  (cQ20:W.codeIn K cdQ20 "_law_less"=true)
  (kQ20:W.keepIn K (.ref fQ20)=true)
  (aQ21:W.nsIn K mainGlobals "_law_times"=some (some (.ref fQ21)))
  (lQ21:K.lookup fQ21=some ⟨ocQ21,odQ21,.func (W.fnOf "_law_times" "_law_times" (ar c5) (ao c5) (af c5) .none kVQ21 dcQ21 pmQ21 anQ21 cdQ21 ctQ21),slQ21⟩)
  (cQ21:W.codeIn K cdQ21 "_law_times"=true)
  (kQ21:W.keepIn K (.ref fQ21)=true)
  (aQ22:W.nsIn K mainGlobals "_law_name"=some (some (.ref fQ22)))
  (lQ22:K.lookup fQ22=some ⟨ocQ22,odQ22,.func (W.fnOf "_law_name" "_law_name" (ar dF) (ao dF) (af dF) .none kVQ22 dcQ22 pmQ22 anQ22 cdQ22 ctQ22),slQ22⟩)
  (cQ22:W.codeIn K cdQ22 "_law_name"=true)
  (kQ22:W.keepIn K (.ref fQ22)=true)
  (aQ23:W.nsIn K mainGlobals "_law_number"=some (some (.ref fQ23)))
  (lQ23:K.lookup fQ23=some ⟨ocQ23,odQ23,.func (W.fnOf "_law_number" "_law_number" (ar cQ) (ao cQ) (af cQ) .none kVQ23 dcQ23 pmQ23 anQ23 cdQ23 ctQ23),slQ23⟩)
  (cQ23:W.codeIn K cdQ23 "_law_number"=true)
  (kQ23:W.keepIn K (.ref fQ23)=true)
  (aQ24:W.nsIn K mainGlobals "_law_not_under"=some (some (.ref fQ24)))
  (lQ24:K.lookup fQ24=some ⟨ocQ24,odQ24,.func (W.fnOf "_law_not_under" "_law_not_under" (ar bQ) (ao bQ) (af bQ) .none kVQ24 dcQ24 pmQ24 anQ24 cdQ24 ctQ24),slQ24⟩)
  (cQ24:W.codeIn K cdQ24 "_law_not_under"=true)
  (kQ24:W.keepIn K (.ref fQ24)=true)
  (aQ25:W.nsIn K mainGlobals "_law_high"=some (some (.ref fQ25)))
  (lQ25:K.lookup fQ25=some ⟨ocQ25,odQ25,.func (W.fnOf "_law_high" "_law_high" (ar dH) (ao dH) (af dH) .none kVQ25 dcQ25 pmQ25 anQ25 cdQ25 ctQ25),slQ25⟩)
  (cQ25:W.codeIn K cdQ25 "_law_high"=true)
  (kQ25:W.keepIn K (.ref fQ25)=true)
  (aQ26:W.nsIn K mainGlobals "_law_gain_by"=some (some (.ref fQ26)))
  (lQ26:K.lookup fQ26=some ⟨ocQ26,odQ26,.func (W.fnOf "_law_gain_by" "_law_gain_by" (ar cy) (ao cy) (af cy) .none kVQ26 dcQ26 pmQ26 anQ26 cdQ26 ctQ26),slQ26⟩)
  (cQ26:W.codeIn K cdQ26 "_law_gain_by"=true)
  (kQ26:W.keepIn K (.ref fQ26)=true)
  (aQ27:W.nsIn K mainGlobals "_law_ends"=some (some (.ref fQ27)))
  (lQ27:K.lookup fQ27=some ⟨ocQ27,odQ27,.func (W.fnOf "_law_ends" "_law_ends" (ar dI) (ao dI) (af dI) .none kVQ27 dcQ27 pmQ27 anQ27 cdQ27 ctQ27),slQ27⟩)
  (cQ27:W.codeIn K cdQ27 "_law_ends"=true)
  (kQ27:W.keepIn K (.ref fQ27)=true)
  (aQ28:W.nsIn K mainGlobals "_law_net"=some (some (.ref fQ28)))
  (lQ28:K.lookup fQ28=some ⟨ocQ28,odQ28,.func (W.fnOf "_law_net" "_law_net" (ar eD) (ao eD) (af eD) .none kVQ28 dcQ28 pmQ28 anQ28 cdQ28 ctQ28),slQ28⟩)
  (cQ28:W.codeIn K cdQ28 "_law_net"=true)
  (kQ28:W.keepIn K (.ref fQ28)=true)
  (aQ29:W.nsIn K mainGlobals "_law_way"=some (some (.ref fQ29)))
  (lQ29:K.lookup fQ29=some ⟨ocQ29,odQ29,.func (W.fnOf "_law_way" "_law_way" (ar eC) (ao eC) (af eC) .none kVQ29 dcQ29 pmQ29 anQ29 cdQ29 ctQ29),slQ29⟩)
  (cQ29:W.codeIn K cdQ29 "_law_way"=true)
  (kQ29:W.keepIn K (.ref fQ29)=true)
  (aQ30:W.nsIn K mainGlobals "_law_built"=some (some (.ref fQ30)))
  (lQ30:K.lookup fQ30=some ⟨ocQ30,odQ30,.func (W.fnOf "_law_built" "_law_built" (ar dc) (ao dc) (af dc) .none kVQ30 dcQ30 pmQ30 anQ30 cdQ30 ctQ30),slQ30⟩)
  (cQ30:W.codeIn K cdQ30 "_law_built"=true)
  (kQ30:W.keepIn K (.ref fQ30)=true)
  (aQ31:W.nsIn K mainGlobals "_law_stores"=some (some (.ref fQ31)))
  (lQ31:K.lookup fQ31=some ⟨ocQ31,odQ31,.func (W.fnOf "_law_stores" "_law_stores" (ar cO) (ao cO) (af cO) .none kVQ31 dcQ31 pmQ31 anQ31 cdQ31 ctQ31),slQ31⟩)
  (cQ31:W.codeIn K cdQ31 "_law_stores"=true)
  (kQ31:W.keepIn K (.ref fQ31)=true)
  (aQ32:W.nsIn K mainGlobals "_law_wants"=some (some (.ref fQ32)))
  (lQ32:K.lookup fQ32=some ⟨ocQ32,odQ32,.func (W.fnOf "_law_wants" "_law_wants" (ar cZ) (ao cZ) (af cZ) .none kVQ32 dcQ32 pmQ32 anQ32 cdQ32 ctQ32),slQ32⟩)
  (cQ32:W.codeIn K cdQ32 "_law_wants"=true)
  (kQ32:W.keepIn K (.ref fQ32)=true)
  (aQ33:W.nsIn K mainGlobals "_law_store"=some (some (.ref fQ33)))
  (lQ33:K.lookup fQ33=some ⟨ocQ33,odQ33,.func (W.fnOf "_law_store" "_law_store" (ar c6) (ao c6) (af c6) .none kVQ33 dcQ33 pmQ33 anQ33 cdQ33 ctQ33),slQ33⟩)
  (cQ33:W.codeIn K cdQ33 "_law_store"=true)
  (kQ33:W.keepIn K (.ref fQ33)=true)
  (aQ34:W.nsIn K mainGlobals "_law_turned"=some (some (.ref fQ34)))
  (lQ34:K.lookup fQ34=some ⟨ocQ34,odQ34,.func (W.fnOf "_law_turned" "_law_turned" (ar cN) (ao cN) (af cN) .none kVQ34 dcQ34 pmQ34 anQ34 cdQ34 ctQ34),slQ34⟩)
  (cQ34:W.codeIn K cdQ34 "_law_turned"=true)
  (kQ34:W.keepIn K (.ref fQ34)=true)
  (aQ35:W.nsIn K mainGlobals "_law_pair"=some (some (.ref fQ35)))
  (lQ35:K.lookup fQ35=some ⟨ocQ35,odQ35,.func (W.fnOf "_law_pair" "_law_pair" (ar dE) (ao dE) (af dE) .none kVQ35 dcQ35 pmQ35 anQ35 cdQ35 ctQ35),slQ35⟩)
  (cQ35:W.codeIn K cdQ35 "_law_pair"=true)
  (kQ35:W.keepIn K (.ref fQ35)=true)
  (aQ36:W.nsIn K mainGlobals "_law_pairs"=some (some (.ref fQ36)))
  (lQ36:K.lookup fQ36=some ⟨ocQ36,odQ36,.func (W.fnOf "_law_pairs" "_law_pairs" (ar c8) (ao c8) (af c8) .none kVQ36 dcQ36 pmQ36 anQ36 cdQ36 ctQ36),slQ36⟩)
  (cQ36:W.codeIn K cdQ36 "_law_pairs"=true)
  (kQ36:W.keepIn K (.ref fQ36)=true)
  (aQ37:W.nsIn K mainGlobals "_law_fractions"=some (some (.ref fQ37)))
  (lQ37:K.lookup fQ37=some ⟨ocQ37,odQ37,.func (W.fnOf "_law_fractions" "_law_fractions" (ar bR) (ao bR) (af bR) .none kVQ37 dcQ37 pmQ37 anQ37 cdQ37 ctQ37),slQ37⟩)
  (cQ37:W.codeIn K cdQ37 "_law_fractions"=true)
  (kQ37:W.keepIn K (.ref fQ37)=true)
  (aQ38:W.nsIn K mainGlobals "_law_stays"=some (some (.ref fQ38)))
  (lQ38:K.lookup fQ38=some ⟨ocQ38,odQ38,.func (W.fnOf "_law_stays" "_law_stays" (ar c7) (ao c7) (af c7) .none kVQ38 dcQ38 pmQ38 anQ38 cdQ38 ctQ38),slQ38⟩)
  (cQ38:W.codeIn K cdQ38 "_law_stays"=true)
  (kQ38:W.keepIn K (.ref fQ38)=true)
  (aQ39:W.nsIn K mainGlobals "_law_plan"=some (some (.ref fQ39)))
  (lQ39:K.lookup fQ39=some ⟨ocQ39,odQ39,.func (W.fnOf "_law_plan" "_law_plan" (ar dC) (ao dC) (af dC) .none kVQ39 dcQ39 pmQ39 anQ39 cdQ39 ctQ39),slQ39⟩)
  (cQ39:W.codeIn K cdQ39 "_law_plan"=true)
  (kQ39:W.keepIn K (.ref fQ39)=true)
  (aQ40:W.nsIn K mainGlobals "_law_put_in"=some (some (.ref fQ40)))
  (lQ40:K.lookup fQ40=some ⟨ocQ40,odQ40,.func (W.fnOf "_law_put_in" "_law_put_in" (ar cP) (ao cP) (af cP) .none kVQ40 dcQ40 pmQ40 anQ40 cdQ40 ctQ40),slQ40⟩)
  (cQ40:W.codeIn K cdQ40 "_law_put_in"=true)
  (kQ40:W.keepIn K (.ref fQ40)=true)
  (aQ41:W.nsIn K mainGlobals "_law_strange"=some (some (.ref fQ41)))
  (lQ41:K.lookup fQ41=some ⟨ocQ41,odQ41,.func (W.fnOf "_law_strange" "_law_strange" (ar cw) (ao cw) (af cw) .none kVQ41 dcQ41 pmQ41 anQ41 cdQ41 ctQ41),slQ41⟩)
  (cQ41:W.codeIn K cdQ41 "_law_strange"=true)
  (kQ41:W.keepIn K (.ref fQ41)=true)
  (aQ42:W.nsIn K mainGlobals "_law_first"=some (some (.ref fQ42)))
  (lQ42:K.lookup fQ42=some ⟨ocQ42,odQ42,.func (W.fnOf "_law_first" "_law_first" (ar c9) (ao c9) (af c9) .none kVQ42 dcQ42 pmQ42 anQ42 cdQ42 ctQ42),slQ42⟩)
  (cQ42:W.codeIn K cdQ42 "_law_first"=true)
  (kQ42:W.keepIn K (.ref fQ42)=true)
  (aQ43:W.nsIn K mainGlobals "_law_due"=some (some (.ref fQ43)))
  (lQ43:K.lookup fQ43=some ⟨ocQ43,odQ43,.func (W.fnOf "_law_due" "_law_due" (ar eE) (ao eE) (af eE) .none kVQ43 dcQ43 pmQ43 anQ43 cdQ43 ctQ43),slQ43⟩)
  (cQ43:W.codeIn K cdQ43 "_law_due"=true)
  (kQ43:W.keepIn K (.ref fQ43)=true)
  (aQ44:W.nsIn K mainGlobals "_law_alike"=some (some (.ref fQ44)))
  (lQ44:K.lookup fQ44=some ⟨ocQ44,odQ44,.func (W.fnOf "_law_alike" "_law_alike" (ar df) (ao df) (af df) .none kVQ44 dcQ44 pmQ44 anQ44 cdQ44 ctQ44),slQ44⟩)
  (cQ44:W.codeIn K cdQ44 "_law_alike"=true)
  (kQ44:W.keepIn K (.ref fQ44)=true)
  (aQ45:W.nsIn K mainGlobals "_law_all_told"=some (some (.ref fQ45)))
  (lQ45:K.lookup fQ45=some ⟨ocQ45,odQ45,.func (W.fnOf "_law_all_told" "_law_all_told" (ar cc) (ao cc) (af cc) .none kVQ45 dcQ45 pmQ45 anQ45 cdQ45 ctQ45),slQ45⟩)
  (cQ45:W.codeIn K cdQ45 "_law_all_told"=true)
  (kQ45:W.keepIn K (.ref fQ45)=true)
  (aQ46:W.nsIn K mainGlobals "_law_refused"=some (some (.ref fQ46)))
  (lQ46:K.lookup fQ46=some ⟨ocQ46,odQ46,.func (W.fnOf "_law_refused" "_law_refused" (ar cx) (ao cx) (af cx) .none kVQ46 dcQ46 pmQ46 anQ46 cdQ46 ctQ46),slQ46⟩)
  (cQ46:W.codeIn K cdQ46 "_law_refused"=true)
  (kQ46:W.keepIn K (.ref fQ46)=true)
  (aDlaw:W.nsIn K mainGlobals "law"=some (some (.ref fDlaw)))
  (lDlaw:K.lookup fDlaw=some ⟨ocDlaw,odDlaw,.func (W.fnOf "law" "law" (ar gC) (ao gC) (af gC) .none kVDlaw dcDlaw pmDlaw anDlaw cdDlaw ctDlaw),slDlaw⟩)
  (cDlaw:W.codeIn K cdDlaw "law"=true)
  (kDlaw:W.keepIn K (.ref fDlaw)=true)
  (pg_Fraction:W.plainGet K A_Fraction Str.empty=true)
  (hd_Fraction:W.hasDictIn K A_Fraction=true)
  (po_Fraction:W.plainOver K A_Fraction=true)
  (sa_Fraction:W.findIn K (.ref A_Fraction) "__setattr__"=some (some (.builtin "object.__setattr__")))
  (na_Fraction_top:W.findIn K (.ref A_Fraction) "top"=some none)
  (na_Fraction_bottom:W.findIn K (.ref A_Fraction) "bottom"=some none)
  (mk_Fraction:W.makesIn K A_Fraction=true)
  (ka_Fraction:W.keepIn K (.ref A_Fraction)=true)
  (a_Fraction_init:W.findIn K (.ref A_Fraction) "__init__"=some (some (.ref fIFraction)))
  (iIFraction:W.isFn K (.ref fIFraction)=true)
  (lIFraction:K.lookup fIFraction=some ⟨ocIFraction,odIFraction,.func (W.fnOf "__init__" "Fraction.__init__" (ar bW) (ao bW) (af bW) (.ref TIFraction) kVIFraction dcIFraction pmIFraction anIFraction cdIFraction ctIFraction),slIFraction⟩)
  (cIFraction:W.codeIn K cdIFraction "Fraction.__init__"=true)
  (tIFraction:K.lookup TIFraction=some oIFraction)
  (dIFraction:oIFraction.data=.seq #[.int 1 tkIFraction0] nIFraction)
  (a_Fraction_plus:W.findIn K (.ref A_Fraction) "plus"=some (some (.ref fQ47)))
  (lQ47:K.lookup fQ47=some ⟨ocQ47,odQ47,.func (W.fnOf "plus" "Fraction.plus" (ar bV) (ao bV) (af bV) .none kVQ47 dcQ47 pmQ47 anQ47 cdQ47 ctQ47),slQ47⟩)
  (cQ47:W.codeIn K cdQ47 "Fraction.plus"=true)
  (kQ47:W.keepIn K (.ref fQ47)=true)
  (iQ47:W.isFn K (.ref fQ47)=true)
  (a_Fraction_minus:W.findIn K (.ref A_Fraction) "minus"=some (some (.ref fQ48)))
  (lQ48:K.lookup fQ48=some ⟨ocQ48,odQ48,.func (W.fnOf "minus" "Fraction.minus" (ar bI) (ao bI) (af bI) .none kVQ48 dcQ48 pmQ48 anQ48 cdQ48 ctQ48),slQ48⟩)
  (cQ48:W.codeIn K cdQ48 "Fraction.minus"=true)
  (kQ48:W.keepIn K (.ref fQ48)=true)
  (iQ48:W.isFn K (.ref fQ48)=true)
  (a_Fraction_times:W.findIn K (.ref A_Fraction) "times"=some (some (.ref fQ49)))
  (lQ49:K.lookup fQ49=some ⟨ocQ49,odQ49,.func (W.fnOf "times" "Fraction.times" (ar bH) (ao bH) (af bH) .none kVQ49 dcQ49 pmQ49 anQ49 cdQ49 ctQ49),slQ49⟩)
  (cQ49:W.codeIn K cdQ49 "Fraction.times"=true)
  (kQ49:W.keepIn K (.ref fQ49)=true)
  (iQ49:W.isFn K (.ref fQ49)=true)
  (a_Fraction_under:W.findIn K (.ref A_Fraction) "under"=some (some (.ref fQ50)))
  (lQ50:K.lookup fQ50=some ⟨ocQ50,odQ50,.func (W.fnOf "under" "Fraction.under" (ar bG) (ao bG) (af bG) .none kVQ50 dcQ50 pmQ50 anQ50 cdQ50 ctQ50),slQ50⟩)
  (cQ50:W.codeIn K cdQ50 "Fraction.under"=true)
  (kQ50:W.keepIn K (.ref fQ50)=true)
  (iQ50:W.isFn K (.ref fQ50)=true)
  (a_Fraction_sign:W.findIn K (.ref A_Fraction) "sign"=some (some (.ref fQ51)))
  (lQ51:K.lookup fQ51=some ⟨ocQ51,odQ51,.func (W.fnOf "sign" "Fraction.sign" (ar bU) (ao bU) (af bU) .none kVQ51 dcQ51 pmQ51 anQ51 cdQ51 ctQ51),slQ51⟩)
  (cQ51:W.codeIn K cdQ51 "Fraction.sign"=true)
  (kQ51:W.keepIn K (.ref fQ51)=true)
  (iQ51:W.isFn K (.ref fQ51)=true)
  (c1_Fraction:W.findIn K (.ref A_Fraction) "__class__"=some (some (.builtin "object.__class__")))
  (c4_Fraction:W.mroIn K A_Fraction (.type "object")=some true)
  (pg_Way:W.plainGet K A_Way Str.empty=true)
  (hd_Way:W.hasDictIn K A_Way=true)
  (po_Way:W.plainOver K A_Way=true)
  (sa_Way:W.findIn K (.ref A_Way) "__setattr__"=some (some (.builtin "object.__setattr__")))
  (na_Way_name:W.findIn K (.ref A_Way) "name"=some none)
  (na_Way_start:W.findIn K (.ref A_Way) "start"=some none)
  (na_Way_goal:W.findIn K (.ref A_Way) "goal"=some none)
  (na_Way_high:W.findIn K (.ref A_Way) "high"=some none)
  (na_Way_cost:W.findIn K (.ref A_Way) "cost"=some none)
  (mk_Way:W.makesIn K A_Way=true)
  (ka_Way:W.keepIn K (.ref A_Way)=true)
  (a_Way_init:W.findIn K (.ref A_Way) "__init__"=some (some (.ref fIWay)))
  (iIWay:W.isFn K (.ref fIWay)=true)
  (lIWay:K.lookup fIWay=some ⟨ocIWay,odIWay,.func (W.fnOf "__init__" "Way.__init__" (ar cJ) (ao cJ) (af cJ) (.ref TIWay) kVIWay dcIWay pmIWay anIWay cdIWay ctIWay),slIWay⟩)
  (cIWay:W.codeIn K cdIWay "Way.__init__"=true)
  (tIWay:K.lookup TIWay=some oIWay)
  (dIWay:oIWay.data=.seq #[.none,.none] nIWay)
  (rd_Way:W.readsIn K A_Way (.type "type")=true)
  (sg_Way:W.specialIn K (.ref A_Way) "__getattribute__"=some (some (.builtin "type.__getattribute__")))
  (fc_Way:W.findCls K (.ref A_Way) (.type "type") "__init__"=some (.val (.ref fIWay)))
  (kc_Way:W.keepIn K (.ref fIWay)=true)
  (a_Way_may_stay:W.findIn K (.ref A_Way) "may_stay"=some (some (.ref fQ52)))
  (lQ52:K.lookup fQ52=some ⟨ocQ52,odQ52,.func (W.fnOf "may_stay" "Way.may_stay" (ar bJ) (ao bJ) (af bJ) .none kVQ52 dcQ52 pmQ52 anQ52 cdQ52 ctQ52),slQ52⟩)
  (cQ52:W.codeIn K cdQ52 "Way.may_stay"=true)
  (kQ52:W.keepIn K (.ref fQ52)=true)
  (iQ52:W.isFn K (.ref fQ52)=true)
  (a_Way_gain:W.findIn K (.ref A_Way) "gain"=some (some (.ref fQ53)))
  (lQ53:K.lookup fQ53=some ⟨ocQ53,odQ53,.func (W.fnOf "gain" "Way.gain" (ar dL) (ao dL) (af dL) .none kVQ53 dcQ53 pmQ53 anQ53 cdQ53 ctQ53),slQ53⟩)
  (cQ53:W.codeIn K cdQ53 "Way.gain"=true)
  (kQ53:W.keepIn K (.ref fQ53)=true)
  (iQ53:W.isFn K (.ref fQ53)=true)
  (a_Way_out:W.findIn K (.ref A_Way) "out"=some (some (.ref fQ54)))
  (lQ54:K.lookup fQ54=some ⟨ocQ54,odQ54,.func (W.fnOf "out" "Way.out" (ar cA) (ao cA) (af cA) .none kVQ54 dcQ54 pmQ54 anQ54 cdQ54 ctQ54),slQ54⟩)
  (cQ54:W.codeIn K cdQ54 "Way.out"=true)
  (kQ54:W.keepIn K (.ref fQ54)=true)
  (iQ54:W.isFn K (.ref fQ54)=true)
  (a_Way_at_turn:W.findIn K (.ref A_Way) "at_turn"=some (some (.ref fQ55)))
  (lQ55:K.lookup fQ55=some ⟨ocQ55,odQ55,.func (W.fnOf "at_turn" "Way.at_turn" (ar cB) (ao cB) (af cB) .none kVQ55 dcQ55 pmQ55 anQ55 cdQ55 ctQ55),slQ55⟩)
  (cQ55:W.codeIn K cdQ55 "Way.at_turn"=true)
  (kQ55:W.keepIn K (.ref fQ55)=true)
  (iQ55:W.isFn K (.ref fQ55)=true)
  (c1_Way:W.findIn K (.ref A_Way) "__class__"=some (some (.builtin "object.__class__")))
  (c4_Way:W.mroIn K A_Way (.type "object")=some true)
  (pg_Growing:W.plainGet K A_Growing Str.empty=true)
  (hd_Growing:W.hasDictIn K A_Growing=true)
  (po_Growing:W.plainOver K A_Growing=true)
  (sa_Growing:W.findIn K (.ref A_Growing) "__setattr__"=some (some (.builtin "object.__setattr__")))
  (na_Growing_rate:W.findIn K (.ref A_Growing) "rate"=some none)
  (na_Growing_name:W.findIn K (.ref A_Growing) "name"=some none)
  (na_Growing_start:W.findIn K (.ref A_Growing) "start"=some none)
  (na_Growing_goal:W.findIn K (.ref A_Growing) "goal"=some none)
  (na_Growing_high:W.findIn K (.ref A_Growing) "high"=some none)
  (na_Growing_cost:W.findIn K (.ref A_Growing) "cost"=some none)
  (fK:W.makesIn K A_Growing=true)
  (ka_Growing:W.keepIn K (.ref A_Growing)=true)
  (a_Growing_init:W.findIn K (.ref A_Growing) "__init__"=some (some (.ref fIGrowing)))
  (iIGrowing:W.isFn K (.ref fIGrowing)=true)
  (lIGrowing:K.lookup fIGrowing=some ⟨ocIGrowing,odIGrowing,.func (W.fnOf "__init__" "Growing.__init__" (ar bK) (ao bK) (af bK) (.ref TIGrowing) kVIGrowing dcIGrowing pmIGrowing anIGrowing cdIGrowing ctIGrowing),slIGrowing⟩)
  (cIGrowing:W.codeIn K cdIGrowing "Growing.__init__"=true)
  (tIGrowing:K.lookup TIGrowing=some oIGrowing)
  (dIGrowing:oIGrowing.data=.seq #[.none,.none] nIGrowing)
  (a_Growing_gain:W.findIn K (.ref A_Growing) "gain"=some (some (.ref fQ56)))
  (lQ56:K.lookup fQ56=some ⟨ocQ56,odQ56,.func (W.fnOf "gain" "Growing.gain" (ar cf) (ao cf) (af cf) .none kVQ56 dcQ56 pmQ56 anQ56 cdQ56 ctQ56),slQ56⟩)
  (cQ56:W.codeIn K cdQ56 "Growing.gain"=true)
  (kQ56:W.keepIn K (.ref fQ56)=true)
  (iQ56:W.isFn K (.ref fQ56)=true)
  (a_Growing_at_turn:W.findIn K (.ref A_Growing) "at_turn"=some (some (.ref fQ57)))
  (lQ57:K.lookup fQ57=some ⟨ocQ57,odQ57,.func (W.fnOf "at_turn" "Growing.at_turn" (ar bv) (ao bv) (af bv) .none kVQ57 dcQ57 pmQ57 anQ57 cdQ57 ctQ57),slQ57⟩)
  (cQ57:W.codeIn K cdQ57 "Growing.at_turn"=true)
  (kQ57:W.keepIn K (.ref fQ57)=true)
  (iQ57:W.isFn K (.ref fQ57)=true)
  (a_Growing_may_stay:W.findIn K (.ref A_Growing) "may_stay"=some (some (.ref fQ52)))
  (a_Growing_out:W.findIn K (.ref A_Growing) "out"=some (some (.ref fQ54)))
  (c1_Growing:W.findIn K (.ref A_Growing) "__class__"=some (some (.builtin "object.__class__")))
  (c4_Growing:W.mroIn K A_Growing (.type "object")=some true)
  (pg_Leaking:W.plainGet K A_Leaking Str.empty=true)
  (hd_Leaking:W.hasDictIn K A_Leaking=true)
  (po_Leaking:W.plainOver K A_Leaking=true)
  (sa_Leaking:W.findIn K (.ref A_Leaking) "__setattr__"=some (some (.builtin "object.__setattr__")))
  (na_Leaking_loss:W.findIn K (.ref A_Leaking) "loss"=some none)
  (na_Leaking_name:W.findIn K (.ref A_Leaking) "name"=some none)
  (na_Leaking_start:W.findIn K (.ref A_Leaking) "start"=some none)
  (na_Leaking_goal:W.findIn K (.ref A_Leaking) "goal"=some none)
  (na_Leaking_high:W.findIn K (.ref A_Leaking) "high"=some none)
  (na_Leaking_cost:W.findIn K (.ref A_Leaking) "cost"=some none)
  (eN:W.makesIn K A_Leaking=true)
  (ka_Leaking:W.keepIn K (.ref A_Leaking)=true)
  (a_Leaking_init:W.findIn K (.ref A_Leaking) "__init__"=some (some (.ref fILeaking)))
  (iILeaking:W.isFn K (.ref fILeaking)=true)
  (lILeaking:K.lookup fILeaking=some ⟨ocILeaking,odILeaking,.func (W.fnOf "__init__" "Leaking.__init__" (ar bp) (ao bp) (af bp) (.ref TILeaking) kVILeaking dcILeaking pmILeaking anILeaking cdILeaking ctILeaking),slILeaking⟩)
  (cILeaking:W.codeIn K cdILeaking "Leaking.__init__"=true)
  (tILeaking:K.lookup TILeaking=some oILeaking)
  (dILeaking:oILeaking.data=.seq #[.none,.none] nILeaking)
  (rd_Leaking:W.readsIn K A_Leaking (.type "type")=true)
  (sg_Leaking:W.specialIn K (.ref A_Leaking) "__getattribute__"=some (some (.builtin "type.__getattribute__")))
  (fc_Leaking:W.findCls K (.ref A_Leaking) (.type "type") "__init__"=some (.val (.ref fILeaking)))
  (kc_Leaking:W.keepIn K (.ref fILeaking)=true)
  (a_Leaking_gain:W.findIn K (.ref A_Leaking) "gain"=some (some (.ref fQ58)))
  (lQ58:K.lookup fQ58=some ⟨ocQ58,odQ58,.func (W.fnOf "gain" "Leaking.gain" (ar bq) (ao bq) (af bq) .none kVQ58 dcQ58 pmQ58 anQ58 cdQ58 ctQ58),slQ58⟩)
  (cQ58:W.codeIn K cdQ58 "Leaking.gain"=true)
  (kQ58:W.keepIn K (.ref fQ58)=true)
  (iQ58:W.isFn K (.ref fQ58)=true)
  (a_Leaking_at_turn:W.findIn K (.ref A_Leaking) "at_turn"=some (some (.ref fQ59)))
  (lQ59:K.lookup fQ59=some ⟨ocQ59,odQ59,.func (W.fnOf "at_turn" "Leaking.at_turn" (ar bu) (ao bu) (af bu) .none kVQ59 dcQ59 pmQ59 anQ59 cdQ59 ctQ59),slQ59⟩)
  (cQ59:W.codeIn K cdQ59 "Leaking.at_turn"=true)
  (kQ59:W.keepIn K (.ref fQ59)=true)
  (iQ59:W.isFn K (.ref fQ59)=true)
  (a_Leaking_may_stay:W.findIn K (.ref A_Leaking) "may_stay"=some (some (.ref fQ52)))
  (a_Leaking_out:W.findIn K (.ref A_Leaking) "out"=some (some (.ref fQ54)))
  (c1_Leaking:W.findIn K (.ref A_Leaking) "__class__"=some (some (.builtin "object.__class__")))
  (c4_Leaking:W.mroIn K A_Leaking (.type "object")=some true)
  (pg_Store:W.plainGet K A_Store Str.empty=true)
  (hd_Store:W.hasDictIn K A_Store=true)
  (po_Store:W.plainOver K A_Store=true)
  (sa_Store:W.findIn K (.ref A_Store) "__setattr__"=some (some (.builtin "object.__setattr__")))
  (na_Store_loss:W.findIn K (.ref A_Store) "loss"=some none)
  (na_Store_name:W.findIn K (.ref A_Store) "name"=some none)
  (na_Store_start:W.findIn K (.ref A_Store) "start"=some none)
  (na_Store_goal:W.findIn K (.ref A_Store) "goal"=some none)
  (na_Store_high:W.findIn K (.ref A_Store) "high"=some none)
  (na_Store_cost:W.findIn K (.ref A_Store) "cost"=some none)
  (mk_Store:W.makesIn K A_Store=true)
  (ka_Store:W.keepIn K (.ref A_Store)=true)
  (a_Store_init:W.findIn K (.ref A_Store) "__init__"=some (some (.ref fIStore)))
  (iIStore:W.isFn K (.ref fIStore)=true)
  (lIStore:K.lookup fIStore=some ⟨ocIStore,odIStore,.func (W.fnOf "__init__" "Store.__init__" (ar cR) (ao cR) (af cR) (.ref TIStore) kVIStore dcIStore pmIStore anIStore cdIStore ctIStore),slIStore⟩)
  (cIStore:W.codeIn K cdIStore "Store.__init__"=true)
  (tIStore:K.lookup TIStore=some oIStore)
  (dIStore:oIStore.data=.seq #[.none,.none] nIStore)
  (a_Store_may_stay:W.findIn K (.ref A_Store) "may_stay"=some (some (.ref fQ60)))
  (lQ60:K.lookup fQ60=some ⟨ocQ60,odQ60,.func (W.fnOf "may_stay" "Store.may_stay" (ar bF) (ao bF) (af bF) .none kVQ60 dcQ60 pmQ60 anQ60 cdQ60 ctQ60),slQ60⟩)
  (cQ60:W.codeIn K cdQ60 "Store.may_stay"=true)
  (kQ60:W.keepIn K (.ref fQ60)=true)
  (iQ60:W.isFn K (.ref fQ60)=true)
  (a_Store_at_turn:W.findIn K (.ref A_Store) "at_turn"=some (some (.ref fQ61)))
  (lQ61:K.lookup fQ61=some ⟨ocQ61,odQ61,.func (W.fnOf "at_turn" "Store.at_turn" (ar bS) (ao bS) (af bS) .none kVQ61 dcQ61 pmQ61 anQ61 cdQ61 ctQ61),slQ61⟩)
  (cQ61:W.codeIn K cdQ61 "Store.at_turn"=true)
  (kQ61:W.keepIn K (.ref fQ61)=true)
  (iQ61:W.isFn K (.ref fQ61)=true)
  (a_Store_gain:W.findIn K (.ref A_Store) "gain"=some (some (.ref fQ58)))
  (a_Store_out:W.findIn K (.ref A_Store) "out"=some (some (.ref fQ54)))
  (c1_Store:W.findIn K (.ref A_Store) "__class__"=some (some (.builtin "object.__class__")))
  (c4_Store:W.mroIn K A_Store (.type "object")=some true)
  (pg_Net:W.plainGet K A_Net Str.empty=true)
  (hd_Net:W.hasDictIn K A_Net=true)
  (po_Net:W.plainOver K A_Net=true)
  (sa_Net:W.findIn K (.ref A_Net) "__setattr__"=some (some (.builtin "object.__setattr__")))
  (na_Net_wants:W.findIn K (.ref A_Net) "wants"=some none)
  (na_Net_ways:W.findIn K (.ref A_Net) "ways"=some none)
  (mk_Net:W.makesIn K A_Net=true)
  (ka_Net:W.keepIn K (.ref A_Net)=true)
  (a_Net_init:W.findIn K (.ref A_Net) "__init__"=some (some (.ref fQ62)))
  (iQ62:W.isFn K (.ref fQ62)=true)
  (lQ62:K.lookup fQ62=some ⟨ocQ62,odQ62,.func (W.fnOf "__init__" "Net.__init__" (ar dN) (ao dN) (af dN) .none kVQ62 dcQ62 pmQ62 anQ62 cdQ62 ctQ62),slQ62⟩)
  (cQ62:W.codeIn K cdQ62 "Net.__init__"=true)
  (kQ62:W.keepIn K (.ref fQ62)=true)
  (a_Net_names:W.findIn K (.ref A_Net) "names"=some (some (.ref fQ63)))
  (lQ63:K.lookup fQ63=some ⟨ocQ63,odQ63,.func (W.fnOf "names" "Net.names" (ar dh) (ao dh) (af dh) .none kVQ63 dcQ63 pmQ63 anQ63 cdQ63 ctQ63),slQ63⟩)
  (cQ63:W.codeIn K cdQ63 "Net.names"=true)
  (kQ63:W.keepIn K (.ref fQ63)=true)
  (iQ63:W.isFn K (.ref fQ63)=true)
  (a_Net_want:W.findIn K (.ref A_Net) "want"=some (some (.ref fQ64)))
  (lQ64:K.lookup fQ64=some ⟨ocQ64,odQ64,.func (W.fnOf "want" "Net.want" (ar dM) (ao dM) (af dM) .none kVQ64 dcQ64 pmQ64 anQ64 cdQ64 ctQ64),slQ64⟩)
  (cQ64:W.codeIn K cdQ64 "Net.want"=true)
  (kQ64:W.keepIn K (.ref fQ64)=true)
  (iQ64:W.isFn K (.ref fQ64)=true)
  (a_Net_way:W.findIn K (.ref A_Net) "way"=some (some (.ref fQ65)))
  (lQ65:K.lookup fQ65=some ⟨ocQ65,odQ65,.func (W.fnOf "way" "Net.way" (ar eG) (ao eG) (af eG) .none kVQ65 dcQ65 pmQ65 anQ65 cdQ65 ctQ65),slQ65⟩)
  (cQ65:W.codeIn K cdQ65 "Net.way"=true)
  (kQ65:W.keepIn K (.ref fQ65)=true)
  (iQ65:W.isFn K (.ref fQ65)=true)
  (a_Net_all_ways:W.findIn K (.ref A_Net) "all_ways"=some (some (.ref fQ66)))
  (lQ66:K.lookup fQ66=some ⟨ocQ66,odQ66,.func (W.fnOf "all_ways" "Net.all_ways" (ar ce) (ao ce) (af ce) .none kVQ66 dcQ66 pmQ66 anQ66 cdQ66 ctQ66),slQ66⟩)
  (cQ66:W.codeIn K cdQ66 "Net.all_ways"=true)
  (kQ66:W.keepIn K (.ref fQ66)=true)
  (iQ66:W.isFn K (.ref fQ66)=true)
  (no_Net_sign:W.findIn K (.ref A_Net) "sign"=some none)
  (no_Net_may_stay:W.findIn K (.ref A_Net) "may_stay"=some none)
  (c2:W.specialIn K (.builtin "object.__class__") "__get__"=some (some (.builtin "getset_descriptor.__get__")))
  (c3:W.takesIn K (.builtin "object.__class__")=some true)
  (a_NoWay_xinit:W.findIn K (.ref A_NoWay) "__init__"=some (some (.ref fQ67)))
  (lQ67:K.lookup fQ67=some ⟨ocQ67,odQ67,.func (W.fnOf "__init__" "NoWay.__init__" (ar cm) (ao cm) (af cm) .none kVQ67 dcQ67 pmQ67 anQ67 cdQ67 ctQ67),slQ67⟩)
  (cQ67:W.codeIn K cdQ67 "NoWay.__init__"=true)
  (kQ67:W.keepIn K (.ref fQ67)=true)
  (tQ67:W.typeIn K (.ref fQ67)=some (.type "function"))
  (eQ67:excFI K A_NoWay bmV "ValueError.__new__"=some fQ67)
  (xc_NoWay:W.clsIn K A_NoWay=some cdx_NoWay)
  (xm_NoWay:cdx_NoWay.mro=[A_NoWay,A_GainError].map Value.ref++bmV)
  (xh_NoWay:cdx_NoWay.hasDict=true)
  (xa_NoWay:W.findIn K (.ref A_NoWay) "__setattr__"=some (some (.builtin "object.__setattr__")))
  (na_NoWay_name:W.findIn K (.ref A_NoWay) "name"=some none)
  (hd_NoWay:W.hasDictIn K A_NoWay=true)
  (rdx_NoWay:W.readsIn K A_GainError (.type "type")=true)
  (sgx_NoWay:W.specialIn K (.ref A_GainError) "__getattribute__"=some (some (.builtin "type.__getattribute__")))
  (bf_NoWay:W.findCls K (.ref A_GainError) (.type "type") "__init__"=some (.val (.builtin "ValueError.__init__")))
  (ca1_NoWay:W.instIn K (.ref A_NoWay) (.type "tuple")=some false)
  (ca2_NoWay:W.clsIn K A_NoWay=some cd_ca2_NoWay)
  (ca3_NoWay:W.subIn K (.ref A_NoWay) (.type "BaseException")=some true)
  (su_NoWay_NoWay:W.subIn K (.ref A_NoWay) (.ref A_NoWay)=some true)
  (k_Fraction_Fraction:W.kitOne K (.ref A_Fraction) (.ref A_Fraction)=some true)
  (k_Way_Store:W.kitOne K (.ref A_Way) (.ref A_Store)=some false)
  (k_Growing_Store:W.kitOne K (.ref A_Growing) (.ref A_Store)=some false)
  (k_Leaking_Store:W.kitOne K (.ref A_Leaking) (.ref A_Store)=some false)
  (k_int_bool:W.kitOne K (.type "int") (.type "bool")=some false)
  (k_dict_dict:W.kitOne K (.type "dict") (.type "dict")=some true)
  (k_int_int:W.kitOne K (.type "int") (.type "int")=some true)
  (k_list_list:W.kitOne K (.type "list") (.type "list")=some true)
  (k_str_str:W.kitOne K (.type "str") (.type "str")=some true)
  (k_tuple_tuple:W.kitOne K (.type "tuple") (.type "tuple")=some true)
  (xga_NoWay:W.findIn K (.ref A_NoWay) "__getattribute__"=some (some (.builtin "BaseException.__getattribute__")))
  (xgh_NoWay:W.findIn K (.ref A_NoWay) "__getattr__"=some none)
  (xbe_NoWay:W.mroIn K A_NoWay (.type "BaseException")=some true)
  (xca_NoWay:W.findIn K (.ref A_NoWay) "__class__"=some (some (.builtin "object.__class__")))
  (xob_NoWay:W.mroIn K A_NoWay (.type "object")=some true)
  (xcl_NoWay:W.clsIn K A_NoWay=some cd_xcl_NoWay)
  (gi_MOST_PLACES:W.nsIn K mainGlobals "MOST_PLACES"=some (some (.int 12 tk_MOST_PLACES)))
  (gi_MOST_WAYS:W.nsIn K mainGlobals "MOST_WAYS"=some (some (.int 24 tk_MOST_WAYS)))
  (z_abs:W.nsIn K mainGlobals "abs"=some none)
  (z_all:W.nsIn K mainGlobals "all"=some none)
  (z_bool:W.nsIn K mainGlobals "bool"=some none)
  (z_dict:W.nsIn K mainGlobals "dict"=some none)
  (z_enumerate:W.nsIn K mainGlobals "enumerate"=some none)
  (z_int:W.nsIn K mainGlobals "int"=some none)
  (z_isinstance:W.nsIn K mainGlobals "isinstance"=some none)
  (z_len:W.nsIn K mainGlobals "len"=some none)
  (z_list:W.nsIn K mainGlobals "list"=some none)
  (z_max:W.nsIn K mainGlobals "max"=some none)
  (z_range:W.nsIn K mainGlobals "range"=some none)
  (z_sorted:W.nsIn K mainGlobals "sorted"=some none)
  (z_str:W.nsIn K mainGlobals "str"=some none)
  (z_tuple:W.nsIn K mainGlobals "tuple"=some none)
  (z_zip:W.nsIn K mainGlobals "zip"=some none) :
  ∃ fd:FuncData,(∀ (s:Shared) (v:Value),BindsTo s fd ⟨[v],[]⟩ [("_law_script",v)])/\∀ base:Heap,K.In base->base.Ns mainGlobals mg->FnOk l.prog w K mg base CX0 14 fa fd ["_law_script"] (spLaw K):=by
 have e:=hfa.symm.trans (iN X G aDlaw)
 cases e
 have N_Q0:=aB (st:=eF) lQ0 cQ0 kQ0
 have N_Q1:=aB (st:=bt) lQ1 cQ1 kQ1
 have N_Q2:=aB (st:=gr) lQ2 cQ2 kQ2
 have N_Q3:=aB (st:=eA) lQ3 cQ3 kQ3
 have N_Q4:=aB (st:=bM) lQ4 cQ4 kQ4
 have N_Q5:=aB (st:=dg) lQ5 cQ5 kQ5
 have N_Q6:=aB (st:=b8) lQ6 cQ6 kQ6
 have N_Q7:=aB (st:=fo) lQ7 cQ7 kQ7
 have N_Q8:=aB (st:=br) lQ8 cQ8 kQ8
 have N_Q9:=aB (st:=bg) lQ9 cQ9 kQ9
 have N_Q10:=aB (st:=bO) lQ10 cQ10 kQ10
 have N_Q11:=aB (st:=b9) lQ11 cQ11 kQ11
 have N_Q12:=aB (st:=cY) lQ12 cQ12 kQ12
 have N_Q13:=aB (st:=fk) lQ13 cQ13 kQ13
 have N_Q14:=aB (st:=dz) lQ14 cQ14 kQ14
 have N_Q15:=aB (st:=dv) lQ15 cQ15 kQ15
 have N_Q16:=aB (st:=fm) lQ16 cQ16 kQ16
 have N_Q17:=aB (st:=dJ) lQ17 cQ17 kQ17
 have N_Q18:=aB (st:=cz) lQ18 cQ18 kQ18
 have N_Q19:=aB (st:=dA) lQ19 cQ19 kQ19
 have N_Q20:=aB (st:=dG) lQ20 cQ20 kQ20
 have N_Q21:=aB (st:=c5) lQ21 cQ21 kQ21
 have N_Q22:=aB (st:=dF) lQ22 cQ22 kQ22
 have N_Q23:=aB (st:=cQ) lQ23 cQ23 kQ23
 have N_Q24:=aB (st:=bQ) lQ24 cQ24 kQ24
 have N_Q25:=aB (st:=dH) lQ25 cQ25 kQ25
 have N_Q26:=aB (st:=cy) lQ26 cQ26 kQ26
 have N_Q27:=aB (st:=dI) lQ27 cQ27 kQ27
 have N_Q28:=aB (st:=eD) lQ28 cQ28 kQ28
 have N_Q29:=aB (st:=eC) lQ29 cQ29 kQ29
 have N_Q30:=aB (st:=dc) lQ30 cQ30 kQ30
 have N_Q31:=aB (st:=cO) lQ31 cQ31 kQ31
 have N_Q32:=aB (st:=cZ) lQ32 cQ32 kQ32
 have N_Q33:=aB (st:=c6) lQ33 cQ33 kQ33
 have N_Q34:=aB (st:=cN) lQ34 cQ34 kQ34
 have N_Q35:=aB (st:=dE) lQ35 cQ35 kQ35
 have N_Q36:=aB (st:=c8) lQ36 cQ36 kQ36
 have N_Q37:=aB (st:=bR) lQ37 cQ37 kQ37
 have N_Q38:=aB (st:=c7) lQ38 cQ38 kQ38
 have N_Q39:=aB (st:=dC) lQ39 cQ39 kQ39
 have N_Q40:=aB (st:=cP) lQ40 cQ40 kQ40
 have N_Q41:=aB (st:=cw) lQ41 cQ41 kQ41
 have N_Q42:=aB (st:=c9) lQ42 cQ42 kQ42
 have N_Q43:=aB (st:=eE) lQ43 cQ43 kQ43
 have N_Q44:=aB (st:=df) lQ44 cQ44 kQ44
 have N_Q45:=aB (st:=cc) lQ45 cQ45 kQ45
 have N_Q46:=aB (st:=cx) lQ46 cQ46 kQ46
 have N_Dlaw:=aB (st:=gC) lDlaw cDlaw kDlaw
 have N_IFraction:=g7 (st:=bW) lIFraction cIFraction tIFraction dIFraction
 have N_Q47:=aB (st:=bV) lQ47 cQ47 kQ47
 have N_Q48:=aB (st:=bI) lQ48 cQ48 kQ48
 have N_Q49:=aB (st:=bH) lQ49 cQ49 kQ49
 have N_Q50:=aB (st:=bG) lQ50 cQ50 kQ50
 have N_Q51:=aB (st:=bU) lQ51 cQ51 kQ51
 have N_IWay:=g7 (st:=cJ) lIWay cIWay tIWay dIWay
 have N_Q52:=aB (st:=bJ) lQ52 cQ52 kQ52
 have N_Q53:=aB (st:=dL) lQ53 cQ53 kQ53
 have N_Q54:=aB (st:=cA) lQ54 cQ54 kQ54
 have N_Q55:=aB (st:=cB) lQ55 cQ55 kQ55
 have N_IGrowing:=g7 (st:=bK) lIGrowing cIGrowing tIGrowing dIGrowing
 have N_Q56:=aB (st:=cf) lQ56 cQ56 kQ56
 have N_Q57:=aB (st:=bv) lQ57 cQ57 kQ57
 have N_ILeaking:=g7 (st:=bp) lILeaking cILeaking tILeaking dILeaking
 have N_Q58:=aB (st:=bq) lQ58 cQ58 kQ58
 have N_Q59:=aB (st:=bu) lQ59 cQ59 kQ59
 have N_IStore:=g7 (st:=cR) lIStore cIStore tIStore dIStore
 have N_Q60:=aB (st:=bF) lQ60 cQ60 kQ60
 have N_Q61:=aB (st:=bS) lQ61 cQ61 kQ61
 have N_Q62:=aB (st:=dN) lQ62 cQ62 kQ62
 have N_Q63:=aB (st:=dh) lQ63 cQ63 kQ63
 have N_Q64:=aB (st:=dM) lQ64 cQ64 kQ64
 have N_Q65:=aB (st:=eG) lQ65 cQ65 kQ65
 have N_Q66:=aB (st:=ce) lQ66 cQ66 kQ66
 have N_Q67:=aB (st:=cm) lQ67 cQ67 kQ67
 have T:TX K mg ⟨A_Fraction,A_Way,A_Growing,A_Leaking,A_Store,A_Net,A_GainError,A_NoNumber,A_TooMany,A_NoWay,A_Twice,A_NoPlace⟩:={
  d_divisor:=⟨_,_,N_Q0,iN X G aQ0,N_Q0.binds (ps:=["one","other"]) λ _ _ _ _ _ _ us hl=>by obtain ⟨_,_,rfl⟩:=lm2 us hl;exact rfl⟩
  d_in_lowest_terms:=⟨_,_,N_Q1,iN X G aQ1,N_Q1.binds (ps:=["top","bottom"]) λ _ _ _ _ _ _ us hl=>by obtain ⟨_,_,rfl⟩:=lm2 us hl;exact rfl⟩
  d_total:=⟨_,_,N_Q2,iN X G aQ2,N_Q2.binds (ps:=["some"]) λ _ _ _ _ _ _ us hl=>by obtain ⟨_,rfl⟩:=lm1 us hl;exact rfl⟩
  d_name_at:=⟨_,_,N_Q3,iN X G aQ3,N_Q3.binds (ps:=["name","turn"]) λ _ _ _ _ _ _ us hl=>by obtain ⟨_,_,rfl⟩:=lm2 us hl;exact rfl⟩
  d_wants_by_name:=⟨_,_,N_Q4,iN X G aQ4,N_Q4.binds (ps:=["places"]) λ _ _ _ _ _ _ us hl=>by obtain ⟨_,rfl⟩:=lm1 us hl;exact rfl⟩
  d_check_way:=⟨_,_,N_Q5,iN X G aQ5,N_Q5.binds (ps:=["way","ahead","wants"]) λ _ _ _ _ _ _ us hl=>by obtain ⟨_,_,_,rfl⟩:=lm3 us hl;exact rfl⟩
  d_ways_by_name:=⟨_,_,N_Q6,iN X G aQ6,N_Q6.binds (ps:=["ways","wants"]) λ _ _ _ _ _ _ us hl=>by obtain ⟨_,_,rfl⟩:=lm2 us hl;exact rfl⟩
  d_amount:=⟨_,_,N_Q7,iN X G aQ7,N_Q7.binds (ps:=["plan","name"]) λ _ _ _ _ _ _ us hl=>by obtain ⟨_,_,rfl⟩:=lm2 us hl;exact rfl⟩
  d_without_noughts:=⟨_,_,N_Q8,iN X G aQ8,N_Q8.binds (ps:=["plan"]) λ _ _ _ _ _ _ us hl=>by obtain ⟨_,rfl⟩:=lm1 us hl;exact rfl⟩
  d_refuse_other_names:=⟨_,_,N_Q9,iN X G aQ9,N_Q9.binds (ps:=["net","plan"]) λ _ _ _ _ _ _ us hl=>by obtain ⟨_,_,rfl⟩:=lm2 us hl;exact rfl⟩
  d_refuse_stores:=⟨_,_,N_Q10,iN X G aQ10,N_Q10.binds (ps:=["net","stores"]) λ _ _ _ _ _ _ us hl=>by obtain ⟨_,_,rfl⟩:=lm2 us hl;exact rfl⟩
  d_refuse_wants:=⟨_,_,N_Q11,iN X G aQ11,N_Q11.binds (ps:=["net","wants"]) λ _ _ _ _ _ _ us hl=>by obtain ⟨_,_,rfl⟩:=lm2 us hl;exact rfl⟩
  d_places_at:=⟨_,_,N_Q12,iN X G aQ12,N_Q12.binds (ps:=["net","own_wants","turn"]) λ _ _ _ _ _ _ us hl=>by obtain ⟨_,_,_,rfl⟩:=lm3 us hl;exact rfl⟩
  d_turned:=⟨_,_,N_Q13,iN X G aQ13,N_Q13.binds (ps:=["net","stores","wants"]) λ _ _ _ _ _ _ us hl=>by obtain ⟨_,_,_,rfl⟩:=lm3 us hl;exact rfl⟩
  d_own_plan:=⟨_,_,N_Q14,iN X G aQ14,N_Q14.binds (ps:=["net","plan","turn"]) λ _ _ _ _ _ _ us hl=>by obtain ⟨_,_,_,rfl⟩:=lm3 us hl;exact rfl⟩
  d_taken_in:=⟨_,_,N_Q15,iN X G aQ15,N_Q15.binds (ps:=["net","stores","plan","turn"]) λ _ _ _ _ _ _ us hl=>by obtain ⟨_,_,_,_,rfl⟩:=lm4 us hl;exact rfl⟩
  d_put_in:=⟨_,_,N_Q16,iN X G aQ16,N_Q16.binds (ps:=["net","stores","plan","turn"]) λ _ _ _ _ _ _ us hl=>by obtain ⟨_,_,_,_,rfl⟩:=lm4 us hl;exact rfl⟩
  d_by_turns:=⟨_,_,N_Q17,iN X G aQ17,N_Q17.binds (ps:=["net","stores","wants","plan"]) λ _ _ _ _ _ _ us hl=>by obtain ⟨_,_,_,_,rfl⟩:=lm4 us hl;exact rfl⟩
  d_law_cell_at:=⟨_,_,N_Q18,iN X G aQ18,N_Q18.binds (ps:=["_law_script","_law_k"]) λ _ _ _ _ _ _ us hl=>by obtain ⟨_,_,rfl⟩:=lm2 us hl;exact rfl⟩
  d_law_plus:=⟨_,_,N_Q19,iN X G aQ19,N_Q19.binds (ps:=["_law_one","_law_other"]) λ _ _ _ _ _ _ us hl=>by obtain ⟨_,_,rfl⟩:=lm2 us hl;exact rfl⟩
  d_law_less:=⟨_,_,N_Q20,iN X G aQ20,N_Q20.binds (ps:=["_law_one","_law_other"]) λ _ _ _ _ _ _ us hl=>by obtain ⟨_,_,rfl⟩:=lm2 us hl;exact rfl⟩
  d_law_times:=⟨_,_,N_Q21,iN X G aQ21,N_Q21.binds (ps:=["_law_one","_law_other"]) λ _ _ _ _ _ _ us hl=>by obtain ⟨_,_,rfl⟩:=lm2 us hl;exact rfl⟩
  d_law_name:=⟨_,_,N_Q22,iN X G aQ22,N_Q22.binds (ps:=["_law_at","_law_cell"]) λ _ _ _ _ _ _ us hl=>by obtain ⟨_,_,rfl⟩:=lm2 us hl;exact rfl⟩
  d_law_number:=⟨_,_,N_Q23,iN X G aQ23,N_Q23.binds (ps:=["_law_cell"]) λ _ _ _ _ _ _ us hl=>by obtain ⟨_,rfl⟩:=lm1 us hl;exact rfl⟩
  d_law_not_under:=⟨_,_,N_Q24,iN X G aQ24,N_Q24.binds (ps:=["_law_cell"]) λ _ _ _ _ _ _ us hl=>by obtain ⟨_,rfl⟩:=lm1 us hl;exact rfl⟩
  d_law_high:=⟨_,_,N_Q25,iN X G aQ25,N_Q25.binds (ps:=["_law_cell"]) λ _ _ _ _ _ _ us hl=>by obtain ⟨_,rfl⟩:=lm1 us hl;exact rfl⟩
  d_law_gain_by:=⟨_,_,N_Q26,iN X G aQ26,N_Q26.binds (ps:=["_law_cell"]) λ _ _ _ _ _ _ us hl=>by obtain ⟨_,rfl⟩:=lm1 us hl;exact rfl⟩
  d_law_ends:=⟨_,_,N_Q27,iN X G aQ27,N_Q27.binds (ps:=["_law_cell","_law_places"]) λ _ _ _ _ _ _ us hl=>by obtain ⟨_,_,rfl⟩:=lm2 us hl;exact rfl⟩
  d_law_net:=⟨_,_,N_Q28,iN X G aQ28,N_Q28.binds (ps:=["_law_script","_law_size","_law_many"]) λ _ _ _ _ _ _ us hl=>by obtain ⟨_,_,_,rfl⟩:=lm3 us hl;exact rfl⟩
  d_law_way:=⟨_,_,N_Q29,iN X G aQ29,N_Q29.binds (ps:=["_law_way_here"]) λ _ _ _ _ _ _ us hl=>by obtain ⟨_,rfl⟩:=lm1 us hl;exact rfl⟩
  d_law_built:=⟨_,_,N_Q30,iN X G aQ30,N_Q30.binds (ps:=["_law_told"]) λ _ _ _ _ _ _ us hl=>by obtain ⟨_,rfl⟩:=lm1 us hl;exact rfl⟩
  d_law_stores:=⟨_,_,N_Q31,iN X G aQ31,N_Q31.binds (ps:=["_law_script","_law_at","_law_places","_law_count"]) λ _ _ _ _ _ _ us hl=>by obtain ⟨_,_,_,_,rfl⟩:=lm4 us hl;exact rfl⟩
  d_law_wants:=⟨_,_,N_Q32,iN X G aQ32,N_Q32.binds (ps:=["_law_script","_law_at","_law_places","_law_turns"]) λ _ _ _ _ _ _ us hl=>by obtain ⟨_,_,_,_,rfl⟩:=lm4 us hl;exact rfl⟩
  d_law_store:=⟨_,_,N_Q33,iN X G aQ33,N_Q33.binds (ps:=["_law_store_here"]) λ _ _ _ _ _ _ us hl=>by obtain ⟨_,rfl⟩:=lm1 us hl;exact rfl⟩
  d_law_turned:=⟨_,_,N_Q34,iN X G aQ34,N_Q34.binds (ps:=["_law_told","_law_stores_here","_law_wants_here"]) λ _ _ _ _ _ _ us hl=>by obtain ⟨_,_,_,rfl⟩:=lm3 us hl;exact rfl⟩
  d_law_pair:=⟨_,_,N_Q35,iN X G aQ35,N_Q35.binds (ps:=["_law_number_here"]) λ _ _ _ _ _ _ us hl=>by obtain ⟨_,rfl⟩:=lm1 us hl;exact rfl⟩
  d_law_pairs:=⟨_,_,N_Q36,iN X G aQ36,N_Q36.binds (ps:=["_law_told"]) λ _ _ _ _ _ _ us hl=>by obtain ⟨_,rfl⟩:=lm1 us hl;exact rfl⟩
  d_law_fractions:=⟨_,_,N_Q37,iN X G aQ37,N_Q37.binds (ps:=["_law_pairs_here"]) λ _ _ _ _ _ _ us hl=>by obtain ⟨_,rfl⟩:=lm1 us hl;exact rfl⟩
  d_law_stays:=⟨_,_,N_Q38,iN X G aQ38,N_Q38.binds (ps:=["_law_handed","_law_pairs_here"]) λ _ _ _ _ _ _ us hl=>by obtain ⟨_,_,rfl⟩:=lm2 us hl;exact rfl⟩
  d_law_plan:=⟨_,_,N_Q39,iN X G aQ39,N_Q39.binds (ps:=["_law_script","_law_ways"]) λ _ _ _ _ _ _ us hl=>by obtain ⟨_,_,rfl⟩:=lm2 us hl;exact rfl⟩
  d_law_put_in:=⟨_,_,N_Q40,iN X G aQ40,N_Q40.binds (ps:=["_law_plan_here","_law_name_here","_law_at"]) λ _ _ _ _ _ _ us hl=>by obtain ⟨_,_,_,rfl⟩:=lm3 us hl;exact rfl⟩
  d_law_strange:=⟨_,_,N_Q41,iN X G aQ41,N_Q41.binds (ps:=["_law_told","_law_stores_here","_law_turns","_law_cell","_law_name_here"]) λ _ _ _ _ _ _ us hl=>by obtain ⟨_,_,_,_,_,rfl⟩:=lm5 us hl;exact rfl⟩
  d_law_first:=⟨_,_,N_Q42,iN X G aQ42,N_Q42.binds (ps:=["_law_plan_here","_law_ways"]) λ _ _ _ _ _ _ us hl=>by obtain ⟨_,_,rfl⟩:=lm2 us hl;exact rfl⟩
  d_law_due:=⟨_,_,N_Q43,iN X G aQ43,N_Q43.binds (ps:=["_law_told","_law_stores_here","_law_plan_here","_law_turn","_law_last"]) λ _ _ _ _ _ _ us hl=>by obtain ⟨_,_,_,_,_,rfl⟩:=lm5 us hl;exact rfl⟩
  d_law_alike:=⟨_,_,N_Q44,iN X G aQ44,N_Q44.binds (ps:=["_law_found","_law_due_here"]) λ _ _ _ _ _ _ us hl=>by obtain ⟨_,_,rfl⟩:=lm2 us hl;exact rfl⟩
  d_law_all_told:=⟨_,_,N_Q45,iN X G aQ45,N_Q45.binds (ps:=["_law_found","_law_dues"]) λ _ _ _ _ _ _ us hl=>by obtain ⟨_,_,rfl⟩:=lm2 us hl;exact rfl⟩
  d_law_refused:=⟨_,_,N_Q46,iN X G aQ46,N_Q46.binds (ps:=["_law_net_here","_law_stores_here","_law_rows","_law_plan_here"]) λ _ _ _ _ _ _ us hl=>by obtain ⟨_,_,_,_,rfl⟩:=lm4 us hl;exact rfl⟩
  d_law:=⟨_,_,N_Dlaw,iN X G aDlaw,N_Dlaw.binds (ps:=["_law_script"]) λ _ _ _ _ _ _ us hl=>by obtain ⟨_,rfl⟩:=lm1 us hl;exact rfl⟩
  cl_Fraction:=⟨pg_Fraction,hd_Fraction,po_Fraction,sa_Fraction⟩
  mg_Fraction:=iN X G n_Fraction
  na_Fraction_top
  na_Fraction_bottom
  i_Fraction:=⟨fIFraction,_,N_IFraction.gen,⟨mk_Fraction,a_Fraction_init,iIFraction,ka_Fraction⟩,λ dvs hd=>by
   simp only [iw,ib,i3] at hd
   rcases hd with rfl | rfl
   ·exact ⟨[],.nil,N_IFraction.binds (es:=[]) λ T kV doc pm an cdv ct us hl=>by obtain ⟨_,_,_,rfl⟩:=lm3 us (by simpa using hl);exact ⟨_,rfl,rfl⟩⟩
   ·exact ⟨[.int 1 tkIFraction0],(.cons ⟨_,rfl⟩ (.nil)),N_IFraction.binds (es:=[.int 1 tkIFraction0]) λ T kV doc pm an cdv ct us hl=>by obtain ⟨_,_,rfl⟩:=lm2 us (by simpa using hl);exact ⟨_,rfl,rfl⟩⟩⟩
  m_Fraction_plus:=⟨fQ47,_,N_Q47,⟨a_Fraction_plus,iQ47,kQ47⟩,N_Q47.binds (ps:=["self","other"]) λ _ _ _ _ _ _ us hl=>by obtain ⟨_,_,rfl⟩:=lm2 us hl;exact rfl⟩
  m_Fraction_minus:=⟨fQ48,_,N_Q48,⟨a_Fraction_minus,iQ48,kQ48⟩,N_Q48.binds (ps:=["self","other"]) λ _ _ _ _ _ _ us hl=>by obtain ⟨_,_,rfl⟩:=lm2 us hl;exact rfl⟩
  m_Fraction_times:=⟨fQ49,_,N_Q49,⟨a_Fraction_times,iQ49,kQ49⟩,N_Q49.binds (ps:=["self","other"]) λ _ _ _ _ _ _ us hl=>by obtain ⟨_,_,rfl⟩:=lm2 us hl;exact rfl⟩
  m_Fraction_under:=⟨fQ50,_,N_Q50,⟨a_Fraction_under,iQ50,kQ50⟩,N_Q50.binds (ps:=["self","other"]) λ _ _ _ _ _ _ us hl=>by obtain ⟨_,_,rfl⟩:=lm2 us hl;exact rfl⟩
  m_Fraction_sign:=⟨fQ51,_,N_Q51,⟨a_Fraction_sign,iQ51,kQ51⟩,N_Q51.binds (ps:=["self"]) λ _ _ _ _ _ _ us hl=>by obtain ⟨_,rfl⟩:=lm1 us hl;exact rfl⟩
  c1_Fraction
  c4_Fraction
  cl_Way:=⟨pg_Way,hd_Way,po_Way,sa_Way⟩
  mg_Way:=iN X G n_Way
  na_Way_name
  na_Way_start
  na_Way_goal
  na_Way_high
  na_Way_cost
  i_Way:=⟨fIWay,_,N_IWay.gen,⟨mk_Way,a_Way_init,iIWay,ka_Way⟩,λ dvs hd=>by
   simp only [iw,ib,i3] at hd
   rcases hd with rfl | rfl
   ·exact ⟨[],.nil,N_IWay.binds (es:=[]) λ T kV doc pm an cdv ct us hl=>by obtain ⟨_,_,_,_,_,_,rfl⟩:=lm6 us (by simpa using hl);exact ⟨_,rfl,rfl⟩⟩
   ·exact ⟨[.none,.none],(.cons rfl (.cons rfl (.nil))),N_IWay.binds (es:=[.none,.none]) λ T kV doc pm an cdv ct us hl=>by obtain ⟨_,_,_,_,rfl⟩:=lm4 us (by simpa using hl);exact ⟨_,rfl,rfl⟩⟩⟩
  c_Way:=⟨fIWay,_,N_IWay.gen,⟨rd_Way,sg_Way⟩,fc_Way,kc_Way,N_IWay.binds (es:=[]) λ T kV doc pm an cdv ct us hl=>by obtain ⟨_,_,_,_,_,_,rfl⟩:=lm6 us (by simpa using hl);exact ⟨_,rfl,rfl⟩⟩
  m_Way_may_stay:=⟨fQ52,_,N_Q52,⟨a_Way_may_stay,iQ52,kQ52⟩,N_Q52.binds (ps:=["self"]) λ _ _ _ _ _ _ us hl=>by obtain ⟨_,rfl⟩:=lm1 us hl;exact rfl⟩
  m_Way_gain:=⟨fQ53,_,N_Q53,⟨a_Way_gain,iQ53,kQ53⟩,N_Q53.binds (ps:=["self"]) λ _ _ _ _ _ _ us hl=>by obtain ⟨_,rfl⟩:=lm1 us hl;exact rfl⟩
  m_Way_out:=⟨fQ54,_,N_Q54,⟨a_Way_out,iQ54,kQ54⟩,N_Q54.binds (ps:=["self","amount"]) λ _ _ _ _ _ _ us hl=>by obtain ⟨_,_,rfl⟩:=lm2 us hl;exact rfl⟩
  m_Way_at_turn:=⟨fQ55,_,N_Q55,⟨a_Way_at_turn,iQ55,kQ55⟩,N_Q55.binds (ps:=["self","turn"]) λ _ _ _ _ _ _ us hl=>by obtain ⟨_,_,rfl⟩:=lm2 us hl;exact rfl⟩
  c1_Way
  c4_Way
  cl_Growing:=⟨pg_Growing,hd_Growing,po_Growing,sa_Growing⟩
  mg_Growing:=iN X G n_Growing
  na_Growing_rate
  na_Growing_name
  na_Growing_start
  na_Growing_goal
  na_Growing_high
  na_Growing_cost
  i_Growing:=⟨fIGrowing,_,N_IGrowing.gen,⟨fK,a_Growing_init,iIGrowing,ka_Growing⟩,λ dvs hd=>by
   simp only [iw,ib,i3] at hd
   rcases hd with rfl | rfl
   ·exact ⟨[],.nil,N_IGrowing.binds (es:=[]) λ T kV doc pm an cdv ct us hl=>by obtain ⟨_,_,_,_,_,_,_,rfl⟩:=lm7 us (by simpa using hl);exact ⟨_,rfl,rfl⟩⟩
   ·exact ⟨[.none,.none],(.cons rfl (.cons rfl (.nil))),N_IGrowing.binds (es:=[.none,.none]) λ T kV doc pm an cdv ct us hl=>by obtain ⟨_,_,_,_,_,rfl⟩:=lm5 us (by simpa using hl);exact ⟨_,rfl,rfl⟩⟩⟩
  m_Growing_gain:=⟨fQ56,_,N_Q56,⟨a_Growing_gain,iQ56,kQ56⟩,N_Q56.binds (ps:=["self"]) λ _ _ _ _ _ _ us hl=>by obtain ⟨_,rfl⟩:=lm1 us hl;exact rfl⟩
  m_Growing_at_turn:=⟨fQ57,_,N_Q57,⟨a_Growing_at_turn,iQ57,kQ57⟩,N_Q57.binds (ps:=["self","turn"]) λ _ _ _ _ _ _ us hl=>by obtain ⟨_,_,rfl⟩:=lm2 us hl;exact rfl⟩
  m_Growing_may_stay:=⟨fQ52,_,N_Q52,⟨a_Growing_may_stay,iQ52,kQ52⟩,N_Q52.binds (ps:=["self"]) λ _ _ _ _ _ _ us hl=>by obtain ⟨_,rfl⟩:=lm1 us hl;exact rfl⟩
  m_Growing_out:=⟨fQ54,_,N_Q54,⟨a_Growing_out,iQ54,kQ54⟩,N_Q54.binds (ps:=["self","amount"]) λ _ _ _ _ _ _ us hl=>by obtain ⟨_,_,rfl⟩:=lm2 us hl;exact rfl⟩
  c1_Growing
  c4_Growing
  cl_Leaking:=⟨pg_Leaking,hd_Leaking,po_Leaking,sa_Leaking⟩
  mg_Leaking:=iN X G n_Leaking
  na_Leaking_loss
  na_Leaking_name
  na_Leaking_start
  na_Leaking_goal
  na_Leaking_high
  na_Leaking_cost
  i_Leaking:=⟨fILeaking,_,N_ILeaking.gen,⟨eN,a_Leaking_init,iILeaking,ka_Leaking⟩,λ dvs hd=>by
   simp only [iw,ib,i3] at hd
   rcases hd with rfl | rfl
   ·exact ⟨[],.nil,N_ILeaking.binds (es:=[]) λ T kV doc pm an cdv ct us hl=>by obtain ⟨_,_,_,_,_,_,_,rfl⟩:=lm7 us (by simpa using hl);exact ⟨_,rfl,rfl⟩⟩
   ·exact ⟨[.none,.none],(.cons rfl (.cons rfl (.nil))),N_ILeaking.binds (es:=[.none,.none]) λ T kV doc pm an cdv ct us hl=>by obtain ⟨_,_,_,_,_,rfl⟩:=lm5 us (by simpa using hl);exact ⟨_,rfl,rfl⟩⟩⟩
  c_Leaking:=⟨fILeaking,_,N_ILeaking.gen,⟨rd_Leaking,sg_Leaking⟩,fc_Leaking,kc_Leaking,N_ILeaking.binds (es:=[]) λ T kV doc pm an cdv ct us hl=>by obtain ⟨_,_,_,_,_,_,_,rfl⟩:=lm7 us (by simpa using hl);exact ⟨_,rfl,rfl⟩⟩
  m_Leaking_gain:=⟨fQ58,_,N_Q58,⟨a_Leaking_gain,iQ58,kQ58⟩,N_Q58.binds (ps:=["self"]) λ _ _ _ _ _ _ us hl=>by obtain ⟨_,rfl⟩:=lm1 us hl;exact rfl⟩
  m_Leaking_at_turn:=⟨fQ59,_,N_Q59,⟨a_Leaking_at_turn,iQ59,kQ59⟩,N_Q59.binds (ps:=["self","turn"]) λ _ _ _ _ _ _ us hl=>by obtain ⟨_,_,rfl⟩:=lm2 us hl;exact rfl⟩
  m_Leaking_may_stay:=⟨fQ52,_,N_Q52,⟨a_Leaking_may_stay,iQ52,kQ52⟩,N_Q52.binds (ps:=["self"]) λ _ _ _ _ _ _ us hl=>by obtain ⟨_,rfl⟩:=lm1 us hl;exact rfl⟩
  m_Leaking_out:=⟨fQ54,_,N_Q54,⟨a_Leaking_out,iQ54,kQ54⟩,N_Q54.binds (ps:=["self","amount"]) λ _ _ _ _ _ _ us hl=>by obtain ⟨_,_,rfl⟩:=lm2 us hl;exact rfl⟩
  c1_Leaking
  c4_Leaking
  cl_Store:=⟨pg_Store,hd_Store,po_Store,sa_Store⟩
  mg_Store:=iN X G n_Store
  na_Store_loss
  na_Store_name
  na_Store_start
  na_Store_goal
  na_Store_high
  na_Store_cost
  i_Store:=⟨fIStore,_,N_IStore.gen,⟨mk_Store,a_Store_init,iIStore,ka_Store⟩,λ dvs hd=>by
   simp only [iw,ib,i3] at hd
   rcases hd with rfl | rfl
   ·exact ⟨[],.nil,N_IStore.binds (es:=[]) λ T kV doc pm an cdv ct us hl=>by obtain ⟨_,_,_,_,_,_,rfl⟩:=lm6 us (by simpa using hl);exact ⟨_,rfl,rfl⟩⟩
   ·exact ⟨[.none,.none],(.cons rfl (.cons rfl (.nil))),N_IStore.binds (es:=[.none,.none]) λ T kV doc pm an cdv ct us hl=>by obtain ⟨_,_,_,_,rfl⟩:=lm4 us (by simpa using hl);exact ⟨_,rfl,rfl⟩⟩⟩
  m_Store_may_stay:=⟨fQ60,_,N_Q60,⟨a_Store_may_stay,iQ60,kQ60⟩,N_Q60.binds (ps:=["self"]) λ _ _ _ _ _ _ us hl=>by obtain ⟨_,rfl⟩:=lm1 us hl;exact rfl⟩
  m_Store_at_turn:=⟨fQ61,_,N_Q61,⟨a_Store_at_turn,iQ61,kQ61⟩,N_Q61.binds (ps:=["self","turn"]) λ _ _ _ _ _ _ us hl=>by obtain ⟨_,_,rfl⟩:=lm2 us hl;exact rfl⟩
  m_Store_gain:=⟨fQ58,_,N_Q58,⟨a_Store_gain,iQ58,kQ58⟩,N_Q58.binds (ps:=["self"]) λ _ _ _ _ _ _ us hl=>by obtain ⟨_,rfl⟩:=lm1 us hl;exact rfl⟩
  m_Store_out:=⟨fQ54,_,N_Q54,⟨a_Store_out,iQ54,kQ54⟩,N_Q54.binds (ps:=["self","amount"]) λ _ _ _ _ _ _ us hl=>by obtain ⟨_,_,rfl⟩:=lm2 us hl;exact rfl⟩
  c1_Store
  c4_Store
  cl_Net:=⟨pg_Net,hd_Net,po_Net,sa_Net⟩
  mg_Net:=iN X G n_Net
  na_Net_wants
  na_Net_ways
  i_Net:=⟨fQ62,_,N_Q62.gen,⟨mk_Net,a_Net_init,iQ62,ka_Net⟩,λ dvs hd=>by
   simp only [iw,ib,i3] at hd
   subst hd
   exact ⟨[],.nil,N_Q62.binds (ps:=["self","places","ways"]) λ _ _ _ _ _ _ us hl=>by obtain ⟨_,_,_,rfl⟩:=lm3 us hl;exact rfl⟩⟩
  m_Net_names:=⟨fQ63,_,N_Q63,⟨a_Net_names,iQ63,kQ63⟩,N_Q63.binds (ps:=["self"]) λ _ _ _ _ _ _ us hl=>by obtain ⟨_,rfl⟩:=lm1 us hl;exact rfl⟩
  m_Net_want:=⟨fQ64,_,N_Q64,⟨a_Net_want,iQ64,kQ64⟩,N_Q64.binds (ps:=["self","place"]) λ _ _ _ _ _ _ us hl=>by obtain ⟨_,_,rfl⟩:=lm2 us hl;exact rfl⟩
  m_Net_way:=⟨fQ65,_,N_Q65,⟨a_Net_way,iQ65,kQ65⟩,N_Q65.binds (ps:=["self","name"]) λ _ _ _ _ _ _ us hl=>by obtain ⟨_,_,rfl⟩:=lm2 us hl;exact rfl⟩
  m_Net_all_ways:=⟨fQ66,_,N_Q66,⟨a_Net_all_ways,iQ66,kQ66⟩,N_Q66.binds (ps:=["self"]) λ _ _ _ _ _ _ us hl=>by obtain ⟨_,rfl⟩:=lm1 us hl;exact rfl⟩
  no_Net_sign
  no_Net_may_stay
  c2
  c3
  mg_GainError:=iN X G n_GainError
  mg_NoWay:=iN X G n_NoWay
  xi_NoWay:=⟨fQ67,_,N_Q67.gen,eQ67,tQ67,N_Q67.binds (ps:=["self","name"]) λ _ _ _ _ _ _ us hl=>by obtain ⟨_,_,rfl⟩:=lm2 us hl;exact rfl⟩
  xs_NoWay:=⟨⟨_,_,xc_NoWay,xm_NoWay,xh_NoWay⟩,xa_NoWay⟩
  na_NoWay_name
  hd_NoWay
  br_NoWay:=⟨rdx_NoWay,sgx_NoWay⟩
  bf_NoWay
  ca1_NoWay
  ca2_NoWay:=⟨_,ca2_NoWay⟩
  ca3_NoWay
  su_NoWay_NoWay
  k_Fraction_Fraction
  k_Way_Store
  k_Growing_Store
  k_Leaking_Store
  k_int_bool
  k_dict_dict
  k_int_int
  k_list_list
  k_str_str
  k_tuple_tuple
  xga_NoWay
  xgh_NoWay
  xbe_NoWay
  xca_NoWay
  xob_NoWay
  xcl_NoWay:=⟨_,xcl_NoWay⟩
  gi_MOST_PLACES:=⟨_,iN X G gi_MOST_PLACES⟩
  gi_MOST_WAYS:=⟨_,iN X G gi_MOST_WAYS⟩
  z_abs:=jy X G z_abs
  z_all:=jy X G z_all
  z_bool:=jy X G z_bool
  z_dict:=jy X G z_dict
  z_enumerate:=jy X G z_enumerate
  z_int:=jy X G z_int
  z_isinstance:=jy X G z_isinstance
  z_len:=jy X G z_len
  z_list:=jy X G z_list
  z_max:=jy X G z_max
  z_range:=jy X G z_range
  z_sorted:=jy X G z_sorted
  z_str:=jy X G z_str
  z_tuple:=jy X G z_tuple
  z_zip:=jy X G z_zip
 }
 exact ⟨W.fnOf "law" "law" (ar gC) (ao gC) (af gC) .none kVDlaw dcDlaw pmDlaw anDlaw cdDlaw ctDlaw,λ s v=>.of_eq rfl,λ base _ _=>ok_law N_Dlaw T⟩
theorem walkL {l:PySem.W.OpenLaw} {q:Program} {loose:List Str} {XP:(Str->Option Value)->Heap->Prop} {YP:World->Heap->Prop} {d:DefRec} {K:Params->W.Frag} (hn:l.most=some 63) (hdf:d.params.defaults=[])
  (hY:∀ (w:World) (h:Heap),YP w h->(K w.params).In h)
  (F:∀ (w:World) (mg:Str->Option Value) (fa:Addr) (h:Heap),(K w.params).In h->h.Ns mainGlobals mg->mg d.name=some (.ref fa)->
   ∃ fd:FuncData,(∀ (s:Shared) (u:Value),BindsTo s fd ⟨[u],[]⟩ [("_law_script",u)])/\∀ base:Heap,(K w.params).In base->base.Ns mainGlobals mg->FnOk l.prog w (K w.params) mg base CX0 14 fa fd ["_law_script"] (spLaw (K w.params))) :
  PySem.W.WalkO q loose XP YP l.row.toRowW d [] (λ f vs=>PySem.call f vs):=
 L2.walk_ofB (n:=63) (k:=14) (x:="_law_script") (CX:=λ _=>CX0) (sp:=λ w=>spLaw (K w.params)) hn (by decide) hdf ⟨rfl,by decide,by decide⟩ hY F (λ _ _ a ns hl hb _ hS=>⟨a,ns,rfl,hS,hl,λ i hi=>⟨hb i hi⟩,λ _=>rfl⟩) λ _ _ _ _ _ z=>z
end G
inductive PySem.W.Fast:Prop | tw11938196407957562864 | tw5490019071704181806 | tw17534846568872940515 | tw1385603229406046848 | tw3874383844546258519 | tw4026864910196194737 | tw2583849391878060771 | tw11886191532034922984 | tw13187410486730272893 | tw32372772272664877 | tw13381424777075417677 | tw1291488683222304573 | tw10435808727555539066 | tw15890491744436686580 | tw584804932425975376 | tw4271995184426978433 | tw16426264829299167732 | tw16371398725097750705 | tw8429212510388264209 | tw10261429465057106490 | tw5917409343277650514 | tw16859041476415277397 | tw13282341227222488095 | tw2381428968351806419 | tw14356885268190733035 | tw3250371944971330639 | tw7202322675464999963 | tw14094266315316815870 | tw9323238274610437882 | tw13443111740893391122 | tw648458615364772622 | tw12725608917957480924 | tw16565954965087845123 | tw14122285404119661098 | tw5429137578797610221 | tw17963541391685632520 | tw5748841484403990734 | tw3347486323820432821 | tw1160581109677833137 | tw8912849825738728208 | tw5989117378440885839 | tw5958512907911160758 | tw14634131755738371724 | tw39770737306022993 | tw775934014692264337 | tw14909941009893625427 | tw9257351726744113620 | tw12298812314767805019 | tw16357779484722581004 | tw11207521061160307348 | tw10302438572823269957 | tw15907871229254344029 | tw11490279490445916927 | tw11822897815128779782 | tw16030291609893088796 | tw5537145530149908219 | tw5249248465046116796 | tw11778875610531330043 | tw6833867928241744567 | tw8440330177202657810 | tw4093627276936751370 | tw14289465492162717375 | tw18328640251324694382 | tw15546794164313619034 | tw4507424627238415453 | tw6552447948156426534 | tw17662027709040108862 | tw978535952657166400 | tw2225740556722512372 | tw9334205364710899301 | tw7548345179765215581 | tw12419452987200231222 | tw4460704858578946111 | tw15219494019880506927 | tw3659969529441073758 | tw6394152766963210909 | tw2325657953322348125 | tw10809346820983046274 | tw3482728252490492347 | tw11429236562288118736 | tw8859238829876494664 | tw1640803871499832248 | tw16492815489510637056 | tw874657116588027786 | tw13288702351932936103 | tw3250853818027989026 | tw15545004201801536732 | tw6948142465787670919 | tw8688865295649814656 | tw11369823939512474048 | tw16755389523387473765 | tw77644542969944761 | tw328094100319776663 | tw7121469919719340379 | tw166401939355095801 | tw3965378557218878766 | tw10061719412955678738 | tw13897035504258249240 | tw14692953353005287589 | tw13797546894688793404 | tw17856296549485871982 | tw8776809068045474213 | tw4998696562289793808 | tw16987881682370652643 | tw1310867548672821466 | tw3894584048533009918 | tw5517130975377210494 | tw1722257188434183725 | tw15605251117344404597 | tw14902898025086863727 | tw13531263154473372524 | tw15460014354945755606 | tw903301065148889076 | tw7062780732473549944 | tw1739397984595287938 | tw18266885350927999968 | tw10170227173187668492 | tw17053788989378837161 | tw12438503433141355198 | tw1357089411900556969 | tw11064977135113096766 | tw9647539908611669985 | tw12379959491766146772 | tw3743708116469103512 | tw13690594962277856471 | tw14152568276824093624 | tw8216165074701132197 | tw2563759420285691235 | tw12299775356974804494 | tw3222079404643694301 | tw10859553056188914595 | tw15796470685310150127 | tw15492988150382251261
open PySem L2 in
local macro_rules | `(tactic| walk_at $s:str) => do
  let v := s.getString.splitOn " "
  let id (i : Nat) := Lean.mkIdent (Lean.Name.mkSimple s!"o{i}")
  match v with
  | ["H", n] => do
    let hs ← (Array.range n.toNat!).mapM fun i => `(?$(id i):ident)
    `(tactic| refine' G.all_mk $(Lean.mkIdent `KX) $(Lean.mkIdent `GN) $(Lean.mkIdent `hmg) $hs*)
  | [k, a, b] => do
    let ts ← (List.range' a.toNat! (b.toNat! + 1 - a.toNat!)).toArray.mapM fun i => match k with
      | "k" => `(tactic| case $(id i):ident => k_is)
      | "t" => `(tactic| case $(id i):ident => kit_is)
      | "r" => `(tactic| case $(id i):ident => rfl)
      | "e" => `(tactic| case $(id i):ident => kernel_rfl)
      | _ => `(tactic| case $(id i):ident => k_exc)
    `(tactic| ($[$ts];*))
  | _ => Lean.Macro.throwUnsupported
open PySem PySem.W PyProof.Rows
set_option maxRecDepth 100000 in
set_option maxHeartbeats 0 in
theorem PySem.Challenge.cw_gainstream_k65_a_plan_turn_by_turn_holds : PySem.Challenge.rw_gainstream_k65_a_plan_turn_by_turn.Holds := by
 w_on;o_law;k_head;(case hw=>w_witness2)
 k_fill
 refine G.walkL (l:=PySem.Challenge.rw_gainstream_k65_a_plan_turn_by_turn) rfl rfl (λ w h Y=>PySem.W.kIn_of Y) ?F
 case F=>
  intro w mg fa h KX GN hmg
  walk_at "H 477"
  walk_at "k 0 216"
  walk_at "r 217 217"
  walk_at "k 218 260"
  walk_at "r 261 261"
  walk_at "k 262 304"
  walk_at "r 305 305"
  walk_at "k 306 336"
  walk_at "r 337 337"
  walk_at "k 338 372"
  walk_at "r 373 373"
  walk_at "k 374 429"
  walk_at "e 430 430"
  walk_at "k 431 431"
  walk_at "r 432 433"
  walk_at "k 434 443"
  walk_at "t 444 453"
  walk_at "k 454 476"
#print axioms PySem.Challenge.cw_gainstream_k65_a_plan_turn_by_turn_holds
