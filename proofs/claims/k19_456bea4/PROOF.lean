import PyProof.Rows.All
import Wide.All
import OpenK.AllK
import Wide.FinOn
import Lean
import PyProof.EqAt
import PyProof.EqKinds
import PyProof.TupleCall
import PySem.Challenge.RW_gainstream_k19_whole_change_of_units
set_option compiler.extract_closed false
theorem zL0:0<=PySem.sizeLine:=by decide
theorem zL2:2<=PySem.sizeLine:=by decide
theorem zL3:3<=PySem.sizeLine:=by decide
theorem zL4:4<=PySem.sizeLine:=by decide
theorem zL6:6<=PySem.sizeLine:=by decide
theorem zL7:7<=PySem.sizeLine:=by decide
theorem zI1000000007:(0:Int)<1000000007:=by decide
theorem zI11:(0:Int)<11:=by decide
theorem zI13:(0:Int)<13:=by decide
theorem zI15:(0:Int)<15:=by decide
theorem zI2:(0:Int)<2:=by decide
theorem zI2147483647:(0:Int)<2147483647:=by decide
theorem zI23:(0:Int)<23:=by decide
theorem zI3:(0:Int)<3:=by decide
theorem zI4:(0:Int)<4:=by decide
theorem zI5:(0:Int)<5:=by decide
theorem zI6:(0:Int)<6:=by decide
theorem zI7:(0:Int)<7:=by decide
theorem zI9:(0:Int)<9:=by decide
theorem zI998244353:(0:Int)<998244353:=by decide
def fF.{u0}:=@List.getElem?_eq_getElem.{u0}
def fG.{u0,u1}:=@List.length_map.{u0,u1}
def fH:=@PySem.wpAny_bind
def fJ:=@PySem.Heap.get?_push_of_some
def fK.{u0}:=@List.mem_of_getElem?.{u0}
def fL.{u0}:=@List.getElem?_eq_some_iff.{u0}
def fM:=@Nat.le_refl
def fN.{u0,u1}:=@List.getElem?_map.{u0,u1}
def fO:=@Nat.le_trans
def fP.{u0}:=@List.getD_eq_getElem?_getD.{u0}
def fQ.{u0,u1}:=@List.mem_map.{u0,u1}
def fR.{u0}:=@List.size_toArray.{u0}
def fS:=@PySem.wpAny_pure
def fT:=@PySem.Heap.lt_size
def fU:=@decide_eq_false
def fV:=@decide_eq_true
def fW:=@Bool.false_ne_true
def fX.{u0}:=@List.length_append.{u0}
def fY:=@Nat.zero_le
def fZ.{u0}:=@List.length_take.{u0}
def f9.{u0}:=@Option.some.inj.{u0}
def gc:=@PySem.sizeLine_eq
def ge.{u0}:=@List.take_length.{u0}
def gf.{u0}:=@List.take_add_one.{u0}
def gi:=@Nat.lt_of_lt_of_le
def gj.{u0,u1}:=@List.map_append.{u0,u1}
def gm:=@PySem.Heap.get?_push_size
def gq.{u0}:=@List.mem_append_right.{u0}
def gr.{u0}:=@List.mem_iff_getElem?.{u0}
def gu:=@Int.natAbs_mul
def gv.{u0}:=@Option.toList_some.{u0}
def gw.{u0}:=@List.mem_cons.{u0}
def gx.{u0,u1}:=@List.getElem?_zip_eq_some.{u0,u1}
def gy:=@Nat.lt_of_le_of_lt
def gA:=@PySem.PassesOwn.never
def gB.{u0,u1,u2}:=@List.map_map.{u0,u1,u2}
def gC.{u0}:=@List.mem_cons_of_mem.{u0}
def gD:=@PySem.wpAny_mono
def gE.{u0}:=@List.getElem?_append_right.{u0}
def gF:=@Nat.ne_of_lt
def gG.{u0}:=@List.length_cons.{u0}
def gH:=@Int.eq_ofNat_of_zero_le
def gI.{u0}:=@List.length_replicate.{u0}
def gJ.{u0,u1}:=@Option.map_some.{u0,u1}
def gK.{u0,u1}:=@congrArg.{u0,u1}
def gL.{u0}:=@List.getElem?_inj.{u0}
def gM:=@PySem.boot_len
def gN.{u0,u1}:=@List.map_cons.{u0,u1}
def gO:=@PySem.mem_of_lookup
def gP:=@Int.mul_comm
def gQ.{u0}:=@List.getElem?_append_left.{u0}
def gR.{u0}:=@List.mem_cons_self.{u0}
def gS.{u0}:=@List.getElem?_set_self.{u0}
def gU:=@PySem.Heap.get?_update_other
def gW.{u0,u1}:=@Option.map_eq_some_iff.{u0,u1}
def gX:=@PyProof.Rows.boot_isinstance
def gY:=@Nat.lt_irrefl
def gZ.{u0}:=@beq_eq_false_iff_ne.{u0}
def g4:=@Bool.false_eq_true
def g5.{u0}:=@List.getElem_toArray.{u0}
def g6:=@Int.emod_lt_of_pos
def g7:=@PySem.W.kia_one
def g8.{u0,u1}:=@List.lookup_cons.{u0,u1}
def g9:=@PyProof.Rows.boot_abs
def hG:=@Nat.mul_le_mul
def hJ.{u0,u1}:=@List.of_mem_zip.{u0,u1}
def hV.{u0}:=@List.length_set.{u0}
def hX.{u0,u1}:=@List.length_zip.{u0,u1}
def hZ:=@PySem.Heap.get?_none_of_le
def ia.{u0}:=@List.getElem?_set_ne.{u0}
def ib.{u0}:=@Ne.symm.{u0}
def ic.{u0}:=@Array.getElem?_eq_some_iff.{u0}
def ie:=@of_decide_eq_true
def ig.{u0}:=@Array.length_toList.{u0}
def ii:=@Int.emod_nonneg
def ik:=@PySem.W.methodCall_KW
def il:=@PySem.W.callWith_K
def im:=@Int.gcd_dvd_left
def ip:=@Int.natAbs_natCast
def iq:=@PySem.wpAny_holding
def ir:=@PySem.wpAny_standAt
def iu.{u0}:=@List.sum_cons.{u0}
def iw:=@Int.zero_add
def iy:=@PySem.sizeLine_eq
set_option Elab.async false
set_option linter.all false
set_option maxRecDepth 100000
namespace L2
open PySem PySem.Spec PyProof.Rows
noncomputable abbrev Key:=Sum Int Str
noncomputable def keyIs:Key->Value->Bool
 | .inl k,v=>Value.isInt k v
 | .inr x,v=>Value.isStrOf x v
noncomputable def keyH (w:World):Key->Int
 | .inl k=>hashInt k
 | .inr x=>hashStr w x
theorem a7:∀ {k:Key} {v:Value},keyIs k v=true->(∃ i t,k=Sum.inl i/\v=Value.int i t)∨(∃ x t,k=Sum.inr x/\v=Value.str x t)
 | .inl i,v,h=>by
  obtain ⟨t,e⟩:=Value.isInt_shape (k:=i) (v:=v) h;exact .inl ⟨i,t,rfl,e⟩
 | .inr x,v,h=>by
  obtain ⟨t,e⟩:=Value.isStrOf_shape (x:=x) (v:=v) h;exact .inr ⟨x,t,rfl,e⟩
theorem keyIs_int (i:Int) (t:Tok):keyIs (.inl i) (.int i t)=true:=by simp [keyIs,Value.isInt]
theorem keyIs_str (x:Str) (t:Tok):keyIs (.inr x) (.str x t)=true:=by simp [keyIs,Value.isStrOf]
theorem key_ll (a b:Int):decide ((Sum.inl a:Key)=Sum.inl b)=(a == b):=by
 by_cases e:a=b
 ·subst e;simp
 ·have h:¬ (Sum.inl a:Key)=Sum.inl b:=λ q=>e (Sum.inl.inj q);rw [fU h];exact (gZ.mpr e).symm
theorem key_rr (a b:Str):decide ((Sum.inr a:Key)=Sum.inr b)=decide (a=b):=by
 by_cases e:a=b
 ·subst e;simp
 ·have h:¬ (Sum.inr a:Key)=Sum.inr b:=λ q=>e (Sum.inr.inj q);rw [fU h,fU e]
theorem key_lr (a:Int) (b:Str):decide ((Sum.inl a:Key)=Sum.inr b)=false:=fU (λ q=>nomatch q)
theorem key_rl (a:Str) (b:Int):decide ((Sum.inr a:Key)=Sum.inl b)=false:=fU (λ q=>nomatch q)
noncomputable def aQ (prog:Program) (w:World):PySem.KeyKind prog w Key where
 is:=keyIs
 hash:=keyH w
 inj:=λ v a b ha hb=>by
  rcases a7 ha with ⟨i,t,rfl,rfl⟩ | ⟨x,t,rfl,rfl⟩
  ·rcases a7 hb with ⟨j,u,rfl,e⟩ | ⟨y,u,rfl,e⟩
   ·injection e with e1 _;rw [e1]
   ·exact nomatch e
  ·rcases a7 hb with ⟨j,u,rfl,e⟩ | ⟨y,u,rfl,e⟩
   ·exact nomatch e
   ·injection e with e1 _;rw [e1]
 byValue:=λ k v h=>by
  rcases a7 h with ⟨i,t,rfl,rfl⟩ | ⟨x,t,rfl,rfl⟩ <;> rfl
 pyHash:=λ hv h=>by
  rcases a7 hv with ⟨i,t,rfl,rfl⟩ | ⟨x,t,rfl,rfl⟩
  ·exact wpAny_pyHash_int h
  ·exact wpAny_pyHash_str h
 eqBool:=λ hu hv h=>by
  rcases a7 hu with ⟨i,t,rfl,rfl⟩ | ⟨x,t,rfl,rfl⟩
  ·rcases a7 hv with ⟨j,u,rfl,rfl⟩ | ⟨y,u,rfl,rfl⟩
   ·rw [key_ll] at h;exact wpAny_eqBool_int h
   ·rw [key_lr] at h;exact SeqAt.EqAt.int_str i t y u _ _ _ _ h
  ·rcases a7 hv with ⟨j,u,rfl,rfl⟩ | ⟨y,u,rfl,rfl⟩
   ·rw [key_rl] at h;exact SeqAt.EqAt.str_int x t j u _ _ _ _ h
   ·rw [key_rr] at h;exact wpAny_eqBool_str h
 «strs»:=λ k x t v h=>by
  rcases a7 h with ⟨i,u,rfl,e⟩ | ⟨y,u,rfl,e⟩
  ·exact nomatch e
  ·injection e with e1 _
   subst e1
   cases v <;> rfl
theorem mixKind_int (prog:Program) (w:World) (i:Int) (t:Tok):(aQ prog w).is (.inl i) (.int i t)=true:=keyIs_int i t
theorem mixKind_str (prog:Program) (w:World) (x:Str) (t:Tok):(aQ prog w).is (.inr x) (.str x t)=true:=keyIs_str x t
end L2
namespace L2
open PySem PySem.Spec PyProof.Rows
inductive V where
 | non | bl (b:Bool) | int (i:Int) | str (x:Str) | byt (b:Array UInt8) | flt (b:UInt64) | ref (a:Addr) | ty (n:String)
 deriving DecidableEq
noncomputable def RelV:V->Value->Prop
 | .non,u=>u=Value.none
 | .bl b,u=>u=Value.bool b
 | .int i,u=>∃ t,u=Value.int i t
 | .str x,u=>∃ t,u=Value.str x t
 | .byt b,u=>∃ t,u=Value.bytes b t
 | .flt b,u=>∃ t,u=Value.float b t
 | .ref a,u=>u=Value.ref a
 | .ty n,u=>u=Value.type n
noncomputable abbrev Vals:List V->List Value->Prop:=Paired RelV
theorem Vals.length {xs:List V} {us:List Value} (r:Vals xs us):xs.length=us.length:=Paired.length r
theorem Vals.get:∀ {xs:List V} {us:List Value} {i:Nat} {x:V},Vals xs us->xs[i]?=some x->∃ u,us[i]?=some u/\RelV x u
 | _,_,_,_,.nil,e=>by simp at e
 | _,_,0,_,.cons r _,e=>by simp at e;subst e;exact ⟨_,rfl,r⟩
 | _,_,i+1,x,.cons _ t,e=>by
  obtain ⟨u,h1,h2⟩:=Vals.get (i:=i) (x:=x) t (by simpa using e);exact ⟨u,by simpa using h1,h2⟩
theorem Vals.set {x:V} {u:Value} (r:RelV x u):∀ {xs:List V} {us:List Value} (i:Nat),Vals xs us->Vals (xs.set i x) (us.set i u)
 | _,_,_,.nil=>.nil
 | _,_,0,.cons _ t=>.cons r t
 | _,_,i+1,.cons q t=>.cons q (Vals.set r i t)
theorem Vals.append:∀ {xs ys:List V} {us ws:List Value},Vals xs us->Vals ys ws->Vals (xs++ys) (us++ws)
 | _,_,_,_,.nil,s=>s
 | _,_,_,_,.cons r t,s=>.cons r (Vals.append t s)
theorem Vals.take:∀ {xs:List V} {us:List Value} (n:Nat),Vals xs us->Vals (xs.take n) (us.take n)
 | _,_,0,_=>.nil
 | _,_,_+1,.nil=>.nil
 | _,_,n+1,.cons r t=>.cons r (Vals.take n t)
theorem Vals.drop:∀ {xs:List V} {us:List Value} (n:Nat),Vals xs us->Vals (xs.drop n) (us.drop n)
 | _,_,0,r=>r
 | _,_,_+1,.nil=>.nil
 | _,_,n+1,.cons _ t=>Vals.drop n t
noncomputable def RelO:Option V->Option Value->Prop
 | some v,some u=>RelV v u
 | none,none=>True
 | _,_=>False
noncomputable def KV {κ:Type}:List (κ × V)->List (κ × Value)->Prop:=Paired λ(p:κ × V) (q:κ × Value)=>p.1=q.1/\RelV p.2 q.2
noncomputable def kV:Key->V
 | .inl i=>.int i
 | .inr x=>.str x
inductive HO where
 | lst (xs:List V)
 | tup (xs:List V)
 | dK (kvs:List (Key × V)) | dT (kvs:List (List Key × V))
 | set (S:Int->Bool) (n:Nat)
 | ins (C dx:Addr) (fs:List (Str × V))
 | own (x:Addr)
 | xd (fs:List (Str × V))
 | met (f x:Addr)
 | rng (lo hi:Int)
 | frz (o:Obj) (u:HO)
 | tbl (ps:Array Value)
 | ext (φ:Heap->Prop)
noncomputable abbrev Hp:=Addr->Option HO
noncomputable def upd (H:Hp) (a:Addr) (o:HO):Hp:=λ b=>if b=a then some o else H b
theorem ae {H:Hp} {a:Addr} {o:HO}:upd H a o a=some o:=by unfold upd;rw [if_pos rfl]
theorem ai {H:Hp} {a b:Addr} {o:HO} (h:b≠a):upd H a o b=H b:=by unfold upd;rw [if_neg h]
theorem eU {H:Hp} {a:Addr} {o u:HO}:upd (upd H a o) a u=upd H a u:=by
 funext b;unfold upd;split <;> rfl
theorem bS {H:Hp} {a b:Addr} {o u:HO} (h:H a=some o) (h':H b=some u) (d:o≠u):a≠b:=by
 intro e;subst e;rw [h] at h';exact d (f9 h')
theorem av {H:Hp} {a b:Addr} {o:HO} (h:H a=some o) (h':H b=none):a≠b:=by
 intro e;subst e;rw [h] at h';cases h'
section
variable (P:Program) (w:World)
noncomputable def ObjOk (H:Hp) (h:Heap) (a:Addr):HO->Prop
 | .lst xs=>xs.length<=sizeLine/\∃ (its:List Value) (n:Nat),Vals xs its/\h.get? a=some { cls:=.type "list",data:=.seq its.toArray n }
 | .tup xs=>xs.length<=sizeLine/\∃ its:List Value,Vals xs its/\IsTup h a its.toArray
 | .dK kvs=>kvs.length<=sizeLine/\(a == sysModules)=false/\∃ vs,KV kvs vs/\h.DictOf (aQ P w) a vs
 | .dT kvs=>kvs.length<=sizeLine/\(a == sysModules)=false/\∃ xs:List (List Key × Addr × Value),
   Paired (λ(p:List Key × V) (q:List Key × Addr × Value)=>p.1=q.1/\H q.2.1=some (.tup (p.1.map kV))/\RelV p.2 q.2.2) kvs xs/\
   ∃ o es ep,h.get? a=some o/\o.ExactDict/\o.data=.dict es ep/\es.toList=xs.map (entryOfKey (tupleKind (aQ P w)))/\(xs.map (·.1)).Nodup
 | .set S n=>h.SetOf (intKind P w) a S n
 | .ins C dx fs=>H dx=some (.own a)/\fs.length<=1000/\dx≠a/\h.get? a=some (PySem.W.instObj C dx)/\
   ∃ mA,h.Ns1 dx mA/\(∀ f,RelO (fs.lookup f) (mA f))/\PySem.Within mA (fs.map (·.1))
 | .own _=>∃ o,h.get? a=some o
 | .xd fs=>∃ mA,h.Ns1 a mA/\∀ f,RelO (fs.lookup f) (mA f)
 | .rng lo hi=>∃ t u v,h.get? a=some { cls:=.type "range",data:=.fields #[.int lo t,.int hi u,.int 1 v] }
 | .frz o u=>h.get? a=some o/\ObjOk H h a u
 | .tbl ps=>h.get? a=some { cls:=.none,data:=.fields ps }
 | .met f x=>h.get? a=some (PySem.W.methodObj (.ref f) (.ref x))
 | .ext φ=>φ h/\(∃ o,h.get? a=some o)/\∀ h1 h2:Heap,φ h1->(∀ o,h1.get? a=some o->h2.get? a=some o)->φ h2
noncomputable def HOk (H:Hp) (h:Heap):Prop:=∀ a o,H a=some o->ObjOk P w H h a o
end
section
variable {P:Program} {w:World} {H H':Hp} {h h':Heap} {a:Addr} {o:HO}
theorem ObjOk.lt (x:ObjOk P w H h a o):a<h.objs.size:=by
 cases o with
 | lst xs=>obtain ⟨_,_,_,_,e⟩:=x;exact fT e
 | tup xs=>obtain ⟨_,_,_,p⟩:=x;exact p.lt
 | dK kvs=>obtain ⟨_,_,_,_,o,_,_,e,_⟩:=x;exact fT e
 | dT kvs=>obtain ⟨_,_,_,_,o,_,_,e,_⟩:=x;exact fT e
 | set S n=>obtain ⟨o,_,_,_,e,_⟩:=x;exact fT e
 | ins C dx fs=>obtain ⟨_,_,_,e,_⟩:=x;exact fT e
 | own y=>obtain ⟨_,e⟩:=x;exact fT e
 | xd fs=>obtain ⟨_,⟨_,_,_,e,_⟩,_⟩:=x;exact fT e
 | rng lo hi=>obtain ⟨_,_,_,e⟩:=x;exact fT e
 | frz ob u=>obtain ⟨e,_⟩:=x;exact fT e
 | tbl ps=>exact fT (show h.get? a=some _ from x)
 | met f y=>exact fT (show h.get? a=some _ from x)
 | ext φ=>obtain ⟨_,⟨_,e⟩,_⟩:=x;exact fT e
theorem Paired.mapP {α β:Type} {F G:α->β->Prop}:∀ {l₁:List α} {l₂:List β},Paired F l₁ l₂->(∀ a b,F a b->G a b)->Paired G l₁ l₂
 | _,_,.nil,_=>.nil
 | _,_,.cons r t,f=>.cons (f _ _ r) (Paired.mapP t f)
theorem ObjOk.stay (x:ObjOk P w H h a o) (k:∀ b u,(b=a∨H b=some (.own a))->h.get? b=some u->h'.get? b=some u)
  (ho:∀ b,H b=some (.own a)->H' b=some (.own a)) (ht:∀ b xs,H b=some (.tup xs)->H' b=some (.tup xs)):ObjOk P w H' h' a o:=by
 induction o with
 | lst xs=>obtain ⟨z,its,n,r,e⟩:=x;exact ⟨z,its,n,r,k _ _ (.inl rfl) e⟩
 | tup xs=>obtain ⟨z,its,r,ob,e,c⟩:=x;exact ⟨z,its,r,ob,k _ _ (.inl rfl) e,c⟩
 | dK kvs=>obtain ⟨z,y,vs,r,ob,es,ep,e,c⟩:=x;exact ⟨z,y,vs,r,ob,es,ep,k _ _ (.inl rfl) e,c⟩
 | dT kvs=>
  obtain ⟨z,y,xs,r,ob,es,ep,e,c⟩:=x;exact ⟨z,y,xs,Paired.mapP r λ p q z=>⟨z.1,ht _ _ z.2.1,z.2.2⟩,ob,es,ep,k _ _ (.inl rfl) e,c⟩
 | set S n=>obtain ⟨ob,es,ep,t,e,c⟩:=x;exact ⟨ob,es,ep,t,k _ _ (.inl rfl) e,c⟩
 | ins C dx fs=>
  obtain ⟨d,z,ne,e,mA,⟨od,es,ep,e2,c⟩,r⟩:=x;exact ⟨ho _ d,z,ne,k _ _ (.inl rfl) e,mA,⟨od,es,ep,k _ _ (.inr d) e2,c⟩,r⟩
 | own y=>obtain ⟨ob,e⟩:=x;exact ⟨ob,k _ _ (.inl rfl) e⟩
 | xd fs=>obtain ⟨mA,⟨od,es,ep,e,c⟩,r⟩:=x;exact ⟨mA,⟨od,es,ep,k _ _ (.inl rfl) e,c⟩,r⟩
 | rng lo hi=>obtain ⟨t,u,v,e⟩:=x;exact ⟨t,u,v,k _ _ (.inl rfl) e⟩
 | frz ob u ih=>obtain ⟨e,q⟩:=x;exact ⟨k _ _ (.inl rfl) e,ih q⟩
 | tbl ps=>
  have e:h.get? a=some { cls:=.none,data:=.fields ps }:=x;show h'.get? a=some { cls:=.none,data:=.fields ps };exact k a _ (.inl rfl) e
 | met f y=>
  have e:h.get? a=some (PySem.W.methodObj (.ref f) (.ref y)):=x;show h'.get? a=some (PySem.W.methodObj (.ref f) (.ref y));exact k a _ (.inl rfl) e
 | ext φ=>obtain ⟨p,⟨o,e⟩,st⟩:=x;exact ⟨st _ _ p λ o q=>k _ _ (.inl rfl) q,⟨o,k _ _ (.inl rfl) e⟩,st⟩
theorem HOk.lt (x:HOk P w H h) (e:H a=some o):a<h.objs.size:=(x a o e).lt
theorem HOk.fresh (x:HOk P w H h) (e:h.objs.size<=a):H a=none:=by
 cases q:H a with
 | none=>rfl
 | some u=>exact absurd (gi (x.lt q) e) (gY _)
theorem HOk.kept (x:HOk P w H h) (k:∀ b u,h.get? b=some u->h'.get? b=some u):HOk P w H h':=λ a o e=>
 (x a o e).stay (λ b u _ q=>k b u q) (λ _ q=>q) λ _ _ q=>q
theorem HOk.laid (x:HOk P w H h) (k:∀ b u,h.get? b=some u->h'.get? b=some u) (hp:h.objs.size<=a) (new:ObjOk P w (upd H a o) h' a o):HOk P w (upd H a o) h':=λ b u e=>by
 have hn:=x.fresh hp;by_cases hb:b=a
 ·subst hb;rw [ae] at e;cases e;exact new
 ·rw [ai hb] at e;exact (x b u e).stay (λ c v _ q=>k c v q) (λ c q=>by rw [ai (av q hn)];exact q) λ c xs q=>by rw [ai (av q hn)];exact q
end
noncomputable def Rd (H:Hp) (a:Addr) (u:HO):Prop:=H a=some u∨∃ o,H a=some (.frz o u)
theorem Rd.ok {P:Program} {w:World} {H:Hp} {h:Heap} {a:Addr} {u:HO} (r:Rd H a u) (x:HOk P w H h):ObjOk P w H h a u:=by
 rcases r with r | ⟨o,r⟩
 ·exact x a u r
 ·obtain ⟨_,q⟩:=x a _ r;exact q
noncomputable def Mut:Option HO->Prop
 | some (.lst _)=>True
 | some (.dK _)=>True
 | some (.dT _)=>True
 | some (.set _ _)=>True
 | some (.ins _ _ _)=>True
 | some (.ext _)=>True
 | _=>False
section
variable {P:Program} {w:World} {H:Hp} {h h':Heap} {x e:Addr} {o':HO}
theorem HOk.write (ok:HOk P w H h) (mu:Mut (H x)) (he:e=x∨H e=some (.own x)) (k:∀ b u,b≠e->h.get? b=some u->h'.get? b=some u) (heo:∃ u,h'.get? e=some u)
  (new:ObjOk P w (upd H x o') h' x o'):HOk P w (upd H x o') h':=λ b u q=>by
 have nown:∀ c y,H c=some (.own y)->c≠x:=λ c y r z=>by subst z;rw [r] at mu;exact mu
 have ntup:∀ c xs,H c=some (.tup xs)->c≠x:=λ c xs r z=>by subst z;rw [r] at mu;exact mu
 by_cases hb:b=x
 ·subst hb;rw [ae] at q;cases q;exact new
 ·rw [ai hb] at q;by_cases hbe:b=e
  ·have q':H b=some (.own x):=by
    rcases he with z | z
    ·exact absurd (hbe.trans z) hb
    ·rw [hbe];exact z
   rw [q] at q';cases q';obtain ⟨v,hv⟩:=heo;exact ⟨v,by rw [hbe];exact hv⟩
  ·refine (ok b u q).stay (λ c v hc r=>k c v ?_ r) (λ c r=>by rw [ai (nown c b r)];exact r) λ c xs r=>by rw [ai (ntup c xs r)];exact r
   rcases hc with rfl | hc
   ·exact hbe
   ·rintro rfl;rcases he with z | z
    ·exact nown c b hc z
    ·rw [hc] at z;cases z;exact hb rfl
end
structure Un (fs ex:List Addr) (H H':Hp) (h h':Heap):Prop where
 keep:∀ b o,h.get? b=some o->H b=none->b ∉ fs->b ∉ ex->h'.get? b=some o
 slot:∀ b o,h.get? b=some o->H b=none->b∈fs->b ∉ ex->∃ sl,h'.get? b=some { o with slots:=sl }
 free:∀ b o,h.get? b=some o->H b=none->b ∉ ex->H' b=none
 there:∀ b o,h.get? b=some o->b ∉ ex->∃ o',h'.get? b=some o'
 tups:∀ b xs,H b=some (.tup xs)->H' b=some (.tup xs)
 frzs:∀ b o u,H b=some (.frz o u)->H' b=some (.frz o u)
 tbls:∀ b ps,H b=some (.tbl ps)->∃ more,H' b=some (.tbl (ps++more))
section
variable {fs fs' ex ex':List Addr} {H H1 H2:Hp} {h h1 h2 h':Heap} {a x e:Addr} {o:HO}
theorem Un.any (u:Un fs ex H H1 h h1) {b:Addr} {ob:Obj} (q:h.get? b=some ob) (n:H b=none) (hx:b ∉ ex):∃ sl,h1.get? b=some { ob with slots:=sl }:=by
 by_cases hb:b∈fs
 ·exact u.slot b ob q n hb hx
 ·exact ⟨ob.slots,u.keep b ob q n hb hx⟩
theorem Un.kept (k:∀ b u,h.get? b=some u->h'.get? b=some u):Un fs ex H H h h':=
 ⟨λ b ob q _ _ _=>k b ob q,λ b ob q _ _ _=>⟨ob.slots,k b ob q⟩,λ _ _ _ n _=>n,λ b ob q _=>⟨ob,k b ob q⟩,λ _ _ q=>q,λ _ _ _ q=>q,λ _ ps q=>⟨#[],by rw [q];simp⟩⟩
theorem Un.refl:Un fs ex H H h h:=Un.kept λ _ _ q=>q
theorem Un.laid (k:∀ b u,h.get? b=some u->h'.get? b=some u) (hp:h.objs.size<=a) (hn:H a=none):Un fs ex H (upd H a o) h h' where
 keep:=λ b u q _ _ _=>k b u q
 slot:=λ b u q _ _ _=>⟨u.slots,k b u q⟩
 free:=λ b u q n _=>by rw [ai (gF (gi (fT q) hp))];exact n
 there:=λ b u q _=>⟨u,k b u q⟩
 tups:=λ b xs q=>by rw [ai (av q hn)];exact q
 frzs:=λ b u xs q=>by rw [ai (av q hn)];exact q
 tbls:=λ b ps q=>⟨#[],by rw [ai (av q hn),q];simp⟩
theorem Un.write (mu:Mut (H x)) (he:e=x∨H e=some (.own x)) (k:∀ b u,b≠e->h.get? b=some u->h'.get? b=some u) (heo:∃ u,h'.get? e=some u):Un fs ex H (upd H x o) h h':=by
 have hx:∀ b,H b=none->b≠x:=λ b n z=>by subst z;rw [n] at mu;exact mu
 have hb:∀ b,H b=none->b≠e:=λ b n z=>by
  subst z;rcases he with r | r
  ·exact hx b n r
  ·rw [n] at r;cases r
 have hm:∀ b u,H b=some u->¬ Mut (some u)->b≠x:=λ b u q nm z=>by subst z;rw [q] at mu;exact nm mu
 refine ⟨λ b u q n _ _=>k b u (hb b n) q,λ b u q n _ _=>⟨u.slots,k b u (hb b n) q⟩,λ b u q n _=>by rw [ai (hx b n)];exact n,λ b u q _=>?_,
  λ b xs q=>by rw [ai (hm b _ q λ z=>z)];exact q,λ b u xs q=>by rw [ai (hm b _ q λ z=>z)];exact q,λ b ps q=>⟨#[],by rw [ai (hm b _ q λ z=>z),q];simp⟩⟩
 by_cases hbe:b=e
 ·subst hbe;exact heo
 ·exact ⟨u,k b u hbe q⟩
end
noncomputable def trk (h:Heap) (H:Hp):List Addr:=(List.range h.objs.size).filter λ a=>(H a).isSome
noncomputable def hidT (h:Heap) (H:Hp):Heap:=PySem.W.hideAll h (trk h H)
theorem hidT_size (h:Heap) (H:Hp):(hidT h H).objs.size=h.objs.size:=PySem.W.hideAll_size _ _
theorem hidT_get {h:Heap} {H:Hp} {b:Addr} {o:Obj} (e:h.get? b=some o) (n:H b=none):(hidT h H).get? b=some o:=
 PySem.W.hideAll_get _ e λ hm=>by
  have q:(H b).isSome=true:=(List.mem_filter.mp hm).2;rw [n] at q;simp at q
theorem of_hidT {h:Heap} {H:Hp} {b:Addr} {o:Obj} (e:(hidT h H).get? b=some o):h.get? b=some o/\H b=none:=by
 have e':h.get? b=some o:=PySem.W.of_hideAll (trk h H) e;refine ⟨e',?_⟩
 cases q:H b with
 | none=>rfl
 | some x=>
  have hm:b∈trk h H:=List.mem_filter.mpr ⟨List.mem_range.mpr (fT e'),by simp [q]⟩;have z:(hidT h H).get? b=none:=PySem.W.hideAll_none (trk h H) hm;rw [z] at e;cases e
noncomputable def allNews (g h:Heap) (L:Addr):List (Addr × Obj):=(List.range h.objs.size).filterMap λ a=>if a=L∨(g.get? a).isSome=true then none else (h.get? a).map λ o=>(a,o)
noncomputable def rest (g h:Heap) (L d:Addr):List (Addr × Obj):=(allNews g h L).filter λ p=>decide (p.1≠d)
end L2
namespace L2
open PySem PySem.Spec PyProof.Rows
structure Mod (K:W.Frag) (mg:Str->Option Value) (base:Heap):Prop where
 kin:K.In base
 glob:base.Ns mainGlobals mg
 blt:∃ mb,base.Ns builtinsNs mb/\∀ x:Str,x≠"__name__"->mb x=bootBuiltins x
 nolimit:base.NoLimit
structure Cx where
 prog:Program
 w:World
 K:W.Frag
 mg:Str->Option Value
 base:Heap
 A:Around
 N:List Str
 s₀:Shared
 H₀:Hp
 env:Env
 outer:List Env
 stack:List Env
 ex:List Addr
 fn:Str->Bool
 calm:Bool
 pn:List (Addr × Obj)
 xe:Value->Shared->Prop
noncomputable def frs (l:List Env):List Addr:=l.filterMap (·.frame)
noncomputable abbrev Cx.fs (X:Cx):List Addr:=frs X.outer
noncomputable def Vis (sc:Scope) (x:Str):Prop:=sc.names.lookup x=some .local∨sc.names.lookup x=some .cell∨sc.names.lookup x=some .free
noncomputable def Loc (sc:Scope) (x:Str):Prop:=sc.names.lookup x=some .local∨sc.names.lookup x=some .cell
noncomputable def Look (env:Env) (h:Heap) (m:Str->Option Value) (x:Str) (u:Value):Prop:=
 (env.kindOf x=some .local/\m x=some u)∨((env.kindOf x=some .cell∨env.kindOf x=some .free)/\∃ c,env.cells.lookup x=some c/\h.IsCell c (some u))
structure Cx.Ok (X:Cx):Prop where
 mod:Mod X.K X.mg X.base
 kind:X.env.scope.kind=.function
 glob:X.env.globals=mainGlobals
 blt:X.env.builtins=builtinsNs
 above:X.s₀.heap.objs.size<=X.env.locals
 inj:∀ x y c,X.env.cells.lookup x=some c->X.env.cells.lookup y=some c->x=y
 has:∀ x,(X.env.kindOf x=some .cell∨X.env.kindOf x=some .free)->∃ c,X.env.cells.lookup x=some c
 cab:∀ x c,X.fn x=true->X.env.cells.lookup x=some c->X.s₀.heap.objs.size<=c
 hd:X.calm=true->X.A.handled=none
 frames:X.A.frames=some X.stack
 stk:X.stack=X.outer∨(X.stack=X.env::X.outer/\X.env.frame=some X.env.locals)
 exf:∀ b∈X.ex,b≠X.env.locals/\∀ x c,X.env.cells.lookup x=some c->c≠b
 bs:∀ b o,X.base.get? b=some o->X.s₀.heap.get? b=some o/\X.H₀ b=none
 bsz:X.base.objs.size<=X.s₀.heap.objs.size
 noex:∀ b o,X.base.get? b=some o->b ∉ X.ex
 exfs:∀ b∈X.ex,b ∉ X.fs
 funs:X.s₀.heap.FunFrames X.base X.outer
 frf:∀ b∈X.fs,X.H₀ b=none
structure Inv (X:Cx) (pins:List (Addr × Obj)) (σ:List (Option V)) (H:Hp) (s:Shared):Prop where
 ok:X.Ok
 os:s.os=X.s₀.os
 bare:AllBare s.gens
 base:Un X.fs X.ex X.H₀ H X.s₀.heap s.heap
 loc:∃ m,s.heap.Ns X.env.locals m/\∀ (i:Nat) (x:Str) (v:V),X.N[i]?=some x->σ[i]?=some (some v)->Vis X.env.scope x->∃ u,RelV v u/\Look X.env s.heap m x u
 cell:∀ x c,X.env.cells.lookup x=some c->∃ v,s.heap.IsCell c v
 free:H X.env.locals=none
 freeC:∀ x c,X.env.cells.lookup x=some c->H c=none
 pin:∀ p∈X.pn++pins,s.heap.get? p.1=some p.2/\H p.1=none/\p.1≠X.env.locals/\p.1 ∉ X.fs/\∀ v,p.2.data≠.cell v
 hok:HOk X.prog X.w H s.heap
 len:σ.length=X.N.length
section
variable {X:Cx} {pins:List (Addr × Obj)} {σ:List (Option V)} {H H':Hp} {s:Shared} {h':Heap}
theorem Cx.Ok.nofr (ok:X.Ok) {b:Addr} {o:Obj} (e:X.base.get? b=some o):b ∉ X.fs:=λ hb=>by
 have:=(ok.funs.mem hb).1
 rw [e] at this;cases this
theorem Inv.bs (I:Inv X pins σ H s):∀ b o,X.base.get? b=some o->s.heap.get? b=some o/\H b=none:=λ b o e=>
 ⟨I.base.keep b o (I.ok.bs b o e).1 (I.ok.bs b o e).2 (I.ok.nofr e) (I.ok.noex b o e),I.base.free b o (I.ok.bs b o e).1 (I.ok.bs b o e).2 (I.ok.noex b o e)⟩
theorem Inv.bk (I:Inv X pins σ H s):∀ b o,X.base.get? b=some o->s.heap.get? b=some o:=λ b o e=>(I.bs b o e).1
theorem Inv.mod (I:Inv X pins σ H s):Mod X.K X.mg X.base:=I.ok.mod
theorem Inv.kIn (I:Inv X pins σ H s):X.K.In s.heap:=I.ok.mod.kin.keeps I.bk
theorem Inv.lt (I:Inv X pins σ H s):X.env.locals<s.heap.objs.size:=by
 obtain ⟨_,hn,_⟩:=I.loc
 exact hn.lt
theorem Inv.sz (I:Inv X pins σ H s):X.s₀.heap.objs.size<=s.heap.objs.size:=fO I.ok.above (Nat.le_of_lt I.lt)
theorem Inv.nofs (I:Inv X pins σ H s) {a:Addr} (h:s.heap.objs.size<=a):a ∉ X.fs:=λ hb=>by
 obtain ⟨_,o,ho,_⟩:=I.ok.funs.mem hb;exact absurd (gi (fT ho) (fO I.sz h)) (gY _)
theorem Inv.cne (I:Inv X pins σ H s):∀ x c,X.env.cells.lookup x=some c->c≠X.env.locals:=λ x c e z=>by
 obtain ⟨v,o,ho,hd⟩:=I.cell x c e;obtain ⟨m,⟨o',es,ep,ho',hd',_⟩,_⟩:=I.loc;rw [z,ho'] at ho;cases ho;rw [hd'] at hd;cases hd
theorem Inv.funs (I:Inv X pins σ H s):s.heap.FunFrames X.base X.outer:=by
 have all:∀ (l:List Env),(∀ b∈frs l,b∈X.fs)->X.s₀.heap.FunFrames X.base l->s.heap.FunFrames X.base l:=by
  intro l
  induction l with
  | nil=>intro _ _;trivial
  | cons env r ih=>
   intro hs hl;obtain ⟨hk,⟨L,o,hf,hn,ho,hd⟩,hr⟩:=hl;have hL:L∈X.fs:=hs L (by unfold frs;rw [List.filterMap_cons,hf];exact gR);obtain ⟨sl,e⟩:=I.base.slot L o ho (I.ok.frf L hL) hL λ z=>I.ok.exfs L z hL;exact ⟨hk,⟨L,_,hf,hn,e,hd⟩,ih (λ b hb=>hs b (by unfold frs;rw [List.filterMap_cons,hf];exact gC _ hb)) hr⟩
 exact all X.outer (λ _ hb=>hb) I.ok.funs
theorem Inv.stack (I:Inv X pins σ H s):s.heap.FunFrames X.base X.stack:=by
 rcases I.ok.stk with e | ⟨e,hf⟩
 ·rw [e];exact I.funs
 ·rw [e];obtain ⟨m,hn,_⟩:=I.loc;refine .cons (by rw [I.ok.kind];decide) hf hn ?_ I.funs;exact hZ (fO I.ok.bsz I.ok.above)
theorem Inv.stkSub (I:Inv X pins σ H s):∀ b∈frs X.stack,b∈X.env.locals::X.fs:=λ b hb=>by
 rcases I.ok.stk with e | ⟨e,hf⟩
 ·rw [e] at hb;exact gC _ hb
 ·rw [e] at hb;unfold frs at hb;rw [List.filterMap_cons,hf] at hb;exact hb
theorem Inv.stkFree (I:Inv X pins σ H s):∀ b∈frs X.stack,H b=none:=λ b hb=>by
 rcases gw.mp (I.stkSub b hb) with e | hb
 ·rw [e];exact I.free
 ·obtain ⟨_,o,ho,_⟩:=I.ok.funs.mem hb;exact I.base.free b o ho (I.ok.frf b hb) λ z=>I.ok.exfs b z hb
theorem Inv.step {g':Array GenState} {t':Nat} {d':Drawn} {ch:List Addr} (I:Inv X pins σ H s)
  (hch:∀ b∈ch,(b∈X.ex∨X.s₀.heap.objs.size<=b)/\b≠X.env.locals/\(∀ x c,X.env.cells.lookup x=some c->c≠b)/\∀ p∈X.pn++pins,p.1≠b)
  (keep:∀ b o,b≠X.env.locals->b ∉ X.fs->b ∉ ch->s.heap.get? b=some o->H b=none->h'.get? b=some o)
  (slot:∀ b o,b≠X.env.locals->b∈X.fs->b ∉ ch->s.heap.get? b=some o->H b=none->∃ sl,h'.get? b=some { o with slots:=sl }) (free:∀ b o,b ∉ ch->s.heap.get? b=some o->H b=none->H' b=none)
  (there:∀ b o,b ∉ ch->s.heap.get? b=some o->∃ o',h'.get? b=some o')
  (tups:∀ b xs,H b=some (.tup xs)->H' b=some (.tup xs)) (frzs:∀ b o u,H b=some (.frz o u)->H' b=some (.frz o u)) (tbls:∀ b ps,H b=some (.tbl ps)->∃ more,H' b=some (.tbl (ps++more)))
  (ns:∀ m,s.heap.Ns X.env.locals m->h'.Ns X.env.locals m) (hok:HOk X.prog X.w H' h') (hg:AllBare g') :
  Inv X pins σ H' { s with heap:=h',gens:=g',drawn:=d',toks:=t' }:=by
 have neL:∀ b o,X.s₀.heap.get? b=some o->b≠X.env.locals:=λ b o e=>gF (gi (fT e) I.ok.above)
 have neC:∀ b o,X.s₀.heap.get? b=some o->b ∉ X.ex->b ∉ ch:=λ b o e hx hb=>by
  rcases (hch b hb).1 with z | z
  ·exact hx z
  ·exact absurd (gi (fT e) z) (gY _)
 have cellK:∀ x c,X.env.cells.lookup x=some c->∀ v,s.heap.IsCell c v->h'.IsCell c v:=λ x c e v ⟨o,ho,hd⟩=>by
  have nch:c ∉ ch:=λ z=>(hch c z).2.2.1 x c e rfl;by_cases hc:c∈X.fs
  ·obtain ⟨sl,q⟩:=slot c o (I.cne x c e) hc nch ho (I.freeC x c e);exact ⟨_,q,hd⟩
  ·exact ⟨o,keep c o (I.cne x c e) hc nch ho (I.freeC x c e),hd⟩
 refine ⟨I.ok,I.os,hg,⟨λ b o e n hb hx=>?_,λ b o e n hb hx=>?_,λ b o e n hx=>?_,λ b o e hx=>?_,λ b xs e=>tups b xs (I.base.tups b xs e),λ b o xs e=>frzs b o xs (I.base.frzs b o xs e),λ b ps e=>?_⟩,?_,λ x c e=>?_,?_,λ x c e=>?_,λ p hp=>?_,hok,I.len⟩
 ·exact keep b o (neL b o e) hb (neC b o e hx) (I.base.keep b o e n hb hx) (I.base.free b o e n hx)
 ·obtain ⟨sl,e1⟩:=I.base.slot b o e n hb hx;obtain ⟨sl',e2⟩:=slot b _ (neL b o e) hb (neC b o e hx) e1 (I.base.free b o e n hx);exact ⟨sl',e2⟩
 ·obtain ⟨o',e1⟩:=I.base.there b o e hx;exact free b o' (neC b o e hx) e1 (I.base.free b o e n hx)
 ·obtain ⟨o',e1⟩:=I.base.there b o e hx;exact there b o' (neC b o e hx) e1
 ·obtain ⟨m1,e1⟩:=I.base.tbls b ps e;obtain ⟨m2,e2⟩:=tbls b _ e1;exact ⟨m1++m2,by rw [e2,Array.append_assoc]⟩
 ·obtain ⟨m,hn,hl⟩:=I.loc;refine ⟨m,ns m hn,λ i x v e1 e2 e3=>?_⟩;obtain ⟨u,r,l⟩:=hl i x v e1 e2 e3;refine ⟨u,r,?_⟩;rcases l with l | ⟨k,c,e,z⟩
  ·exact .inl l
  ·exact .inr ⟨k,c,e,cellK x c e _ z⟩
 ·obtain ⟨v,z⟩:=I.cell x c e;exact ⟨v,cellK x c e v z⟩
 ·obtain ⟨m,⟨o,_,_,ho,_⟩,_⟩:=I.loc;exact free _ o (λ z=>(hch _ z).2.1 rfl) ho I.free
 ·obtain ⟨v,o,ho,hd⟩:=I.cell x c e;exact free c o (λ z=>(hch c z).2.2.1 x c e rfl) ho (I.freeC x c e)
 ·obtain ⟨e,n,ne,nf,d⟩:=I.pin p hp;have nch:p.1 ∉ ch:=λ z=>(hch p.1 z).2.2.2 p hp rfl;exact ⟨keep p.1 p.2 ne nf nch e n,free p.1 p.2 nch e n,ne,nf,d⟩
theorem Inv.un {t':Nat} (I:Inv X pins σ H s) (u:Un X.fs [] H H' s.heap h') (hok:HOk X.prog X.w H' h'):Inv X pins σ H' { s with heap:=h',toks:=t' }:=by
 obtain ⟨m,⟨o,es,ep,ho,r⟩,_⟩:=id I.loc;obtain ⟨sl,hL⟩:=u.any ho I.free (by simp)
 exact I.step (g':=s.gens) (d':=s.drawn) (ch:=[]) (λ _ z=>nomatch z) (λ b o _ hb _ e n=>u.keep b o e n hb (by simp)) (λ b o _ hb _ e n=>u.slot b o e n hb (by simp)) (λ b o _ e n=>u.free b o e n (by simp)) (λ b o _ e=>u.there b o e (by simp)) u.tups u.frzs u.tbls (λ m' hm=>by
  obtain ⟨o',es',ep',ho',r'⟩:=hm;rw [ho] at ho';cases ho';exact ⟨_,es',ep',hL,r'⟩) hok I.bare
theorem Inv.call {g':Array GenState} {t':Nat} {d':Drawn} {ch:List Addr} (I:Inv X pins σ H s) (u:Un (frs X.stack) ch H H' s.heap h') (hok:HOk X.prog X.w H' h') (hg:AllBare g')
  (hch:∀ b∈ch,(b∈X.ex∨X.s₀.heap.objs.size<=b)/\b≠X.env.locals/\(∀ x c,X.env.cells.lookup x=some c->c≠b)/\∀ p∈X.pn++pins,p.1≠b) :
  Inv X pins σ H' { s with heap:=h',gens:=g',drawn:=d',toks:=t' }:=by
 obtain ⟨m,⟨o,es,ep,ho,r⟩,_⟩:=id I.loc;obtain ⟨sl,hL⟩:=u.any ho I.free λ z=>(hch _ z).2.1 rfl
 exact I.step (ch:=ch) hch (λ b o hL hb hc e n=>u.keep b o e n (λ z=>(gw.mp (I.stkSub b z)).elim hL hb) hc) (λ b o _ _ hc e n=>u.any e n hc) (λ b o hc e n=>u.free b o e n hc) (λ b o hc e=>u.there b o e hc) u.tups u.frzs u.tbls (λ m' hm=>by
  obtain ⟨o',es',ep',ho',r'⟩:=hm;rw [ho] at ho';cases ho';exact ⟨_,es',ep',hL,r'⟩) hok hg
theorem Inv.turned {t':Nat} {it:Addr} (I:Inv X pins σ H s) (k:∀ b o,b≠it->s.heap.get? b=some o->h'.get? b=some o) (hn:H it=none) (hL:it≠X.env.locals)
  (h1:it∈X.ex∨X.s₀.heap.objs.size<=it) (h2:∀ x c,X.env.cells.lookup x=some c->c≠it) (h3:∀ p∈X.pn++pins,p.1≠it):Inv X pins σ H { s with heap:=h',toks:=t' }:=by
 have nit:∀ b u,H b=some u->b≠it:=λ b u e z=>by rw [z,hn] at e;cases e
 refine I.step (g':=s.gens) (d':=s.drawn) (ch:=[it]) (λ b hb=>?_) (λ b o _ _ hc e _=>k b o (λ z=>hc (by simp [z])) e) (λ b o _ _ hc e _=>⟨o.slots,k b o (λ z=>hc (by simp [z])) e⟩) (λ _ _ _ _ n=>n)
  (λ b o hc e=>⟨o,k b o (λ z=>hc (by simp [z])) e⟩) (λ _ _ e=>e) (λ _ _ _ e=>e) (λ b ps e=>⟨#[],by rw [e];simp⟩) (λ m hm=>?_) (λ b u e=>?_) I.bare
 ·have e:b=it:=by simpa using hb
  subst e;exact ⟨h1,hL,h2,h3⟩
 ·obtain ⟨o,es,ep,ho,r⟩:=hm;exact ⟨o,es,ep,k _ o (ib hL) ho,r⟩
 ·refine (I.hok b u e).stay (λ c v hc q=>k c v ?_ q) (λ _ q=>q) λ _ _ q=>q;rcases hc with z | z
  ·rw [z];exact nit b u e
  ·exact nit c _ z
theorem Inv.tok (I:Inv X pins σ H s) (t:Nat):Inv X pins σ H { s with toks:=t }:=I.un (h':=s.heap) (t':=t) Un.refl I.hok
theorem Inv.kept {t':Nat} (I:Inv X pins σ H s) (k:∀ b u,s.heap.get? b=some u->h'.get? b=some u):Inv X pins σ H { s with heap:=h',toks:=t' }:=I.un (Un.kept k) (I.hok.kept k)
theorem Inv.laid {a:Addr} {o:HO} {t':Nat} (I:Inv X pins σ H s) (k:∀ b u,s.heap.get? b=some u->h'.get? b=some u) (hp:s.heap.objs.size<=a) (new:ObjOk X.prog X.w (upd H a o) h' a o) :
  Inv X pins σ (upd H a o) { s with heap:=h',toks:=t' }:=I.un (Un.laid k hp (I.hok.fresh hp)) (I.hok.laid k hp new)
theorem Inv.write {x e:Addr} {o:HO} {t':Nat} (I:Inv X pins σ H s) (mu:Mut (H x)) (he:e=x∨H e=some (.own x)) (k:∀ b u,b≠e->s.heap.get? b=some u->h'.get? b=some u) (heo:∃ u,h'.get? e=some u)
  (new:ObjOk X.prog X.w (upd H x o) h' x o):Inv X pins σ (upd H x o) { s with heap:=h',toks:=t' }:=I.un (Un.write mu he k heo) (I.hok.write mu he k heo new)
theorem Inv.pins_of {pins':List (Addr × Obj)} (I:Inv X pins σ H s) (h:∀ p∈pins',s.heap.get? p.1=some p.2/\H p.1=none/\p.1≠X.env.locals/\p.1 ∉ X.fs/\∀ v,p.2.data≠.cell v):Inv X pins' σ H s:=
 ⟨I.ok,I.os,I.bare,I.base,I.loc,I.cell,I.free,I.freeC,λ p hp=>(List.mem_append.mp hp).elim (λ z=>I.pin p (List.mem_append_left _ z)) (h p),I.hok,I.len⟩
theorem nodup_ix {N:List Str} (hN:N.Nodup) {i j:Nat} {x:Str} (a:N[i]?=some x) (b:N[j]?=some x):i=j:=by
 obtain ⟨h1,e1⟩:=fL.mp a;obtain ⟨h2,e2⟩:=fL.mp b;exact (List.getElem_inj hN).mp (e1.trans e2.symm)
theorem store_ok2 {M:Model} {A:Around} {E:Value->Shared->Prop} {i:Nat} {x:Str} {v:V} {u:Value} {Q:Unit->Shared->Prop} (I:Inv X pins σ H s) (hN:X.N.Nodup) (hi:X.N[i]?=some x) (hx:Loc X.env.scope x) (r:RelV v u)
  (h:∀ s',Inv X pins (σ.set i (some v)) H s'->(∃ a,Heap.SameBut a s.heap s'.heap/\(a=X.env.locals∨X.env.cells.lookup x=some a))->Q () s') (hf:X.fn x=true∨X.env.scope.names.lookup x=some .local:=by first | exact .inl rfl | exact .inr rfl | assumption):wpAny M A (storeName X.env x u) Q E s:=by
 obtain ⟨m,hn,hl⟩:=id I.loc;have hcls:(X.env.scope.kind == .class || (X.env.scope.kind == .module && X.env.locals != X.env.globals))=false:=by rw [I.ok.kind];rfl
 have hiσ:i < σ.length:=by rw [I.len];exact (fL.mp hi).1
 have cne:=I.cne
 have tracked:∀ {a:Addr} {h':Heap},(∃ o,s.heap.get? a=some o/\H a=none)->Heap.SameBut a s.heap h'->HOk X.prog X.w H h':=λ {a h'} ha hs b ob e=>by
  obtain ⟨_,_,hfree⟩:=ha;refine (I.hok b ob e).stay (λ c w' hc q=>(hs.2 c ?_).trans q) (λ _ q=>q) λ _ _ q=>q;rintro rfl;rcases hc with rfl | hc
  ·rw [hfree] at e;cases e
  ·rw [hfree] at hc;cases hc
 rcases hx with hk | hk
 ·refine wpAny_storeName_local hk hn (λ h' hn' hs=>?_) hcls;obtain ⟨oL,_,_,hoL,_⟩:=id hn;refine h _ ⟨I.ok,I.os,I.bare,⟨λ b o e n hb hx=>?_,λ b o e n hb hx=>?_,I.base.free,λ b o e hx=>?_,I.base.tups,I.base.frzs,I.base.tbls⟩,⟨_,hn',λ j y v' e1 e2 e3=>?_⟩,λ y c e=>?_,I.free,I.freeC,λ p hp=>?_,tracked ⟨oL,hoL,I.free⟩ hs,by simpa using I.len⟩ ⟨_,hs,.inl rfl⟩
  ·exact (hs.2 b (gF (gi (fT e) I.ok.above))).trans (I.base.keep b o e n hb hx)
  ·obtain ⟨sl,e1⟩:=I.base.slot b o e n hb hx;exact ⟨sl,(hs.2 b (gF (gi (fT e) I.ok.above))).trans e1⟩
  ·obtain ⟨o',e1⟩:=I.base.there b o e hx;exact ⟨o',(hs.2 b (gF (gi (fT e) I.ok.above))).trans e1⟩
  ·by_cases hj:j=i
   ·subst hj;rw [hi] at e1;cases e1;rw [gS hiσ] at e2
    cases e2;exact ⟨u,r,.inl ⟨hk,by simp⟩⟩
   ·rw [ia (ib hj)] at e2;obtain ⟨u',r',q⟩:=hl j y v' e1 e2 e3;refine ⟨u',r',?_⟩;rcases q with ⟨k,e⟩ | ⟨k,c,e,z⟩
    ·refine .inl ⟨k,?_⟩
     have:y≠x:=λ e=>hj (nodup_ix hN e1 (e ▸ hi))
     simp [this,e]
    ·exact .inr ⟨k,c,e,z.sameBut hs (cne y c e)⟩
  ·obtain ⟨w',z⟩:=I.cell y c e;exact ⟨w',z.sameBut hs (cne y c e)⟩
  ·obtain ⟨e,n,ne,nf,d⟩:=I.pin p hp;exact ⟨(hs.2 p.1 ne).trans e,n,ne,nf,d⟩
 ·have hfn:X.fn x=true:=by
   rcases hf with z | z
   ·exact z
   ·rw [z] at hk;cases hk
  obtain ⟨c,hc⟩:=I.ok.has x (.inl hk);obtain ⟨w',z⟩:=I.cell x c hc;refine wpAny_storeName_cell I.ok.kind hk hc z (λ h' hc' hs=>?_);obtain ⟨oc,hoc,hocd⟩:=id z;refine h { s with heap:=h' } ⟨I.ok,I.os,I.bare,⟨λ b o e n hb hx=>?_,λ b o e n hb hx=>?_,I.base.free,λ b o e hx=>?_,I.base.tups,I.base.frzs,I.base.tbls⟩,⟨m,hn.sameBut hs (ib (cne x c hc)),λ j y v' e1 e2 e3=>?_⟩,λ y c' e=>?_,I.free,I.freeC,λ p hp=>?_,tracked ⟨oc,hoc,I.freeC x c hc⟩ hs,by simpa using I.len⟩ ⟨c,hs,.inr hc⟩
  ·exact (hs.2 b (gF (gi (fT e) (I.ok.cab x c hfn hc)))).trans (I.base.keep b o e n hb hx)
  ·obtain ⟨sl,e1⟩:=I.base.slot b o e n hb hx;exact ⟨sl,(hs.2 b (gF (gi (fT e) (I.ok.cab x c hfn hc)))).trans e1⟩
  ·obtain ⟨o',e1⟩:=I.base.there b o e hx;exact ⟨o',(hs.2 b (gF (gi (fT e) (I.ok.cab x c hfn hc)))).trans e1⟩
  ·by_cases hj:j=i
   ·subst hj;rw [hi] at e1;cases e1;rw [gS hiσ] at e2
    cases e2;exact ⟨u,r,.inr ⟨.inl hk,c,hc,hc'⟩⟩
   ·rw [ia (ib hj)] at e2;obtain ⟨u',r',q⟩:=hl j y v' e1 e2 e3;refine ⟨u',r',?_⟩;rcases q with q | ⟨k,c',e,z'⟩
    ·exact .inl q
    ·refine .inr ⟨k,c',e,z'.sameBut hs ?_⟩;rintro rfl;exact hj (nodup_ix hN e1 (I.ok.inj _ _ _ e hc ▸ hi))
  ·by_cases hcc:c'=c
   ·subst hcc;exact ⟨_,hc'⟩
   ·obtain ⟨w2,z2⟩:=I.cell y c' e;exact ⟨w2,z2.sameBut hs hcc⟩
  ·obtain ⟨e,n,ne,nf,d⟩:=I.pin p hp;refine ⟨(hs.2 p.1 ?_).trans e,n,ne,nf,d⟩;intro q;rw [q,hoc] at e;have q':oc=p.2:=f9 e;exact d w' (by rw [<- q'];exact hocd)
theorem eX {M:Model} {A:Around} {E:Value->Shared->Prop} {i:Nat} {x:Str} {v:V} {u:Value} {Q:Unit->Shared->Prop} (I:Inv X pins σ H s) (hN:X.N.Nodup) (hi:X.N[i]?=some x) (hx:Loc X.env.scope x) (r:RelV v u)
  (h:∀ s',Inv X pins (σ.set i (some v)) H s'->Q () s') (hf:X.fn x=true∨X.env.scope.names.lookup x=some .local:=by first | exact .inl rfl | exact .inr rfl | assumption):wpAny M A (storeName X.env x u) Q E s:=
 store_ok2 I hN hi hx r (λ s' I' _=>h s' I') hf
theorem Inv.call' {s':Shared} {ch:List Addr} (I:Inv X pins σ H s) (ho:s'.os=s.os) (u:Un (frs X.stack) ch H H' s.heap s'.heap) (hok:HOk X.prog X.w H' s'.heap) (hg:AllBare s'.gens)
  (hch:∀ b∈ch,(b∈X.ex∨X.s₀.heap.objs.size<=b)/\b≠X.env.locals/\(∀ x c,X.env.cells.lookup x=some c->c≠b)/\∀ p∈X.pn++pins,p.1≠b):Inv X pins σ H' s':=by
 obtain ⟨h',g',d',t',o'⟩:=s';have e:o'=s.os:=ho;subst e;exact I.call (g':=g') (t':=t') (d':=d') u hok hg hch
end
noncomputable abbrev XK:=Value->Option Addr->Hp->Prop
noncomputable abbrev St:=List (Option V)
noncomputable abbrev VK:=V->Hp->Prop
noncomputable abbrev TE:=St->Hp->VK->Prop
noncomputable abbrev TT:=St->Hp->(Bool->Hp->Prop)->Prop
noncomputable abbrev TA:=St->Hp->(List V->Hp->Prop)->Prop
structure Ends where
 nx:St->Hp->Prop
 rt:VK
 bk:St->Hp->Prop:=λ _ _=>False
 ct:St->Hp->Prop:=λ _ _=>False
noncomputable abbrev TS:=Ends->St->Hp->Prop
noncomputable def EP (X:Cx) (pins:List (Addr × Obj)) (σ:St) (Q:VK) (u:Value) (s':Shared):Prop:=∃ v H',Inv X pins σ H' s'/\RelV v u/\Q v H'
noncomputable def TP (X:Cx) (pins:List (Addr × Obj)) (σ:St) (Q:Bool->Hp->Prop) (b:Bool) (s':Shared):Prop:=∃ H',Inv X pins σ H' s'/\Q b H'
noncomputable def AP (X:Cx) (pins:List (Addr × Obj)) (σ:St) (Q:List V->Hp->Prop) (us:List Value) (s':Shared):Prop:=∃ vs H',Inv X pins σ H' s'/\Vals vs us/\Q vs H'
noncomputable def SP (X:Cx) (pins:List (Addr × Obj)) (D:Ends) (f:Flow) (s':Shared):Prop:=
 match f with
 | .next=>∃ σ' H',Inv X pins σ' H' s'/\D.nx σ' H'
 | .brk=>∃ σ' H',Inv X pins σ' H' s'/\D.bk σ' H'
 | .cont=>∃ σ' H',Inv X pins σ' H' s'/\D.ct σ' H'
 | .ret u=>∃ v σ' H',Inv X pins σ' H' s'/\RelV v u/\D.rt v H'
noncomputable def PE (X:Cx) (e:Expr) (t:TE):Prop:=
 ∀ (pins:List (Addr × Obj)) (s:Shared) (σ:St) (H:Hp) (Q:VK),Inv X pins σ H s->t σ H Q->wpAny (model X.prog X.w) X.A (eval e X.env) (EP X pins σ Q) X.xe s
noncomputable def PT (X:Cx) (e:Expr) (t:TT):Prop:=
 ∀ (pins:List (Addr × Obj)) (s:Shared) (σ:St) (H:Hp) (Q:Bool->Hp->Prop),Inv X pins σ H s->t σ H Q->wpAny (model X.prog X.w) X.A (isTrue e X.env (eval e X.env)) (TP X pins σ Q) X.xe s
noncomputable def PW (X:Cx) (e:Expr) (t:TT):Prop:=
 ∀ (whole:Sem Value) (pins:List (Addr × Obj)) (s:Shared) (σ:St) (H:Hp) (Q:Bool->Hp->Prop),Inv X pins σ H s->t σ H Q->wpAny (model X.prog X.w) X.A (isTrue e X.env whole) (TP X pins σ Q) X.xe s
theorem PW.pt {X:Cx} {e:Expr} {t:TT} (h:PW X e t):PT X e t:=h _
noncomputable def PA (X:Cx) (es:List Expr) (t:TA):Prop:=
 ∀ (pos:Pos) (pins:List (Addr × Obj)) (s:Shared) (σ:St) (H:Hp) (Q:List V->Hp->Prop),Inv X pins σ H s->t σ H Q->wpAny (model X.prog X.w) X.A (spliced (backTo pos (starEach es X.env))) (AP X pins σ Q) X.xe s
noncomputable def PS (X:Cx) (st:Stmt) (t:TS):Prop:=
 ∀ (pins:List (Addr × Obj)) (s:Shared) (σ:St) (H:Hp) (D:Ends),Inv X pins σ H s->t D σ H->wpAny (model X.prog X.w) X.A (exec st X.env) (SP X pins D) X.xe s
noncomputable def PSs (X:Cx) (st:List Stmt) (t:TS):Prop:=
 ∀ (pins:List (Addr × Obj)) (s:Shared) (σ:St) (H:Hp) (D:Ends),Inv X pins σ H s->t D σ H->wpAny (model X.prog X.w) X.A (execs st X.env) (SP X pins D) X.xe s
theorem thn {α:Type} {t:Sem α} {Q Q':α->Shared->Prop} {M:Model} {A:Around} {E:Value->Shared->Prop} {s:Shared} (h:wpAny M A t Q E s) (hQ:∀ a s,Q a s->Q' a s):wpAny M A t Q' E s:=gD h hQ λ _ _ x=>x
end L2
namespace L2
open PySem PySem.Spec PyProof.Rows
section
variable {X:Cx}
inductive ItVar (i:Nat) (σ:St) (H:Hp) (Q:VK):Prop
 | mk (v:_) (h1:σ[i]?=some (some v)) (h2:Q v H):ItVar i σ H Q
noncomputable def tVar (i:Nat):TE:=λ σ H Q=>ItVar i σ H Q
noncomputable def tC (v:V):TE:=λ _ H Q=>Q v H
theorem pe_var {i:Nat} {x:Str} {pos:Pos} (hN:X.N[i]?=some x) (hv:Vis X.env.scope x) (hd:(x == ("__debug__":Str))=false:=by decide) (hcd:(x == ("__classdict__":Str))=false:=by decide):PE X (.Name x pos) (tVar i):=by
 intro pins s σ H Q I h;obtain ⟨v,e,h⟩:=h;obtain ⟨m,hn,hl⟩:=I.loc;obtain ⟨u,r,l⟩:=hl i x v hN e hv;have fin:EP X pins σ Q u s:=⟨v,H,I,r,h⟩;rcases l with ⟨hk,hm⟩ | ⟨hk,c,hc,hcell⟩
 ·exact wpAny_Name (wpAny_loadName_local I.ok.kind hk hn hm fin) hd
 ·rcases hk with hk | hk
  ·exact wpAny_Name (wpAny_loadName_cell I.ok.kind hk hc hcell fin) hd
  ·exact wpAny_Name (wpAny_loadName_free I.ok.kind hk hc hcell fin hcd) hd
theorem ac {i j pos}:PE X (.Constant (.int i) j pos) (tC (.int i)):=λ _ _ _ H _ I h=>wpAny_Constant_int ⟨.int i,H,I.tok _,⟨_,rfl⟩,h⟩
theorem cE {b j pos}:PE X (.Constant (.bool b) j pos) (tC (.bl b)):=λ _ _ _ H _ I h=>Constant_bool ⟨.bl b,H,I,rfl,h⟩
theorem bG {j pos}:PE X (.Constant .none j pos) (tC .non):=λ _ _ _ H _ I h=>Constant_none ⟨.non,H,I,rfl,h⟩
theorem bh {x j pos}:PE X (.Constant (.str x) j pos) (tC (.str x)):=λ _ _ _ H _ I h=>Calls.Constant_str ⟨.str x,H,I.tok _,⟨_,rfl⟩,h⟩
noncomputable def Gl (X:Cx) (x:Str):Prop:=X.env.kindOf x=some .globalImplicit
theorem cu {E:Value->Shared->Prop} {pins:List (Addr × Obj)} {s:Shared} {σ:St} {H:Hp} {x:Str} {u:Value} {pos:Pos} {Q:Value->Shared->Prop} (I:Inv X pins σ H s) (hg:Gl X x) (hm:X.mg x=some u) (h:Q u s)
  (hd:(x == ("__debug__":Str))=false:=by decide):wpAny (model X.prog X.w) X.A (eval (.Name x pos) X.env) Q E s:=
 Calls.Name_function_global I.ok.kind hg (Calls.loadGlobal_global (by rw [I.ok.glob];exact I.mod.glob.keeps I.bk) hm h) hd
theorem ld_blt {E:Value->Shared->Prop} {pins:List (Addr × Obj)} {s:Shared} {σ:St} {H:Hp} {x:Str} {u:Value} {pos:Pos} {Q:Value->Shared->Prop} (I:Inv X pins σ H s) (hg:Gl X x) (hm:X.mg x=none) (hv:bootBuiltins x=some u) (h:Q u s)
  (hn:x≠"__name__":=by decide) (hd:(x == ("__debug__":Str))=false:=by decide):wpAny (model X.prog X.w) X.A (eval (.Name x pos) X.env) Q E s:=by
 obtain ⟨mb,h1,h2⟩:=I.mod.blt;exact Calls.Name_function_global I.ok.kind hg (Calls.loadGlobal_builtin (by rw [I.ok.glob];exact I.mod.glob.keeps I.bk) hm (by rw [I.ok.blt];exact h1.keeps I.bk) ((h2 x hn).trans hv) h) hd
theorem pe_glob {x:Str} {v:V} {u:Value} {pos:Pos} (hg:Gl X x) (hm:X.mg x=some u) (r:RelV v u) (hd:(x == ("__debug__":Str))=false:=by decide):PE X (.Name x pos) (tC v):=
 λ _ _ _ H _ I h=>cu I hg hm ⟨v,H,I,r,h⟩ hd
theorem pe_bltn {x:Str} {v:V} {u:Value} {pos:Pos} (hg:Gl X x) (hm:X.mg x=none) (hv:bootBuiltins x=some u) (r:RelV v u) (hn:x≠"__name__":=by decide) (hd:(x == ("__debug__":Str))=false:=by decide):PE X (.Name x pos) (tC v):=
 λ _ _ _ H _ I h=>ld_blt I hg hm hv ⟨v,H,I,r,h⟩ hn hd
noncomputable def t2I (ta tb:TE) (k:Int->Int->Hp->Prop):St->Hp->Prop:=λ σ H=>ta σ H λ x H1=>tb σ H1 λ y H2=>∃ i j,x=.int i/\y=.int j/\k i j H2
variable {a b:Expr} {ta tb:TE} {pos:Pos}
noncomputable def PC (X:Cx) (op:CmpOp) (a b:Expr) (t:TE):Prop:=
 ∀ (pins:List (Addr × Obj)) (s:Shared) (σ:St) (H:Hp) (Q:VK),Inv X pins σ H s->t σ H Q->
  wpAny (model X.prog X.w) X.A (eval a X.env) (λ v s₁=>wpAny (model X.prog X.w) X.A (eval b X.env) (λ u s₂=>wpAny (model X.prog X.w) X.A (compareOp op v u) (EP X pins σ Q) X.xe s₂) X.xe s₁) X.xe s
noncomputable def tCmp (p:Int->Int->Bool) (ta tb:TE):TE:=λ σ H Q=>t2I ta tb (λ i j H2=>Q (.bl (p i j)) H2) σ H
inductive ItB (Q:Bool->Hp->Prop) (x:V) (H1:Hp):Prop
 | mk (c:_) (h1:x=.bl c) (h2:Q c H1):ItB Q x H1
noncomputable def tB (t:TE):TT:=λ σ H Q=>t σ H λ x H1=>ItB Q x H1
theorem eM {op:CmpOp} {t:TE} (h:PC X op a b t) (h1:behindInMarks op b=false:=by first | exact nobehind _ (by decide) (by decide) | rfl):PT X (.Compare a [op] [b] pos) (tB t):=by
 intro pins s σ H Q I hw;refine wpAny_isTrue_Compare1 (thn (h pins s σ H _ I hw) λ v s1 h1=>thn h1 λ u s2 h2=>thn h2 λ c s3 ⟨x,H1,I1,r1,q1⟩=>?_) h1;obtain ⟨d,rfl,q⟩:=q1
 cases r1;exact wpAny_truthy_bool ⟨H1,I1,q⟩
theorem bE {e:Expr} {t:TE} (h:PE X e t) (he:∀ whole,isTrue e X.env whole=(do let v <- whole;standAt e.pos;holding [v] (truthy v)):=by intro _;rfl):PT X e (tB t):=by
 intro pins s σ H Q I hw;refine isTrue_plain (thn (h pins s σ H _ I hw) λ v s1 ⟨x,H1,I1,r1,q1⟩=>?_) (he _);obtain ⟨d,rfl,q⟩:=q1
 cases r1;exact wpAny_truthy_bool ⟨H1,I1,q⟩
variable {tA tB':TT} {rest:List Expr}
noncomputable def tAnd (t u:TT):TT:=λ σ H Q=>t σ H λ c H1=>if c=true then u σ H1 Q else Q false H1
noncomputable def tOr (t u:TT):TT:=λ σ H Q=>t σ H λ c H1=>if c=true then Q true H1 else u σ H1 Q
noncomputable def tNot (t:TT):TT:=λ σ H Q=>t σ H λ c H1=>Q (!c) H1
theorem cq (ha:PT X a tA):PW X (.BoolOp .And [a] pos) tA:=by
 intro wh pins s σ H Q I h;refine isTrue_and (thn (ha pins s σ H Q I h) λ c s1 e=>?_)
 cases c with
 | true=>exact isTrue_and_nil e
 | false=>exact e
theorem pw_or1 (ha:PT X a tA):PW X (.BoolOp .Or [a] pos) tA:=by
 intro wh pins s σ H Q I h;refine isTrue_or (thn (ha pins s σ H Q I h) λ c s1 e=>?_)
 cases c with
 | false=>exact isTrue_or_nil e
 | true=>exact e
theorem dk (ha:PT X a tA) (hb:PW X (.BoolOp .And (b::rest) pos) tB'):PW X (.BoolOp .And (a::b::rest) pos) (tAnd tA tB'):=by
 intro wh pins s σ H Q I h;refine isTrue_and (thn (ha pins s σ H _ I h) λ c s1 ⟨H1,I1,q1⟩=>?_)
 cases c with
 | true=>exact hb wh pins s1 σ H1 Q I1 q1
 | false=>exact ⟨H1,I1,q1⟩
theorem pw_or (ha:PT X a tA) (hb:PW X (.BoolOp .Or (b::rest) pos) tB'):PW X (.BoolOp .Or (a::b::rest) pos) (tOr tA tB'):=by
 intro wh pins s σ H Q I h;refine isTrue_or (thn (ha pins s σ H _ I h) λ c s1 ⟨H1,I1,q1⟩=>?_)
 cases c with
 | true=>exact ⟨H1,I1,q1⟩
 | false=>exact hb wh pins s1 σ H1 Q I1 q1
theorem bY (ha:PT X a tA):PT X (.UnaryOp .Not a pos) (tNot tA):=by
 intro pins s σ H Q I h;exact isTrue_not (ha pins s σ H (λ c H1=>Q (!c) H1) I h)
noncomputable def tAndV (ta tb:TE):TE:=λ σ H Q=>ta σ H λ x H1=>∃ c,x=.bl c/\if c=true then tb σ H1 Q else Q (.bl false) H1
noncomputable def tNotV (ta:TE):TE:=λ σ H Q=>ta σ H λ x H1=>∃ c,x=.bl c/\Q (.bl (!c)) H1
theorem pe_one {op} {t:TE} (h:PE X a t):PE X (.BoolOp op [a] pos) t:=λ pins s σ H Q I hw=>BoolOp_one (h pins s σ H Q I hw)
theorem pe_and (ha:PE X a ta) (hb:PE X (.BoolOp .And (b::rest) pos) tb):PE X (.BoolOp .And (a::b::rest) pos) (tAndV ta tb):=by
 intro pins s σ H Q I h;refine BoolOp_and (thn (ha pins s σ H _ I h) λ v s1 ⟨x,H1,I1,r1,q1⟩=>?_);obtain ⟨c,rfl,q1⟩:=q1
 cases r1;refine wpAny_truthy_bool ?_
 cases c with
 | true=>exact hb pins s1 σ H1 Q I1 q1
 | false=>exact ⟨.bl false,H1,I1,rfl,q1⟩
theorem pe_not (ha:PE X a ta):PE X (.UnaryOp .Not a pos) (tNotV ta):=by
 intro pins s σ H Q I h;refine UnaryOp_ (thn (ha pins s σ H _ I h) λ v s1 ⟨x,H1,I1,r1,q1⟩=>?_);obtain ⟨c,rfl,q1⟩:=q1
 cases r1;exact not_of (wpAny_truthy_bool ⟨.bl (!c),H1,I1,rfl,q1⟩)
noncomputable def tIf (t:TT) (ta tb:TE):TE:=λ σ H Q=>t σ H λ c H1=>if c=true then ta σ H1 Q else tb σ H1 Q
theorem pe_ifExp {c:Expr} (hc:PT X c tA) (ha:PE X a ta) (hb:PE X b tb):PE X (.IfExp c a b pos) (tIf tA ta tb):=by
 intro pins s σ H Q I h;refine wpAny_IfExp (thn (hc pins s σ H _ I h) λ d s1 ⟨H1,I1,q1⟩=>?_)
 cases d with
 | true=>exact ha pins s1 σ H1 Q I1 q1
 | false=>exact hb pins s1 σ H1 Q I1 q1
end
end L2
namespace L2
open PySem PySem.Spec PyProof.Rows
noncomputable def SqL (K:W.Frag) (H:Hp) (a:Addr) (xs:List V):Prop:=
 Rd H a (.lst xs)∨
  ∃ (o:Obj) (its:Array Value) (n:Nat),K.lookup a=some o/\o.cls=.type "list"/\o.dict=none/\o.data=.seq its n/\its.size<=sizeLine/\Vals xs its.toList
noncomputable def SqT (K:W.Frag) (H:Hp) (a:Addr) (xs:List V):Prop:=
 Rd H a (.tup xs)∨
  ∃ (o:Obj) (its:Array Value) (n:Nat),K.lookup a=some o/\o.cls=.type "tuple"/\o.data=.seq its n/\its.size<=sizeLine/\Vals xs its.toList
noncomputable def absV:Value->Option V
 | .none=>some .non
 | .bool b=>some (.bl b)
 | .int i _=>some (.int i)
 | .str x _=>some (.str x)
 | .bytes b _=>some (.byt b)
 | .float b _=>some (.flt b)
 | .ref a=>some (.ref a)
 | .type n=>some (.ty n)
 | _=>none
theorem RelV.abs {x:V} {u:Value} (r:RelV x u):absV u=some x:=by
 cases x with
 | non=>cases r;rfl
 | bl _=>cases r;rfl
 | int _=>obtain ⟨t,rfl⟩:=r;rfl
 | str _=>obtain ⟨t,rfl⟩:=r;rfl
 | byt _=>obtain ⟨t,rfl⟩:=r;rfl
 | flt _=>obtain ⟨t,rfl⟩:=r;rfl
 | ref _=>cases r;rfl
 | ty _=>cases r;rfl
theorem RelV.inj {x y:V} {u:Value} (r:RelV x u) (q:RelV y u):x=y:=f9 (r.abs.symm.trans q.abs)
theorem Vals.inj:∀ {xs ys:List V} {us:List Value},Vals xs us->Vals ys us->xs=ys
 | _,_,_,.nil,.nil=>rfl
 | _,_,_,.cons r t,.cons r' t'=>by rw [r.inj r',Vals.inj t t']
section
variable {X:Cx} {pins:List (Addr × Obj)} {σ:St} {H:Hp} {s:Shared} {a:Addr} {xs ys:List V}
theorem SqL.of {K:W.Frag} (h:H a=some (.lst xs)):SqL K H a xs:=.inl (.inl h)
theorem SqT.of {K:W.Frag} (h:H a=some (.tup xs)):SqT K H a xs:=.inl (.inl h)
theorem Inv.list (I:Inv X pins σ H s) (h:SqL X.K H a xs):∃ its:List Value,Vals xs its/\PlainL s.heap a its.toArray/\xs.length<=sizeLine:=by
 rcases h with h | ⟨o,its,n,hk,hc,hd,hs,hz,r⟩
 ·obtain ⟨z,its,n,r,e⟩:=h.ok I.hok;exact ⟨its,r,⟨_,n,e,rfl,rfl,rfl⟩,z⟩
 ·refine ⟨its.toList,r,⟨o,n,I.kIn a o hk,hc,hd,by simpa using hs⟩,?_⟩;have e:=r.length;simp only [ig] at e;omega
theorem Inv.tuple (I:Inv X pins σ H s) (h:SqT X.K H a xs):∃ its:List Value,Vals xs its/\IsTup s.heap a its.toArray/\xs.length<=sizeLine:=by
 rcases h with h | ⟨o,its,n,hk,hc,hs,hz,r⟩
 ·obtain ⟨z,its,r,p⟩:=h.ok I.hok;exact ⟨its,r,p,z⟩
 ·refine ⟨its.toList,r,⟨o,I.kIn a o hk,hc,n,by simpa using hs⟩,?_⟩;have e:=r.length;simp only [ig] at e;omega
theorem Inv.list_inj (I:Inv X pins σ H s) (h:SqL X.K H a xs) (h':SqL X.K H a ys):xs=ys:=by
 obtain ⟨its,r,⟨o,n,e,_,_,d⟩,_⟩:=I.list h;obtain ⟨its',r',⟨o',n',e',_,_,d'⟩,_⟩:=I.list h';rw [e] at e';cases e';rw [d] at d';injection d' with d1 _
 have:its=its':=by simpa using gK Array.toList d1
 subst this;exact r.inj r'
theorem Inv.tuple_inj (I:Inv X pins σ H s) (h:SqT X.K H a xs) (h':SqT X.K H a ys):xs=ys:=by
 obtain ⟨its,r,⟨o,e,_,n,d⟩,_⟩:=I.tuple h;obtain ⟨its',r',⟨o',e',_,n',d'⟩,_⟩:=I.tuple h';rw [e] at e';cases e';rw [d] at d';injection d' with d1 _
 have:its=its':=by simpa using gK Array.toList d1
 subst this;exact r.inj r'
end
noncomputable abbrev Cx.wish (X:Cx) (E:Value->Shared->Prop):Cx:={ X with xe:=E }
noncomputable abbrev Cx.nox (X:Cx):Cx:=X.wish λ _ _=>False
theorem Cx.Ok.wish {X:Cx} (ok:X.Ok) (E:Value->Shared->Prop):(X.wish E).Ok:=
 ⟨ok.mod,ok.kind,ok.glob,ok.blt,ok.above,ok.inj,ok.has,ok.cab,ok.hd,ok.frames,ok.stk,ok.exf,ok.bs,ok.bsz,ok.noex,ok.exfs,ok.funs,ok.frf⟩
theorem Cx.Ok.unwish {X:Cx} {E:Value->Shared->Prop} (ok:(X.wish E).Ok):X.Ok:=
 ⟨ok.mod,ok.kind,ok.glob,ok.blt,ok.above,ok.inj,ok.has,ok.cab,ok.hd,ok.frames,ok.stk,ok.exf,ok.bs,ok.bsz,ok.noex,ok.exfs,ok.funs,ok.frf⟩
section
variable {X:Cx} {pins:List (Addr × Obj)} {σ:St} {H:Hp} {s:Shared} {E:Value->Shared->Prop}
theorem Inv.wish (I:Inv X pins σ H s) (E:Value->Shared->Prop):Inv (X.wish E) pins σ H s:=⟨I.ok.wish E,I.os,I.bare,I.base,I.loc,I.cell,I.free,I.freeC,I.pin,I.hok,I.len⟩
theorem Inv.unwish (I:Inv (X.wish E) pins σ H s):Inv X pins σ H s:=⟨I.ok.unwish,I.os,I.bare,I.base,I.loc,I.cell,I.free,I.freeC,I.pin,I.hok,I.len⟩
theorem SP.unwish {D:Ends} {f:Flow} {s':Shared} (h:SP (X.wish E) pins D f s'):SP X pins D f s':=by
 cases f with
 | next=>obtain ⟨σ',H',I,q⟩:=h;exact ⟨σ',H',I.unwish,q⟩
 | brk=>obtain ⟨σ',H',I,q⟩:=h;exact ⟨σ',H',I.unwish,q⟩
 | cont=>obtain ⟨σ',H',I,q⟩:=h;exact ⟨σ',H',I.unwish,q⟩
 | ret u=>obtain ⟨v,σ',H',I,r,q⟩:=h;exact ⟨v,σ',H',I.unwish,r,q⟩
theorem PSs.nox {st:List Stmt} {t:TS} (h:PSs X.nox st t):PSs X st t:=λ pins s σ H D I hw=>
 gD (h pins s σ H D (I.wish _) hw) (λ _ _ q=>q.unwish) λ _ _ z=>False.elim z
end
section
variable {X:Cx} {st:Stmt} {rest:List Stmt} {t u:TS} {e:Expr} {te:TE} {pos:Pos}
noncomputable def tNext:TS:=λ D σ H=>D.nx σ H
noncomputable def tSeq (t u:TS):TS:=λ D σ H=>t { D with nx:=u D } σ H
theorem ap:PSs X [] tNext:=λ _ _ σ H _ I h=>wpAny_execs_nil ⟨σ,H,I,h⟩
theorem af (h1:PS X st t) (h2:PSs X rest u):PSs X (st::rest) (tSeq t u):=by
 intro pins s σ H D I h;refine wpAny_execs_cons (thn (h1 pins s σ H { D with nx:=u D } I h) λ f s1 q=>?_)
 cases f with
 | next=>
  obtain ⟨σ',H',I',q⟩:=q;exact h2 pins s1 σ' H' D I' q
 | ret v=>exact q
 | brk=>exact q
 | cont=>exact q
theorem ag (h1:PS X st t):PSs X [st] t:=by
 intro pins s σ H D I h;refine wpAny_execs_cons (thn (h1 pins s σ H D I h) λ f s1 q=>?_)
 cases f with
 | next=>exact wpAny_execs_nil q
 | ret v=>exact q
 | brk=>exact q
 | cont=>exact q
theorem Inv.quiet {pins:List (Addr × Obj)} {σ:St} {H:Hp} {s:Shared} (I:Inv X pins σ H s):interactive X.env=false:=by simp [interactive,I.ok.kind]
noncomputable def tDrop (te:TE):TS:=λ D σ H=>te σ H λ _ H1=>D.nx σ H1
theorem bD (he:PE X e te) (hs:swapsWith e none pos.line X.env=pure false:=by rfl):PS X (.Expr e pos) (tDrop te):=by
 intro pins s σ H D I h;exact wpAny_Expr_any (thn (he pins s σ H _ I h) λ v s1 ⟨x,H1,I1,r1,q1⟩=>⟨σ,H1,I1,q1⟩) I.quiet hs
noncomputable def tRet (te:TE):TS:=λ D σ H=>te σ H D.rt
theorem aq (he:PE X e te):PS X (.Return (some e) pos) (tRet te):=by
 intro pins s σ H D I h;exact wpAny_Return_some (thn (he pins s σ H _ I h) λ v s1 ⟨x,H1,I1,r1,q1⟩=>⟨x,σ,H1,I1,r1,q1⟩)
noncomputable def tIfS (c:TT) (t u:TS):TS:=λ D σ H=>c σ H λ b H1=>if b=true then t D σ H1 else u D σ H1
theorem aD {c:Expr} {a b:List Stmt} {tc:TT} (hc:PT X c tc) (ha:PSs X a t) (hb:PSs X b u):PS X (.If c a b pos) (tIfS tc t u):=by
 intro pins s σ H D I h;refine wpAny_If (thn (hc pins s σ H _ I h) λ d s1 ⟨H1,I1,q1⟩=>?_)
 cases d with
 | true=>exact ha pins s1 σ H1 D I1 q1
 | false=>exact hb pins s1 σ H1 D I1 q1
noncomputable def tNever:TS:=λ _ _ _=>False
theorem bt:PS X st tNever:=λ _ _ _ _ _ _ h=>h.elim
end
noncomputable abbrev TG:=V->St->Hp->(St->Hp->Prop)->Prop
noncomputable abbrev TGs:=List V->St->Hp->(St->Hp->Prop)->Prop
noncomputable def PG (X:Cx) (target:Expr) (t:TG):Prop:=
 ∀ (pins:List (Addr × Obj)) (s:Shared) (σ:St) (H:Hp) (v:V) (u:Value) (Q:St->Hp->Prop),Inv X pins σ H s->RelV v u->t v σ H Q->
  wpAny (model X.prog X.w) X.A (assign target X.env u) (λ _ s'=>∃ σ' H',Inv X pins σ' H' s'/\Q σ' H') X.xe s
noncomputable def PGs (X:Cx) (ts:List Expr) (t:TGs):Prop:=
 ∀ (pins:List (Addr × Obj)) (s:Shared) (σ:St) (H:Hp) (vs:List V) (us:List Value) (Q:St->Hp->Prop),Inv X pins σ H s->Vals vs us->t vs σ H Q->
  wpAny (model X.prog X.w) X.A (assignInOrder ((assignEach ts X.env).map (·.2)) us) (λ _ s'=>∃ σ' H',Inv X pins σ' H' s'/\Q σ' H') X.xe s
noncomputable abbrev TSet:=V->V->V->Hp->(Hp->Prop)->Prop
noncomputable def PSet (X:Cx) (t:TSet):Prop:=
 ∀ (pins:List (Addr × Obj)) (s:Shared) (σ:St) (H:Hp) (o i v:V) (ov iv u:Value) (Q:Hp->Prop),Inv X pins σ H s->RelV o ov->RelV i iv->RelV v u->t o i v H Q->
  wpAny (model X.prog X.w) X.A (setItem ov iv u) (λ _ s'=>∃ H',Inv X pins σ H' s'/\Q H') X.xe s
noncomputable abbrev TIp:=V->V->Hp->VK->Prop
section
variable {X:Cx} {pos:Pos}
noncomputable def gName (i:Nat):TG:=λ v σ H Q=>Q (σ.set i (some v)) H
theorem az {i:Nat} {x:Str} (hN:X.N.Nodup) (hi:X.N[i]?=some x) (hx:Loc X.env.scope x) (hf:X.fn x=true∨X.env.scope.names.lookup x=some .local:=by first | exact .inl rfl | exact .inr rfl | assumption):PG X (.Name x pos) (gName i):=by
 intro pins s σ H v u Q I r h;exact wpAny_assign_Name (eX I hN hi hx r (λ s' I'=>⟨_,H,I',h⟩) hf)
noncomputable def gNil:TGs:=λ vs σ H Q=>vs=[]/\Q σ H
inductive IgCons (t:TG) (u:TGs) (vs:List V) (σ:St) (H:Hp) (Q:St->Hp->Prop):Prop
 | mk (v:_) (r:_) (h1:vs=v::r) (h2:t v σ H λ σ' H'=>u r σ' H' Q):IgCons t u vs σ H Q
noncomputable def gCons (t:TG) (u:TGs):TGs:=λ vs σ H Q=>IgCons t u vs σ H Q
theorem fg:PGs X [] gNil:=by
 intro pins s σ H vs us Q I r h;obtain ⟨e,h⟩:=h;subst e
 cases r;exact assignInOrder_nil ⟨σ,H,I,h⟩
theorem aI {e:Expr} {es:List Expr} {t:TG} {u:TGs} (h1:PG X e t) (h2:PGs X es u)
  (hs:(assignEach (e::es) X.env).map (·.2)=assign e X.env::(assignEach es X.env).map (·.2):=by rfl):PGs X (e::es) (gCons t u):=by
 intro pins s σ H vs us Q I r h;obtain ⟨v,vr,e1,h⟩:=h;subst e1
 cases r with
 | cons r rr=>
  rw [hs];refine assignInOrder_cons (thn (h1 pins s σ H _ _ _ I r h) λ _ s1 ⟨σ1,H1,I1,q1⟩=>?_);exact h2 pins s1 σ1 H1 _ _ Q I1 rr q1
inductive IgTup (K:W.Frag) (n:Nat) (t:TGs) (v:V) (σ:St) (H:Hp) (Q:St->Hp->Prop):Prop
 | mk (a:_) (xs:_) (h1:v=.ref a) (h2:SqT K H a xs) (h3:xs.length=n) (h4:t xs σ H Q):IgTup K n t v σ H Q
noncomputable def gTup (K:W.Frag) (n:Nat) (t:TGs):TG:=λ v σ H Q=>IgTup K n t v σ H Q
theorem pg_tup {es:List Expr} {k:Nat} {t:TGs} {n:Nat} (hc:X.calm=true) (h:PGs X es t)
  (hn:(assignEach es X.env).length=n:=by rfl) (hst:(assignEach es X.env).findIdx? (·.1)=none:=by rfl):PG X (.Tuple es k pos) (gTup X.K n t):=by
 intro pins s σ H v u Q I r hw;obtain ⟨a,xs,e1,hq,hl,hw⟩:=hw;subst e1
 cases r;obtain ⟨its,rv,ht,hz⟩:=I.tuple hq;refine assign_Tuple_tuple (I.ok.hd hc) ht (by simp [hn,<- hl,rv.length]) hst λ h' hx=>?_;have I1:Inv X pins σ H { s with heap:=h' }:=I.kept (t':=s.toks) λ b o e=>hx b o (gF (fT e)) e;exact h pins _ σ H xs _ Q I1 (by simpa using rv) hw
noncomputable def gSub (to ti:TE) (t:TSet):TG:=λ v σ H Q=>to σ H λ o H1=>ti σ H1 λ i H2=>t o i v H2 λ H3=>Q σ H3
theorem pg_sub {o i:Expr} {to ti:TE} {t:TSet} (ho:PE X o to) (hi:PE X i ti) (hs:PSet X t)
  (ha:∀ v,assign (.Subscript o i pos) X.env v=(do
   let ov <- holding [v] (eval o X.env)
   let iv <- holding [v,ov] (eval i X.env)
   standAt pos
   holding [v,ov,iv] (setItem ov iv v)
   release [v,ov,iv] []):=by intro _;rfl):PG X (.Subscript o i pos) (gSub to ti t):=by
 intro pins s σ H v u Q I r h;rw [ha];refine fH (iq (thn (ho pins s σ H _ I h) λ ov s1 ⟨x,H1,I1,r1,q1⟩=>?_));refine fH (iq (thn (hi pins s1 σ H1 _ I1 q1) λ iv s2 ⟨y,H2,I2,r2,q2⟩=>?_));refine fH (ir (fH (iq (thn (hs pins s2 σ H2 x y v ov iv u _ I2 r1 r2 r q2) λ _ s3 ⟨H3,I3,q3⟩=>?_))));exact wpAny_release ⟨σ,H3,I3,q3⟩
noncomputable def tAsg (te:TE) (g:TG):TS:=λ D σ H=>te σ H λ x H1=>g x σ H1 D.nx
theorem ps_asg {tg e:Expr} {te:TE} {g:TG} (he:PE X e te) (hg:PG X tg g) (hs:swapsWithSole [tg] e pos.line X.env=pure false:=by rfl) (hw:swappedStores [tg] e X.env=pure none:=by rfl)
  (h1:(assignEach [tg] X.env).map (·.2)=[assign tg X.env]:=by rfl):PS X (.Assign [tg] e pos) (tAsg te g):=by
 intro pins s σ H D I h;refine wpAny_Assign_stores (thn (he pins s σ H _ I h) λ v s1 ⟨x,H1,I1,r1,q1⟩=>?_) hs hw;rw [h1];exact thn (hg pins s1 σ H1 x v _ I1 r1 q1) λ _ s2 q=>q
theorem al {i:Nat} {x:Str} {e:Expr} {te:TE} {pos':Pos} (hN:X.N.Nodup) (hi:X.N[i]?=some x) (hx:Loc X.env.scope x) (he:PE X e te) (hs:swapsWith e (some (.Name x pos')) pos.line X.env=pure false:=by rfl) (hf:X.fn x=true∨X.env.scope.names.lookup x=some .local:=by first | exact .inl rfl | exact .inr rfl | assumption) :
  PS X (.Assign [.Name x pos'] e pos) (tAsg te (gName i)):=by
 intro pins s σ H D I h;refine wpAny_Assign_Name (thn (he pins s σ H _ I h) λ v s1 ⟨y,H1,I1,r1,q1⟩=>?_) hs;exact eX I1 hN hi hx r1 (λ s2 I2=>⟨_,H1,I2,q1⟩) hf
inductive ItPar (i:Nat) (j:Nat) (D:Ends) (σ:St) (vs:List V) (H1:Hp):Prop
 | mk (v:_) (w:_) (h1:vs=[v,w]) (h2:D.nx ((σ.set i (some v)).set j (some w)) H1):ItPar i j D σ vs H1
end
section
variable {X:Cx} {pos:Pos}
noncomputable def tWhile (c:TT) (tb:TS):TS:=λ D σ H=>∃ W:Nat->St->Hp->Prop,(∃ m,W m σ H)/\∀ m σ H,W m σ H->
 c σ H λ b H1=>if b=true then ∃ N:St->Hp->Prop,(∀ σ' H',N σ' H'->∃ m',m'<m/\W m' σ' H')/\tb { D with nx:=N,ct:=N,bk:=D.nx } σ H1 else D.nx σ H1
theorem ps_while {c:Expr} {body:List Stmt} {tc:TT} {tb:TS} (hp:PassesOwn (model X.prog X.w) X.A X.env X.xe) (hc:PT X c tc) (hb:PSs X body tb):PS X (.While c body [] pos) (tWhile tc tb):=by
 intro pins s σ H D I h;obtain ⟨W,⟨m0,w0⟩,turn⟩:=h;refine wpAny_While (codeAny_whileLoop (λ n s'=>∃ σ' H',Inv X pins σ' H' s'/\W n σ' H') ?_ m0 ⟨σ,H,I,w0⟩);rintro n s1 ⟨σ1,H1,I1,w1⟩;refine wpAny_passesOwn hp (thn (hc pins s1 σ1 H1 _ I1 (turn n σ1 H1 w1)) λ b s2 ⟨H2,I2,q2⟩=>?_)
 cases b with
 | true=>
  obtain ⟨N,hN,q2⟩:=q2;rw [if_pos rfl];refine wpAny_passesOwn hp (thn (hb pins s2 σ1 H2 _ I2 q2) λ f s3 q3=>?_)
  cases f with
  | next=>
   obtain ⟨σ3,H3,I3,n3⟩:=q3;obtain ⟨m',hm,w3⟩:=hN σ3 H3 n3;exact ⟨m',hm,σ3,H3,I3,w3⟩
  | cont=>
   obtain ⟨σ3,H3,I3,n3⟩:=q3;obtain ⟨m',hm,w3⟩:=hN σ3 H3 n3;exact ⟨m',hm,σ3,H3,I3,w3⟩
  | brk=>exact q3
  | ret v=>exact q3
 | false=>
  rw [if_neg fW];exact wpAny_execs_nil ⟨σ1,H2,I2,q2⟩
end
structure It where
 go:Nat->Hp->Prop
 yld:Nat->Hp->V->Hp->Prop
 stop:Nat->Hp->Prop
noncomputable def FpOk (X:Cx) (pins:List (Addr × Obj)) (H:Hp) (b:Addr):Prop:=
 H b=none/\b≠X.env.locals/\b ∉ X.fs/\(b∈X.ex∨X.s₀.heap.objs.size<=b)/\(∀ x c,X.env.cells.lookup x=some c->c≠b)/\∀ p∈X.pn++pins,p.1≠b
theorem Inv.fpOk {X:Cx} {pins:List (Addr × Obj)} {σ:St} {H H':Hp} {s:Shared} {b:Addr} (I:Inv X pins σ H s) (hb:s.heap.objs.size<=b) (hn:H' b=none):FpOk X pins H' b:=by
 refine ⟨hn,Nat.ne_of_gt (gi I.lt hb),I.nofs hb,.inr (fO I.sz hb),λ x c e z=>?_,λ p hp z=>?_⟩
 ·obtain ⟨v,q⟩:=I.cell x c e;exact absurd (gi q.lt (by rw [z];exact hb)) (gY _)
 ·exact absurd (gi (fT (I.pin p hp).1) (by rw [z];exact hb)) (gY _)
structure Turn (P:Program) (w:World) (K:W.Frag) (tg:Expr) (J:It) (fp:List Addr) (it:Addr) (tn:Nat->Heap->Prop):Prop where
 mem:it∈fp
 obj:∀ i h,tn i h->∀ b∈fp,∃ o,h.get? b=some o/\∀ v,o.data≠.cell v
 keep:∀ i h h',tn i h->(∀ b∈fp,∀ o,h.get? b=some o->h'.get? b=some o)->tn i h'
 item:∀ (X:Cx),X.prog=P->X.w=w->X.K=K->X.calm=true->∀ (i:Nat) (pins:List (Addr × Obj)) (s:Shared) (σ:St) (H:Hp) (E:Value->Shared->Prop),Inv X pins σ H s->(∀ b∈fp,FpOk X pins H b)->tn i s.heap->J.go i H->
  wpAny (model P w) X.A (pyNext (.ref it)) (λ r s1=>∃ u,r=some u/\
   wpAny (model P w) X.A (letOwnedTupleGo tg (.ref it) u) (λ _ s2=>∃ x H',Inv X pins σ H' s2/\RelV x u/\J.yld i H x H'/\tn (i+1) s2.heap/\∀ b∈fp,H' b=none) E s1) E s
 done:∀ (X:Cx),X.prog=P->X.w=w->X.K=K->X.calm=true->∀ (i:Nat) (pins:List (Addr × Obj)) (s:Shared) (σ:St) (H:Hp) (E:Value->Shared->Prop),Inv X pins σ H s->(∀ b∈fp,FpOk X pins H b)->tn i s.heap->J.stop i H->
  wpAny (model P w) X.A (pyNext (.ref it)) (λ r s1=>r=none/\Inv X pins σ H s1) E s
 self:∀ (A:Around) (i:Nat) (s:Shared) (Q:Value->Shared->Prop) (E:Value->Shared->Prop),tn i s.heap->Q (.ref it) s->wpAny (model P w) A (pyIter (.ref it)) Q E s
noncomputable abbrev TI:=St->Hp->(It->Hp->Prop)->Prop
noncomputable def PIE (X:Cx) (pins:List (Addr × Obj)) (σ:St) (tg:Expr) (R:It->Hp->Prop) (itv:Value) (s2:Shared):Prop:=
 ∃ (it:Addr) (fp:List Addr) (tn:Nat->Heap->Prop) (J:It) (H':Hp),itv=.ref it/\Inv X pins σ H' s2/\Turn X.prog X.w X.K tg J fp it tn/\tn 0 s2.heap/\(∀ b∈fp,FpOk X pins H' b)/\R J H'
noncomputable def PI (X:Cx) (tg iter:Expr) (wi:TI):Prop:=
 ∀ (pins:List (Addr × Obj)) (s:Shared) (σ:St) (H:Hp) (R:It->Hp->Prop),Inv X pins σ H s->wi σ H R->
  wpAny (model X.prog X.w) X.A (eval iter X.env) (λ v s1=>wpAny (model X.prog X.w) X.A (pyIter v) (PIE X pins σ tg R) X.xe s1) X.xe s
theorem go_of {M:Model} {A:Around} {E:Value->Shared->Prop} {s:Shared} {tg:Expr} {it:Addr} {u:Value} {o:Obj} {n:String} {vs:Array Value} {Q:Unit->Shared->Prop} (ho:s.heap.get? it=some o) (hc:o.cls=.type n) (hd:o.data=.fields vs)
    (hn:["enumerate","zip","dict_itemiterator","dict_reverseitemiterator","odict_iterator","itertools.zip_longest","itertools.pairwise"].contains n=false) (hQ:Q () s):wpAny M A (letOwnedTupleGo tg (.ref it) u) Q E s:=by
  unfold letOwnedTupleGo
  cases tg <;> first
    | exact fS hQ
    | (cases u <;> first
        | exact fS hQ
        | (refine fH (wpAny_load ho ?_)
           rw [hc,hd];show wpAny M A (if (["enumerate","zip","dict_itemiterator","dict_reverseitemiterator","odict_iterator","itertools.zip_longest","itertools.pairwise"].contains n && vs[0]? == some (rawInt _))=true then _ else _) Q E s;rw [if_neg (by intro h;rw [hn,Bool.false_and] at h;cases h)];exact fS hQ))
noncomputable def Itl (K:W.Frag) (a:Addr):It:=
 ⟨λ i H=>∃ xs x,SqL K H a xs/\xs[i]?=some x,λ i H x H'=>H'=H/\∀ xs,SqL K H a xs->xs[i]?=some x,λ i H=>∃ xs,SqL K H a xs/\xs.length<=i⟩
noncomputable def Itt (K:W.Frag) (a:Addr):It:=
 ⟨λ i H=>∃ xs x,SqT K H a xs/\xs[i]?=some x,λ i H x H'=>H'=H/\∀ xs,SqT K H a xs->xs[i]?=some x,λ i H=>∃ xs,SqT K H a xs/\xs.length<=i⟩
noncomputable def Itr (lo:Int) (n:Nat):It:=⟨λ i _=>i<n,λ i H x H'=>H'=H/\x=.int (lo+i),λ i _=>n<=i⟩
theorem turn_list {P:Program} {w:World} {K:W.Frag} {tg:Expr} (a it:Addr):Turn P w K tg (Itl K a) [it] it (λ i h=>h.IsListIter it a i) where
 mem:=by simp
 obj:=λ i h st b hb=>by
  have e:b=it:=by simpa using hb
  subst e;obtain ⟨o,e,c,d⟩:=st;exact ⟨o,e,λ v z=>by rw [d] at z;cases z⟩
 keep:=λ i h h' st k=>st.at λ o e=>k it (by simp) o e
 item:=by
  intro X hP hw hK hc i pins s σ H E I hf st hg;subst hP hw hK;obtain ⟨xs,x,hq,hx⟩:=hg;obtain ⟨its,rv,p,hz⟩:=I.list hq;obtain ⟨u,hu,ru⟩:=rv.get hx;obtain ⟨f0,f1,f2,f3,f4,f5⟩:=hf it (by simp);refine wpAny_pyNext_list_item st p.isList (x:=u) (by simpa using hu) λ h' st' sb=>?_;have I1:Inv X pins σ H { s with heap:=h' }:=I.turned (t':=s.toks) (λ b o hb e=>(sb.2 b hb).trans e) f0 f1 f3 f4 f5;obtain ⟨o,e,c,d⟩:=id st';exact ⟨u,rfl,go_of (s:={ s with heap:=h' }) e c d (by decide) ⟨x,H,I1,ru,⟨rfl,λ ys hy=>by rw [I.list_inj hy hq];exact hx⟩,st',λ b hb=>(hf b hb).1⟩⟩
 done:=by
  intro X hP hw hK hc i pins s σ H E I hf st hg;subst hP hw hK;obtain ⟨xs,hq,hx⟩:=hg;obtain ⟨its,rv,p,hz⟩:=I.list hq;obtain ⟨f0,f1,f2,f3,f4,f5⟩:=hf it (by simp);have hl:=rv.length;exact wpAny_pyNext_list_end (I.ok.hd hc) st p.isList (by simp;omega) λ h' eb=>⟨rfl,I.turned (t':=s.toks) (λ b o hb e=>eb b o hb e) f0 f1 f3 f4 f5⟩
 self:=λ _ _ _ _ _ st h=>wpAny_pyIter_listiter st h
theorem turn_tuple {P:Program} {w:World} {K:W.Frag} {tg:Expr} (a it:Addr):Turn P w K tg (Itt K a) [it] it (λ i h=>h.IsTupleIter it a i) where
 mem:=by simp
 obj:=λ i h st b hb=>by
  have e:b=it:=by simpa using hb
  subst e;obtain ⟨o,e,c,d⟩:=st;exact ⟨o,e,λ v z=>by rw [d] at z;cases z⟩
 keep:=λ i h h' st k=>st.at λ o e=>k it (by simp) o e
 item:=by
  intro X hP hw hK hc i pins s σ H E I hf st hg;subst hP hw hK;obtain ⟨xs,x,hq,hx⟩:=hg;obtain ⟨its,rv,p,hz⟩:=I.tuple hq;obtain ⟨u,hu,ru⟩:=rv.get hx;obtain ⟨f0,f1,f2,f3,f4,f5⟩:=hf it (by simp);refine wpAny_pyNext_tuple_item st (show s.heap.IsTuple a its.toArray from p) (x:=u) (by simpa using hu) λ h' st' sb=>?_;have I1:Inv X pins σ H { s with heap:=h' }:=I.turned (t':=s.toks) (λ b o hb e=>(sb.2 b hb).trans e) f0 f1 f3 f4 f5;obtain ⟨o,e,c,d⟩:=id st';exact ⟨u,rfl,go_of (s:={ s with heap:=h' }) e c d (by decide) ⟨x,H,I1,ru,⟨rfl,λ ys hy=>by rw [I.tuple_inj hy hq];exact hx⟩,st',λ b hb=>(hf b hb).1⟩⟩
 done:=by
  intro X hP hw hK hc i pins s σ H E I hf st hg;subst hP hw hK;obtain ⟨xs,hq,hx⟩:=hg;obtain ⟨its,rv,p,hz⟩:=I.tuple hq;obtain ⟨f0,f1,f2,f3,f4,f5⟩:=hf it (by simp);have hl:=rv.length;exact wpAny_pyNext_tuple_end (I.ok.hd hc) st (show s.heap.IsTuple a its.toArray from p) (by simp;omega) λ h' eb=>⟨rfl,I.turned (t':=s.toks) (λ b o hb e=>eb b o hb e) f0 f1 f3 f4 f5⟩
 self:=λ _ _ _ _ _ st h=>wpAny_pyIter_tupleiter st h
theorem turn_range {P:Program} {w:World} {K:W.Frag} {tg:Expr} (it:Addr) (lo:Int) (n:Nat):Turn P w K tg (Itr lo n) [it] it (λ i h=>IsRangeIter h it (lo+(i:Nat)*1) ((n:Int)-(i:Nat)) 1) where
 mem:=by simp
 obj:=λ i h st b hb=>by
  have e:b=it:=by simpa using hb
  subst e
  exact ⟨_,st,λ v z=>by
   have z':Data.fields _=Data.cell v:=z
   cases z'⟩
 keep:=λ i h h' st k=>k it (by simp) _ st
 item:=by
  intro X hP hw hK hc i pins s σ H E I hf st hg;subst hP hw hK;obtain ⟨f0,f1,f2,f3,f4,f5⟩:=hf it (by simp);have W:=Walks.range (prog:=X.prog) (w:=X.w) (I.ok.hd hc) it lo 1 n;refine W.item i s _ _ hg st λ v h' tk hv st' kk=>?_;obtain ⟨t,rfl⟩:=hv;have I1:Inv X pins σ H { s with heap:=h',toks:=tk }:=I.turned (λ b o hb e=>kk b o (by simpa using hb) e) f0 f1 f3 f4 f5;refine ⟨_,rfl,go_of (s:={ s with heap:=h',toks:=tk }) (n:="range_iterator") st' rfl rfl (by decide) ⟨.int (lo+i),H,I1,⟨t,?_⟩,⟨rfl,rfl⟩,st',λ b hb=>(hf b hb).1⟩⟩;rw [Int.mul_one]
 done:=by
  intro X hP hw hK hc i pins s σ H E I hf st hg;subst hP hw hK;obtain ⟨f0,f1,f2,f3,f4,f5⟩:=hf it (by simp);exact wpAny_pyNext_range_end (I.ok.hd hc) st (by have:n<=i:=hg;omega) λ h' eb=>⟨rfl,I.turned (t':=s.toks) (λ b o hb e=>eb b o hb e) f0 f1 f3 f4 f5⟩
 self:=λ _ _ _ _ _ st h=>wpAny_pyIter_rangeiter st h
end L2
namespace L2
open PySem PySem.Spec PyProof.Rows
section
variable {X:Cx} {tg:Expr}
inductive IiList (K:W.Frag) (R:It->Hp->Prop) (x:V) (H1:Hp):Prop
 | mk (a:_) (h1:x=.ref a) (h2:(∃ xs,SqL K H1 a xs)) (h3:R (Itl K a) H1):IiList K R x H1
noncomputable def iList (K:W.Frag) (tl:TE):TI:=λ σ H R=>tl σ H λ x H1=>IiList K R x H1
inductive IiTup (K:W.Frag) (R:It->Hp->Prop) (x:V) (H1:Hp):Prop
 | mk (a:_) (h1:x=.ref a) (h2:(∃ xs,SqT K H1 a xs)) (h3:R (Itt K a) H1):IiTup K R x H1
noncomputable def iTup (K:W.Frag) (tl:TE):TI:=λ σ H R=>tl σ H λ x H1=>IiTup K R x H1
theorem cb {l:Expr} {tl:TE} (hl:PE X l tl):PI X tg l (iList X.K tl):=by
 intro pins s σ H R I h;refine thn (hl pins s σ H _ I h) λ v s1 ⟨x,H1,I1,r1,q1⟩=>?_;obtain ⟨a,e,⟨xs,hq⟩,q⟩:=q1;subst e
 cases r1;obtain ⟨its,rv,p,hz⟩:=I1.list hq;refine wpAny_pyIter_list p.isList ?_;refine ⟨s1.heap.objs.size,[s1.heap.objs.size],_,_,H1,rfl,I1.kept (t':=s1.toks) λ b o e=>fJ _ e,turn_list a _,⟨_,gm _ rfl,rfl,rfl⟩,λ b hb=>?_,q⟩;have e:b=s1.heap.objs.size:=by simpa using hb
 subst e;exact I1.fpOk (fM _) (I1.hok.fresh (fM _))
theorem pi_tup {l:Expr} {tl:TE} (hl:PE X l tl):PI X tg l (iTup X.K tl):=by
 intro pins s σ H R I h;refine thn (hl pins s σ H _ I h) λ v s1 ⟨x,H1,I1,r1,q1⟩=>?_;obtain ⟨a,e,⟨xs,hq⟩,q⟩:=q1;subst e
 cases r1;obtain ⟨its,rv,p,hz⟩:=I1.tuple hq;refine wpAny_pyIter_tuple (show s1.heap.IsTuple a its.toArray from p) ?_;refine ⟨s1.heap.objs.size,[s1.heap.objs.size],_,_,H1,rfl,I1.kept (t':=s1.toks) λ b o e=>fJ _ e,turn_tuple a _,⟨_,gm _ rfl,rfl,rfl⟩,λ b hb=>?_,q⟩;have e:b=s1.heap.objs.size:=by simpa using hb
 subst e;exact I1.fpOk (fM _) (I1.hok.fresh (fM _))
theorem range_it {pins:List (Addr × Obj)} {σ:St} {H:Hp} {s:Shared} {R:It->Hp->Prop} {E:Value->Shared->Prop} {lo hi:Int} {t u v:Tok} {tk:Nat} (I:Inv X pins σ H s) (h1:-(2 ^ 62)<=lo) (h2:lo<2 ^ 62) (h3:-(2 ^ 62)<=hi) (h4:hi<2 ^ 62)
  (q:R (Itr lo (hi-lo).toNat) H):wpAny (model X.prog X.w) X.A (pyIter (.ref s.heap.objs.size)) (PIE X pins σ tg R) E { s with heap:=s.heap.push { cls:=.type "range",data:=.fields #[.int lo t,.int hi u,.int 1 v] },toks:=tk }:=by
 refine wpAny_pyIter_range (IsRange.new ..) (small_one h1 h2 h3 h4) ?_;have I1:Inv X pins σ H { s with heap:=s.heap.push { cls:=.type "range",data:=.fields #[.int lo t,.int hi u,.int 1 v] },toks:=tk }:=I.kept λ b o e=>fJ _ e
 refine ⟨(s.heap.push { cls:=.type "range",data:=.fields #[.int lo t,.int hi u,.int 1 v] }).objs.size,[(s.heap.push { cls:=.type "range",data:=.fields #[.int lo t,.int hi u,.int 1 v] }).objs.size],_,_,H,rfl,
  I1.kept (t':=tk) λ b o e=>fJ _ e,turn_range _ lo (hi-lo).toNat,?_,λ b hb=>?_,q⟩
 ·have e1:lo+((0:Nat):Int)*1=lo:=by simp
  have e2:(((hi-lo).toNat:Nat):Int)-((0:Nat):Int)=Builtin.Range.rangeSize lo hi 1:=by rw [rangeSize_one];split <;> omega
  show IsRangeIter _ _ (lo+((0:Nat):Int)*1) ((((hi-lo).toNat:Nat):Int)-((0:Nat):Int)) 1;rw [e1,e2];exact gm _ rfl
 ·have e:b=(s.heap.push { cls:=.type "range",data:=.fields #[.int lo t,.int hi u,.int 1 v] }).objs.size:=by simpa using hb
  subst e;exact I1.fpOk (fM _) (I1.hok.fresh (fM _))
noncomputable def iRng1 (ta:TA):TI:=λ σ H R=>ta σ H λ vs H1=>∃ j:Int,vs=[.int j]/\-(2 ^ 62)<=j/\j<2 ^ 62/\R (Itr 0 j.toNat) H1
theorem aU {a:Expr} {ta:TA} {p pos:Pos} (hg:Gl X "range") (hm:X.mg "range"=none) (ha:PA X [a] ta) (hs:starEach [a] X.env=[(false,eval a X.env)]:=by rfl):PI X tg (.Call (.Name "range" p) [a] [] pos) (iRng1 ta):=by
 intro pins s σ H R I h;refine Call_ (ld_blt I hg hm boot_range (PyProof.Rows.callWith_type1 (thn (ha pos pins s σ H _ I h) λ us s1 ⟨vs,H1,I1,r1,q1⟩=>?_) hs rfl));obtain ⟨j,e,q1,q2,q⟩:=q1;subst e
 cases r1 with
 | cons r rr=>
  cases rr;obtain ⟨t,rfl⟩:=r;exact call_range_1 (range_it I1 (by omega) (by omega) q1 q2 (by simpa using q))
noncomputable def tFor (wi:TI) (g:TG) (tb:TS):TS:=λ D σ H=>wi σ H λ J H1=>∃ W:Nat->Nat->St->Hp->Prop,(∃ m,W 0 m σ H1)/\∀ i m σ H,W i m σ H->
 (J.stop i H/\D.nx σ H)∨(J.go i H/\∃ N:St->Hp->Prop,(∀ σ' H',N σ' H'->∃ m',m'<m/\W (i+1) m' σ' H')/\∀ x H',J.yld i H x H'->g x σ H' λ σ2 H2=>tb { D with nx:=N,ct:=N,bk:=D.nx } σ2 H2)
noncomputable def pinsAt (fp:List Addr) (h:Heap):List (Addr × Obj):=fp.filterMap λ b=>(h.get? b).map λ o=>(b,o)
theorem b7 {fp:List Addr} {h:Heap} {b:Addr} {o:Obj} (hb:b∈fp) (e:h.get? b=some o):(b,o)∈pinsAt fp h:=List.mem_filterMap.mpr ⟨b,hb,by rw [e];rfl⟩
theorem of_pinsAt {fp:List Addr} {h:Heap} {p:Addr × Obj} (hp:p∈pinsAt fp h):p.1∈fp/\h.get? p.1=some p.2:=by
 obtain ⟨b,hb,e⟩:=List.mem_filterMap.mp hp
 cases q:h.get? b with
 | none=>rw [q] at e;cases e
 | some o=>
  rw [q] at e;have e':(b,o)=p:=f9 e;subst e';exact ⟨hb,q⟩
theorem Inv.pinned {pins:List (Addr × Obj)} {σ:St} {H:Hp} {s:Shared} {fp:List Addr} (I:Inv X pins σ H s) (hf:∀ b∈fp,FpOk X pins H b) (ho:∀ b∈fp,∃ o,s.heap.get? b=some o/\∀ v,o.data≠.cell v):Inv X (pins++pinsAt fp s.heap) σ H s:=
 I.pins_of λ p hp=>(List.mem_append.mp hp).elim (λ z=>I.pin p (gq _ z)) λ z=>by
  obtain ⟨hb,e⟩:=of_pinsAt z;obtain ⟨f0,f1,f2,_⟩:=hf p.1 hb;obtain ⟨o,e',d⟩:=ho p.1 hb;rw [e] at e';cases e';exact ⟨e,f0,f1,f2,d⟩
theorem Inv.unpinned {pins pl:List (Addr × Obj)} {σ:St} {H:Hp} {s:Shared} (I:Inv X (pins++pl) σ H s):Inv X pins σ H s:=I.pins_of λ p hp=>I.pin p (gq _ (List.mem_append_left _ hp))
theorem bK {iter:Expr} {body:List Stmt} {wi:TI} {g:TG} {tb:TS} {pos:Pos} (hp:PassesOwn (model X.prog X.w) X.A X.env X.xe) (hc:X.calm=true) (hi:PI X tg iter wi) (hg:PG X tg g) (hb:PSs X body tb)
  (hs:∀ x,foldedSetIterable iter X.env x=pure x:=by intro _;rfl):PS X (.For tg iter body [] pos) (tFor wi g tb):=by
 intro pins s σ H D I h;refine wpAny_For (thn (hi pins s σ H _ I h) λ v s1 h1=>thn h1 λ itv s2 h2=>?_) hs;obtain ⟨it,fp,tn,J,H2,e,I2,T,st2,f2,W,⟨m0,w0⟩,turn⟩:=h2;subst e;have stat:∀ {H':Hp},(∀ b∈fp,H' b=none)->∀ b∈fp,FpOk X pins H' b:=λ hn b hb=>⟨hn b hb,(f2 b hb).2⟩;refine codeAny_forLoop_any (λ n s'=>∃ i σ' H',Inv X pins σ' H' s'/\tn i s'.heap/\(∀ b∈fp,H' b=none)/\W i n σ' H') ?_ m0 ⟨0,σ,H2,I2,st2,λ b hb=>(f2 b hb).1,w0⟩;rintro n s3 ⟨i,σ3,H3,I3,st3,fr3,w3⟩;rcases turn i n σ3 H3 w3 with ⟨stop,qn⟩ | ⟨go,N,hN,step⟩
 ·refine wpAny_passesOwn hp (thn (T.done X rfl rfl rfl hc i pins s3 σ3 H3 X.xe I3 (stat fr3) st3 stop) λ r s4 ⟨hr,I4⟩=>?_);subst hr;exact wpAny_execs_nil ⟨σ3,H3,I4,qn⟩
 ·refine wpAny_passesOwn hp (thn (T.item X rfl rfl rfl hc i pins s3 σ3 H3 X.xe I3 (stat fr3) st3 go) λ r s4 ⟨u,hr,h4⟩=>?_);subst hr;refine wpAny_passesOwn hp (thn h4 λ _ s5 ⟨x,H5,I5,r5,y5,st5,fr5⟩=>?_);have I5':=I5.pinned (stat fr5) (T.obj _ _ st5);refine wpAny_passesOwn hp (thn (hg _ s5 σ3 H5 x u _ I5' r5 (step x H5 y5)) λ _ s6 ⟨σ6,H6,I6,q6⟩=>?_);refine wpAny_passesOwn hp (thn (hb _ s6 σ6 H6 _ I6 q6) λ f s7 q7=>?_)
  have again:∀ {σ7:St} {H7:Hp},Inv X (pins++pinsAt fp s5.heap) σ7 H7 s7->N σ7 H7->∃ m,m<n/\∃ i σ' H',Inv X pins σ' H' s7/\tn i s7.heap/\(∀ b∈fp,H' b=none)/\W i m σ' H':=λ {σ7 H7} I7 n7=>by
   obtain ⟨m',hm,w7⟩:=hN σ7 H7 n7;refine ⟨m',hm,i+1,σ7,H7,I7.unpinned,T.keep _ _ _ st5 λ b hb o e=>(I7.pin (b,o) (gq _ (gq _ (b7 hb e)))).1,λ b hb=>?_,w7⟩;obtain ⟨o,e,d⟩:=T.obj _ _ st5 b hb;exact (I7.pin (b,o) (gq _ (gq _ (b7 hb e)))).2.1
  cases f with
  | next=>obtain ⟨σ7,H7,I7,n7⟩:=q7;exact again I7 n7
  | cont=>obtain ⟨σ7,H7,I7,n7⟩:=q7;exact again I7 n7
  | brk=>obtain ⟨σ7,H7,I7,q7⟩:=q7;exact ⟨σ7,H7,I7.unpinned,q7⟩
  | ret v=>obtain ⟨x7,σ7,H7,I7,r7,q7⟩:=q7;exact ⟨x7,σ7,H7,I7.unpinned,r7,q7⟩
end
theorem bT {K:W.Frag} {a:Addr} {xs:List V} {g:TG} {tb:TS} {D:Ends} {σ:St} {H:Hp} (Pv:Nat->St->Hp->Prop) (h0:Pv 0 σ H) (hl:∀ i σ H,i<=xs.length->Pv i σ H->SqL K H a xs)
  (hs:∀ i x σ H,xs[i]?=some x->Pv i σ H->g x σ H λ σ2 H2=>tb { D with nx:=Pv (i+1),ct:=Pv (i+1),bk:=D.nx } σ2 H2) (hd:∀ σ H,Pv xs.length σ H->D.nx σ H) :
  ∃ W:Nat->Nat->St->Hp->Prop,(∃ m,W 0 m σ H)/\∀ i m σ H,W i m σ H->
   ((Itl K a).stop i H/\D.nx σ H)∨((Itl K a).go i H/\∃ N:St->Hp->Prop,(∀ σ' H',N σ' H'->∃ m',m'<m/\W (i+1) m' σ' H')/\∀ x H',(Itl K a).yld i H x H'->g x σ H' λ σ2 H2=>tb { D with nx:=N,ct:=N,bk:=D.nx } σ2 H2):=by
 refine ⟨λ i m σ H=>m=xs.length-i/\i<=xs.length/\Pv i σ H,⟨xs.length,by simp,fY _,h0⟩,?_⟩;rintro i m σ H ⟨rfl,hi,p⟩;have q:=hl i σ H hi p;by_cases hlt:i<xs.length
 ·refine .inr ⟨⟨xs,xs[i],q,by simp [hlt]⟩,Pv (i+1),λ σ' H' p'=>⟨xs.length-(i+1),by omega,rfl,hlt,p'⟩,λ x H' y=>?_⟩;obtain ⟨e,y⟩:=y;subst e;exact hs i x σ _ (y xs q) p
 ·have e:i=xs.length:=by omega
  subst e;exact .inl ⟨⟨xs,q,fM _⟩,hd σ H p⟩
theorem for_tup {K:W.Frag} {a:Addr} {xs:List V} {g:TG} {tb:TS} {D:Ends} {σ:St} {H:Hp} (Pv:Nat->St->Hp->Prop) (h0:Pv 0 σ H) (hl:∀ i σ H,i<=xs.length->Pv i σ H->SqT K H a xs)
  (hs:∀ i x σ H,xs[i]?=some x->Pv i σ H->g x σ H λ σ2 H2=>tb { D with nx:=Pv (i+1),ct:=Pv (i+1),bk:=D.nx } σ2 H2) (hd:∀ σ H,Pv xs.length σ H->D.nx σ H) :
  ∃ W:Nat->Nat->St->Hp->Prop,(∃ m,W 0 m σ H)/\∀ i m σ H,W i m σ H->
   ((Itt K a).stop i H/\D.nx σ H)∨((Itt K a).go i H/\∃ N:St->Hp->Prop,(∀ σ' H',N σ' H'->∃ m',m'<m/\W (i+1) m' σ' H')/\∀ x H',(Itt K a).yld i H x H'->g x σ H' λ σ2 H2=>tb { D with nx:=N,ct:=N,bk:=D.nx } σ2 H2):=by
 refine ⟨λ i m σ H=>m=xs.length-i/\i<=xs.length/\Pv i σ H,⟨xs.length,by simp,fY _,h0⟩,?_⟩;rintro i m σ H ⟨rfl,hi,p⟩;have q:=hl i σ H hi p;by_cases hlt:i<xs.length
 ·refine .inr ⟨⟨xs,xs[i],q,by simp [hlt]⟩,Pv (i+1),λ σ' H' p'=>⟨xs.length-(i+1),by omega,rfl,hlt,p'⟩,λ x H' y=>?_⟩;obtain ⟨e,y⟩:=y;subst e;exact hs i x σ _ (y xs q) p
 ·have e:i=xs.length:=by omega
  subst e;exact .inl ⟨⟨xs,q,fM _⟩,hd σ H p⟩
theorem eC {lo:Int} {n:Nat} {g:TG} {tb:TS} {D:Ends} {σ:St} {H:Hp} (Pv:Nat->St->Hp->Prop) (h0:Pv 0 σ H)
  (hs:∀ i σ H,i<n->Pv i σ H->g (.int (lo+i)) σ H λ σ2 H2=>tb { D with nx:=Pv (i+1),ct:=Pv (i+1),bk:=D.nx } σ2 H2) (hd:∀ σ H,Pv n σ H->D.nx σ H) :
  ∃ W:Nat->Nat->St->Hp->Prop,(∃ m,W 0 m σ H)/\∀ i m σ H,W i m σ H->
   ((Itr lo n).stop i H/\D.nx σ H)∨((Itr lo n).go i H/\∃ N:St->Hp->Prop,(∀ σ' H',N σ' H'->∃ m',m'<m/\W (i+1) m' σ' H')/\∀ x H',(Itr lo n).yld i H x H'->g x σ H' λ σ2 H2=>tb { D with nx:=N,ct:=N,bk:=D.nx } σ2 H2):=by
 refine ⟨λ i m σ H=>m=n-i/\i<=n/\Pv i σ H,⟨n,by simp,fY _,h0⟩,?_⟩;rintro i m σ H ⟨rfl,hi,p⟩;by_cases hlt:i<n
 ·refine .inr ⟨hlt,Pv (i+1),λ σ' H' p'=>⟨n-(i+1),by omega,rfl,hlt,p'⟩,λ x H' y=>?_⟩;obtain ⟨e,y⟩:=y;subst e y;exact hs i σ _ hlt p
 ·have e:i=n:=by omega
  subst e;exact .inl ⟨fM _,hd σ H p⟩
theorem while_by {c:TT} {tb:TS} {D:Ends} {σ:St} {H:Hp} (Pv:St->Hp->Prop) (μ:St->Hp->Nat) (h0:Pv σ H)
  (hs:∀ σ H,Pv σ H->c σ H λ b H1=>if b=true then tb { D with nx:=λ σ' H'=>Pv σ' H'/\μ σ' H' < μ σ H,ct:=λ σ' H'=>Pv σ' H'/\μ σ' H' < μ σ H,bk:=D.nx } σ H1 else D.nx σ H1)
  (mono:∀ σ H Q Q',(∀ b H1,Q b H1->Q' b H1)->c σ H Q->c σ H Q'):tWhile c tb D σ H:=by
 refine ⟨λ m σ H=>m = μ σ H/\Pv σ H,⟨_,rfl,h0⟩,?_⟩;rintro m σ H ⟨rfl,p⟩;refine mono σ H _ _ (λ b H1 q=>?_) (hs σ H p)
 cases b with
 | true=>exact ⟨_,λ σ' H' ⟨p',l⟩=>⟨_,l,rfl,p'⟩,q⟩
 | false=>exact q
end L2
namespace L2
open PySem PySem.Spec PyProof.Rows
noncomputable abbrev R2:=V->V->Hp->VK->Prop
noncomputable def OpR (X:Cx) (f:Value->Value->Sem Value) (r:R2):Prop:=
 ∀ (pins:List (Addr × Obj)) (s:Shared) (σ:St) (H:Hp) (x y:V) (v u:Value) (Q:VK),Inv X pins σ H s->RelV x v->RelV y u->r x y H Q->
  wpAny (model X.prog X.w) X.A (f v u) (EP X pins σ Q) X.xe s
noncomputable def UnR (X:Cx) (f:Value->Sem Value) (r:V->Hp->VK->Prop):Prop:=
 ∀ (pins:List (Addr × Obj)) (s:Shared) (σ:St) (H:Hp) (x:V) (v:Value) (Q:VK),Inv X pins σ H s->RelV x v->r x H Q->
  wpAny (model X.prog X.w) X.A (f v) (EP X pins σ Q) X.xe s
noncomputable def d9 (X:Cx) (f:Value) (r:List V->Hp->VK->Prop):Prop:=
 ∀ (pins:List (Addr × Obj)) (s:Shared) (σ:St) (H:Hp) (xs:List V) (us:List Value) (Q:VK),Inv X pins σ H s->Vals xs us->r xs H Q->
  wpAny (model X.prog X.w) X.A (call f us) (EP X pins σ Q) X.xe s
noncomputable def tOp (r:R2) (ta tb:TE):TE:=λ σ H Q=>ta σ H λ x H1=>tb σ H1 λ y H2=>r x y H2 Q
noncomputable def tUn (r:V->Hp->VK->Prop) (ta:TE):TE:=λ σ H Q=>ta σ H λ x H1=>r x H1 Q
noncomputable def rI (C:Int->Int->Prop) (g:Int->Int->V):R2:=λ x y H Q=>∃ i j,x=.int i/\y=.int j/\C i j/\Q (g i j) H
inductive IrI0 (g:Int->Int->V) (x:V) (y:V) (H:Hp) (Q:VK):Prop
 | mk (i:_) (j:_) (h1:x=.int i) (h2:y=.int j) (h3:Q (g i j) H):IrI0 g x y H Q
noncomputable def rI0 (g:Int->Int->V):R2:=λ x y H Q=>IrI0 g x y H Q
inductive IrU (g:Int->V) (x:V) (H:Hp) (Q:VK):Prop
 | mk (i:_) (h1:x=.int i) (h2:Q (g i) H):IrU g x H Q
noncomputable def rU (g:Int->V):V->Hp->VK->Prop:=λ x H Q=>IrU g x H Q
section
variable {X:Cx} {a b c:Expr} {ta tb tc:TE} {pos:Pos}
theorem binT (ha:PE X a ta) (hb:PE X b tb) {pins:List (Addr × Obj)} {s:Shared} {σ:St} {H:Hp} {R:V->V->Hp->Prop} (I:Inv X pins σ H s)
  (h:ta σ H λ x H1=>tb σ H1 λ y H2=>R x y H2) {Q:Value->Shared->Prop} {f:Value->Value->Sem Value}
  (hf:∀ v u s2 x y H2,Inv X pins σ H2 s2->RelV x v->RelV y u->R x y H2->wpAny (model X.prog X.w) X.A (f v u) Q X.xe s2) :
  wpAny (model X.prog X.w) X.A (eval a X.env) (λ v s₁=>wpAny (model X.prog X.w) X.A (eval b X.env) (λ u s₂=>wpAny (model X.prog X.w) X.A (f v u) Q X.xe s₂) X.xe s₁) X.xe s:=by
 refine thn (ha pins s σ H _ I h) λ v s1 ⟨x,H1,I1,r1,q1⟩=>?_;refine thn (hb pins s1 σ H1 _ I1 q1) λ u s2 ⟨y,H2,I2,r2,q2⟩=>?_;exact hf v u s2 x y H2 I2 r1 r2 q2
theorem aj {op:Operator} {r:R2} (ho:OpR X (binaryOp op) r) (ha:PE X a ta) (hb:PE X b tb):PE X (.BinOp a op b pos) (tOp r ta tb):=by
 intro pins s σ H Q I h;exact wpAny_BinOp (binT ha hb I h λ v u s2 x y H2 I2 rx ry q=>ho pins s2 σ H2 x y v u Q I2 rx ry q)
theorem pe_un {op:UnaryOp} {r:V->Hp->VK->Prop} (ho:UnR X (unaryOp op) r) (ha:PE X a ta):PE X (.UnaryOp op a pos) (tUn r ta):=by
 intro pins s σ H Q I h;exact UnaryOp_ (thn (ha pins s σ H _ I h) λ v s1 ⟨x,H1,I1,r1,q1⟩=>ho pins s1 σ H1 x v Q I1 r1 q1)
theorem opI {f:Value->Value->Sem Value} {C:Int->Int->Prop} {g:Int->Int->Int}
  (rule:∀ (i j:Int) (t u:Tok) (s:Shared) (Q:Value->Shared->Prop) (E:Value->Shared->Prop),C i j->Q (.int (g i j) s.toks) { s with toks:=s.toks+1 }->wpAny (model X.prog X.w) X.A (f (.int i t) (.int j u)) Q E s) :
  OpR X f (rI C λ i j=>.int (g i j)):=by
 intro pins s σ H x y v u Q I rx ry h;obtain ⟨i,j,rfl,rfl,hc,q⟩:=h;obtain ⟨t,rfl⟩:=rx;obtain ⟨t',rfl⟩:=ry;exact rule i j t t' s _ _ hc ⟨.int (g i j),H,I.tok _,⟨_,rfl⟩,q⟩
theorem opI0 {f:Value->Value->Sem Value} {g:Int->Int->Int}
  (rule:∀ (i j:Int) (t u:Tok) (s:Shared) (Q:Value->Shared->Prop) (E:Value->Shared->Prop),Q (.int (g i j) s.toks) { s with toks:=s.toks+1 }->wpAny (model X.prog X.w) X.A (f (.int i t) (.int j u)) Q E s) :
  OpR X f (rI0 λ i j=>.int (g i j)):=by
 intro pins s σ H x y v u Q I rx ry h;obtain ⟨i,j,rfl,rfl,q⟩:=h;obtain ⟨t,rfl⟩:=rx;obtain ⟨t',rfl⟩:=ry;exact rule i j t t' s _ _ ⟨.int (g i j),H,I.tok _,⟨_,rfl⟩,q⟩
theorem opB0 {f:Value->Value->Sem Value} {g:Int->Int->Bool}
  (rule:∀ (i j:Int) (t u:Tok) (s:Shared) (Q:Value->Shared->Prop) (E:Value->Shared->Prop),Q (.bool (g i j)) s->wpAny (model X.prog X.w) X.A (f (.int i t) (.int j u)) Q E s) :
  OpR X f (rI0 λ i j=>.bl (g i j)):=by
 intro pins s σ H x y v u Q I rx ry h;obtain ⟨i,j,rfl,rfl,q⟩:=h;obtain ⟨t,rfl⟩:=rx;obtain ⟨t',rfl⟩:=ry;exact rule i j t t' s _ _ ⟨.bl (g i j),H,I,rfl,q⟩
noncomputable def CDiv (i j:Int):Prop:=0<j/\j<1073741824
noncomputable def CPow (i j:Int):Prop:=0<=j/\j<=1000000/\i.natAbs<2 ^ 64
noncomputable def CMul (i j:Int):Prop:=(-(2 ^ 64)<i/\i<2 ^ 64)∨(-(2 ^ 64)<j/\j<2 ^ 64)
theorem CMul.ok {i j:Int} (h:CMul i j):IntMulOk i j:=by
 rcases h with ⟨h1,h2⟩ | ⟨h1,h2⟩
 ·exact .of_left (intBits_le_64 h1 h2)
 ·exact .of_right (intBits_le_64 h1 h2)
theorem aY:OpR X (binaryOp .Add) (rI0 λ i j=>.int (i+j)):=opI0 λ _ _ _ _ _ _ _ q=>add_int q
theorem b6:OpR X (binaryOp .Sub) (rI0 λ i j=>.int (i-j)):=opI0 λ _ _ _ _ _ _ _ q=>sub_int q
theorem op_mul:OpR X (binaryOp .Mult) (rI CMul λ i j=>.int (i*j)):=opI λ _ _ _ _ _ _ _ hc q=>mul_int q hc.ok
theorem aR:OpR X (binaryOp .FloorDiv) (rI CDiv λ i j=>.int (i / j)):=opI λ i j _ _ _ _ _ hc q=>by
 have h1:(0:Int)<j:=hc.1;have h2:j<1073741824:=hc.2;exact floordiv_int (by omega) (by rw [Int.fdiv_eq_ediv_of_nonneg i (by omega)];exact q) (.inl (PyProof.noPylong_small (by omega)))
theorem aJ:OpR X (binaryOp .Mod) (rI (λ _ j=>0<j) λ i j=>.int (i % j)):=opI λ i j _ _ _ _ _ hc q=>by
 have h1:(0:Int)<j:=hc;exact mod_int' (by omega) (by rw [Int.fmod_eq_emod_of_nonneg i (by omega)];exact q)
theorem op_pow:OpR X (binaryOp .Pow) (rI CPow λ i j=>.int (i ^ j.toNat)):=opI λ _ _ _ _ _ _ _ hc q=>pow_int_small hc.1 hc.2.1 hc.2.2 q
theorem unI {f:Value->Sem Value} {g:Int->Int}
  (rule:∀ (i:Int) (t:Tok) (s:Shared) (Q:Value->Shared->Prop) (E:Value->Shared->Prop),Q (.int (g i) s.toks) { s with toks:=s.toks+1 }->wpAny (model X.prog X.w) X.A (f (.int i t)) Q E s) :
  UnR X f (rU λ i=>.int (g i)):=by
 intro pins s σ H x v Q I rx h;obtain ⟨i,rfl,q⟩:=h;obtain ⟨t,rfl⟩:=rx;exact rule i t s _ _ ⟨.int (g i),H,I.tok _,⟨_,rfl⟩,q⟩
theorem un_neg:UnR X (unaryOp .USub) (rU λ i=>.int (-i)):=unI λ _ _ _ _ _ q=>neg_int q
end
noncomputable def scal:V->V->Bool
 | .non,.non=>true | .non,.int _=>true | .int _,.non=>true | .non,.bl _=>true | .bl _,.non=>true | .non,.str _=>true | .str _,.non=>true
 | .int _,.int _=>true | .bl _,.bl _=>true | .str _,.str _=>true | .byt _,.byt _=>true
 | .int _,.str _=>true | .str _,.int _=>true | .bl _,.str _=>true | .str _,.bl _=>true
 | _,_=>false
noncomputable def rEq:R2:=λ x y H Q=>scal x y=true/\Q (.bl (decide (x=y))) H
noncomputable def rNe:R2:=λ x y H Q=>scal x y=true/\Q (.bl (!decide (x=y))) H
theorem dec_int {i j:Int}:decide (V.int i=V.int j)=(i == j):=by
 rw [Bool.eq_iff_iff];simp
theorem dec_bl {i j:Bool}:decide (V.bl i=V.bl j)=(i == j):=by
 rw [Bool.eq_iff_iff];simp
theorem dec_str {i j:Str}:decide (V.str i=V.str j)=(i == j):=by
 rw [Bool.eq_iff_iff];simp
theorem dec_byt {i j:Array UInt8}:decide (V.byt i=V.byt j)=(i.toList == j.toList):=by
 rw [Bool.eq_iff_iff]
 cases i
 cases j;simp
section
variable {X:Cx} {a b c:Expr} {ta tb tc:TE} {pos:Pos}
theorem aL {pins:List (Addr × Obj)} {σ:St} {H:Hp} {s:Shared} {Q:VK} {k k':Bool} (I:Inv X pins σ H s) (q:Q (.bl k) H) (e:k=k'):EP X pins σ Q (.bool k') s:=by
 subst e;exact ⟨.bl k,H,I,rfl,q⟩
theorem bO:OpR X (compareOp .Eq) rEq:=by
 intro pins s σ H x y v u Q I rx ry h;obtain ⟨hs,q⟩:=h
 cases x with
 | non=>
  cases rx
  cases y with
  | non=>cases ry;exact PySem.EqNone.eq_none_none (aL I q (by simp))
  | bl j=>cases ry;exact PySem.EqNone.eq_none_bool (aL I q (by simp))
  | int j=>obtain ⟨t',rfl⟩:=ry;exact PySem.EqNone.eq_none_int (aL I q (by simp))
  | str j=>obtain ⟨t',rfl⟩:=ry;exact PySem.EqNone.eq_none_str (aL I q (by simp))
  | _=>exact absurd (show false=true from hs) fW
 | bl i=>
  cases rx
  cases y with
  | non=>cases ry;exact PySem.EqNone.eq_bool_none (aL I q (by simp))
  | bl j=>cases ry;exact eq_bool (aL I q dec_bl)
  | str j=>obtain ⟨t',rfl⟩:=ry;exact PySem.EqMixed.eq_bool_str (aL I q (by simp))
  | _=>exact absurd (show false=true from hs) fW
 | int i=>
  obtain ⟨t,rfl⟩:=rx
  cases y with
  | non=>cases ry;exact PySem.EqNone.eq_int_none (aL I q (by simp))
  | int j=>obtain ⟨t',rfl⟩:=ry;exact eq_int (aL I q dec_int)
  | str j=>obtain ⟨t',rfl⟩:=ry;exact PySem.EqMixed.eq_int_str (aL I q (by simp))
  | _=>exact absurd (show false=true from hs) fW
 | str i=>
  obtain ⟨t,rfl⟩:=rx
  cases y with
  | non=>cases ry;exact PySem.EqNone.eq_str_none (aL I q (by simp))
  | bl j=>cases ry;exact PySem.EqMixed.eq_str_bool (aL I q (by simp))
  | int j=>obtain ⟨t',rfl⟩:=ry;exact PySem.EqMixed.eq_str_int (aL I q (by simp))
  | str j=>obtain ⟨t',rfl⟩:=ry;exact eq_str (aL I q dec_str)
  | _=>exact absurd (show false=true from hs) fW
 | byt i=>
  obtain ⟨t,rfl⟩:=rx
  cases y with
  | byt j=>obtain ⟨t',rfl⟩:=ry;exact PySem.W.eq_bytes (aL I q dec_byt)
  | _=>exact absurd (show false=true from hs) fW
 | _=>cases y <;> exact absurd (show false=true from hs) fW
theorem op_ne:OpR X (compareOp .NotEq) rNe:=by
 intro pins s σ H x y v u Q I rx ry h;obtain ⟨hs,q⟩:=h
 cases x with
 | non=>
  cases rx
  cases y with
  | non=>cases ry;exact PySem.EqNone.ne_none_none (aL I q (by simp))
  | bl j=>cases ry;exact PySem.EqNone.ne_none_bool (aL I q (by simp))
  | int j=>obtain ⟨t',rfl⟩:=ry;exact PySem.EqNone.ne_none_int (aL I q (by simp))
  | str j=>obtain ⟨t',rfl⟩:=ry;exact PySem.EqNone.ne_none_str (aL I q (by simp))
  | _=>exact absurd (show false=true from hs) fW
 | bl i=>
  cases rx
  cases y with
  | non=>cases ry;exact PySem.EqNone.ne_bool_none (aL I q (by simp))
  | bl j=>cases ry;exact ne_bool (aL I q (gK not dec_bl))
  | str j=>obtain ⟨t',rfl⟩:=ry;exact PySem.EqMixed.ne_bool_str (aL I q (by simp))
  | _=>exact absurd (show false=true from hs) fW
 | int i=>
  obtain ⟨t,rfl⟩:=rx
  cases y with
  | non=>cases ry;exact PySem.EqNone.ne_int_none (aL I q (by simp))
  | int j=>obtain ⟨t',rfl⟩:=ry;exact ne_int (aL I q (gK not dec_int))
  | str j=>obtain ⟨t',rfl⟩:=ry;exact PySem.EqMixed.ne_int_str (aL I q (by simp))
  | _=>exact absurd (show false=true from hs) fW
 | str i=>
  obtain ⟨t,rfl⟩:=rx
  cases y with
  | non=>cases ry;exact PySem.EqNone.ne_str_none (aL I q (by simp))
  | bl j=>cases ry;exact PySem.EqMixed.ne_str_bool (aL I q (by simp))
  | int j=>obtain ⟨t',rfl⟩:=ry;exact PySem.EqMixed.ne_str_int (aL I q (by simp))
  | str j=>obtain ⟨t',rfl⟩:=ry;exact ne_str (aL I q (gK not dec_str))
  | _=>exact absurd (show false=true from hs) fW
 | byt i=>
  obtain ⟨t,rfl⟩:=rx
  cases y with
  | byt j=>obtain ⟨t',rfl⟩:=ry;exact PySem.W.ne_bytes (aL I q (gK not dec_byt))
  | _=>exact absurd (show false=true from hs) fW
 | _=>cases y <;> exact absurd (show false=true from hs) fW
theorem dX:OpR X (compareOp .Lt) (rI0 λ i j=>.bl (decide (i<j))):=opB0 λ _ _ _ _ _ _ _ q=>lt_int q
theorem op_le:OpR X (compareOp .LtE) (rI0 λ i j=>.bl (decide (i<=j))):=opB0 λ _ _ _ _ _ _ _ q=>le_int q
theorem op_gt:OpR X (compareOp .Gt) (rI0 λ i j=>.bl (decide (j<i))):=opB0 λ _ _ _ _ _ _ _ q=>gt_int q
theorem op_isN:OpR X (compareOp .Is) (λ x y H Q=>y=.non/\Q (.bl (decide (x=.non))) H):=by
 intro pins s σ H x y v u Q I rx ry h;obtain ⟨rfl,q⟩:=h
 cases ry;refine is_none_gen (aL I q ?_)
 cases x <;> first
  | (cases rx;rfl)
  | (obtain ⟨t,rfl⟩:=rx;rfl)
theorem cM:OpR X (compareOp .IsNot) (λ x y H Q=>y=.non/\Q (.bl (!decide (x=.non))) H):=by
 intro pins s σ H x y v u Q I rx ry h;obtain ⟨rfl,q⟩:=h
 cases ry;refine isnot_none_gen (aL I q ?_)
 cases x <;> first
  | (cases rx;rfl)
  | (obtain ⟨t,rfl⟩:=rx;rfl)
theorem aA (b:Expr) {op:CmpOp} (h:op≠.In:=by decide) (h2:op≠.NotIn:=by decide):behindInMarks op b=false:=by
 have e1:(op == CmpOp.In)=false:=by cases op <;> first | rfl | exact absurd rfl h
 have e2:(op == CmpOp.NotIn)=false:=by cases op <;> first | rfl | exact absurd rfl h2
 cases b <;> simp [behindInMarks,e1,e2]
theorem pe_cmpR {op:CmpOp} {r:R2} (ho:OpR X (compareOp op) r) (ha:PE X a ta) (hb:PE X b tb) (hm:behindInMarks op b=false):PE X (.Compare a [op] [b] pos) (tOp r ta tb):=by
 intro pins s σ H Q I h;exact wpAny_Compare1 (binT ha hb I h λ v u s2 x y H2 I2 rx ry q=>ho pins s2 σ H2 x y v u Q I2 rx ry q) hm
inductive ItTest (Q:Bool->Hp->Prop) (x:V) (H':Hp):Prop
 | mk (k:_) (h1:x=.bl k) (h2:Q k H'):ItTest Q x H'
noncomputable def tTest (t:TE):TT:=λ σ H Q=>t σ H λ x H'=>ItTest Q x H'
theorem ar {op:CmpOp} {r:R2} (ho:OpR X (compareOp op) r) (ha:PE X a ta) (hb:PE X b tb) (hm:behindInMarks op b=false):PT X (.Compare a [op] [b] pos) (tTest (tOp r ta tb)):=by
 intro pins s σ H Q I h
 refine wpAny_isTrue_Compare1 (thn (ha pins s σ H _ I h) λ v s1 ⟨x,H1,I1,r1,q1⟩=>thn (hb pins s1 σ H1 _ I1 q1) λ u s2 ⟨y,H2,I2,r2,q2⟩=>
  thn (ho pins s2 σ H2 x y v u _ I2 r1 r2 q2) λ c s3 ⟨z,H3,I3,r3,k,e,q3⟩=>?_) hm
 subst e
 cases r3;exact wpAny_truthy_bool ⟨H3,I3,q3⟩
theorem line63:(sizeLine:Nat)<2 ^ 63:=by rw [iy];decide
theorem op_add_str:OpR X (binaryOp .Add) (λ x y H Q=>∃ i j,x=.str i/\y=.str j/\i.length+j.length<=sizeLine/\Q (.str (i++j)) H):=by
 intro pins s σ H x y v u Q I rx ry h;obtain ⟨i,j,rfl,rfl,hz,q⟩:=h;obtain ⟨t,rfl⟩:=rx;obtain ⟨t',rfl⟩:=ry;exact add_str (λ t' tk=>⟨.str (i++j),H,I.tok _,⟨_,rfl⟩,q⟩) hz
theorem vals1 {x:V} {us:List Value} (r:Vals [x] us):∃ u,us=[u]/\RelV x u:=by
 cases r with
 | cons r1 r2=>cases r2;exact ⟨_,rfl,r1⟩
theorem vals2 {x y:V} {us:List Value} (r:Vals [x,y] us):∃ u w',us=[u,w']/\RelV x u/\RelV y w':=by
 cases r with
 | cons r1 r2=>
  cases r2 with
  | cons r3 r4=>cases r4;exact ⟨_,_,rfl,r1,r3⟩
theorem cH:d9 X (.builtin "abs") (λ xs H Q=>∃ i,xs=[.int i]/\Q (.int (if i<0 then -i else i)) H):=by
 intro pins s σ H xs us Q I r h;obtain ⟨i,rfl,q⟩:=h;obtain ⟨u,rfl,t,rfl⟩:=vals1 r;exact call_abs_int λ u tk=>⟨.int (if i<0 then -i else i),H,I.tok _,⟨_,rfl⟩,q⟩
theorem call_max2 (hc:X.calm=true):d9 X (.builtin "max") (λ xs H Q=>∃ i j,xs=[.int i,.int j]/\Q (.int (if j > i then j else i)) H):=by
 intro pins s σ H xs us Q I r h;obtain ⟨i,j,rfl,q⟩:=h;obtain ⟨u,w',rfl,⟨t,rfl⟩,⟨t',rfl⟩⟩:=vals2 r;refine max_two_ints (I.ok.hd hc) λ h' tk k=>⟨_,H,I.kept k,?_,q⟩;by_cases hj:j > i
 ·rw [if_pos hj,if_pos hj];exact ⟨_,rfl⟩
 ·rw [if_neg hj,if_neg hj];exact ⟨_,rfl⟩
end
end L2
namespace L2
open PySem PySem.Spec PyProof.Rows
structure ObjM (h:Heap) (x dx C:Addr) (mA:Str->Option Value):Prop where
 obj:h.get? x=some (PySem.W.instObj C dx)
 ns:h.Ns1 dx mA
 ne:dx≠x
theorem lookIn_ns {h:Heap} {dx:Addr} {mA:Str->Option Value} (n:h.Ns1 dx mA):∃ od,h.get? dx=some od/\∀ name,PySem.W.lookIn name od=some (mA name):=by
 obtain ⟨o,es,ep,ho,hd,hk,_,hm⟩:=n;refine ⟨o,ho,λ name=>?_⟩;have e:=hm name;unfold nsFind findBy at e;rw [<- Array.find?_toList] at e;unfold PySem.W.lookIn;rw [hd];dsimp only
 split
 ·rename_i y q;rw [q] at e;exact gK some e
 ·rename_i q;rw [q] at e
  have a:es.toList.any (·.refKey)=false:=by
   rw [List.any_eq_false];intro y hy;obtain ⟨z,t,hkey⟩:=hk y (Array.mem_toList_iff.mp hy);simp [DictEntry.refKey,hkey]
  have a':¬ es.toList.any (·.refKey)=true:=by rw [a];exact fW
  rw [if_neg a'];exact gK some e
theorem ObjM.look {h:Heap} {x dx C:Addr} {mA:Str->Option Value} (I:ObjM h x dx C mA):∃ od,PySem.W.InstAt h x (PySem.W.instObj C dx) C (some od)/\∀ name,PySem.W.lookIn name od=some (mA name):=
 let ⟨od,ho,hl⟩:=lookIn_ns I.ns
 ⟨od,⟨I.obj,rfl,rfl,ho⟩,hl⟩
section
variable {prog:Program} {w:World} {A:Around} {E:Value->Shared->Prop} {s:Shared} {K:W.Frag} {x dx C f:Addr} {mA:Str->Option Value} {name:Str} {v:Value}
theorem get_map {expr:Bool} {Q:Value->Shared->Prop} (X:K.In s.heap) (I:ObjM s.heap x dx C mA) (hg:PySem.W.plainGet K C name=true) (hh:PySem.W.hasDictIn K C=true)
  (ha:PySem.W.findIn K (.ref C) name=some none) (hv:mA name=some v) (hv':PySem.W.handedIn v=true) (h:Q v { s with toks:=s.toks+1 }) :
  wpAny (model prog w) A (getAttr (.ref x) name expr) Q E s:=by
 obtain ⟨od,J,hl⟩:=I.look;exact PySem.W.get_value X J (PySem.W.plainGet_of hg).1 (PySem.W.findObj_own hh ha rfl (by rw [hl,hv])) hv' h
theorem get_meth {pl:Sem Bool} {Q:Value × List Value->Shared->Prop} (X:K.In s.heap) (I:ObjM s.heap x dx C mA) (hg:PySem.W.plainGet K C name=true)
  (hf:PySem.W.findIn K (.ref C) name=some (some (.ref f))) (ht:PySem.W.isFn K (.ref f)=true) (hv:mA name=none) (h:Q (.ref f,[.ref x]) s) :
  wpAny (model prog w) A (getMethod (.ref x) name pl) Q E s:=by
 obtain ⟨od,J,hl⟩:=I.look;exact PySem.W.method_fn X J (PySem.W.plainGet_of hg).1 (PySem.W.plainGet_of hg).2 hf (beq_iff_eq.mp ht) (by show (PySem.W.lookIn name od).map (·.isSome)=some false;rw [hl,hv];rfl) h
theorem set_map {ns:List Str} {Q:Unit->Shared->Prop} (X:K.In s.heap) (I:ObjM s.heap x dx C mA)
  (hs:PySem.W.findIn K (.ref C) "__setattr__"=some (some (.builtin "object.__setattr__"))) (hp:PySem.W.plainOver K C=true) (ht:PySem.W.takerIn K C name=some none) (hh:PySem.W.hasDictIn K C=true)
  (hw:PySem.Within mA ns) (hsz:ns.length<=sizeLine)
  (h:∀ h',ObjM h' x dx C (λ y=>if y=name then some v else mA y)->Heap.SameBut dx s.heap h'->Q () { s with heap:=h',toks:=s.toks+2 }) :
  wpAny (model prog w) A (setAttr (.ref x) name v) Q E s:=by
 obtain ⟨od,J,hl⟩:=I.look;refine PySem.W.set_plain X J hs (PySem.W.osa_open (s:={ s with toks:=s.toks+1 }) (r:=none) X J hp ht λ b=>?_);obtain ⟨cd,hc,hd'⟩:=PySem.W.any_some hh;have hx:s.heap.get? x=some ⟨.ref C,some dx,.plain,#[]⟩:=I.obj;refine fH (fS (fH (fH (wpAny_loadPart hx (fH (PySem.W.Looks.here (s:={ s with toks:=s.toks+1 }) (PySem.W.looks_clsIn X hc) ?_))))));rw [hd'];refine fS (a:=some dx) (fH (fS (fH ?_)));refine wpAny_nsSet1 (s:={ s with toks:=s.toks+1 }) I.ns λ h' hn2 hs2=>?_;obtain ⟨oD,esD,epD,hoD,hdD,hcD⟩:=hn2.count (PySem.Within.cons name v hw);refine fH (wpAny_lookBehind hoD (by rw [hdD];exact pastItsLine_dict (fO hcD (by rw [gG];omega))) ?_);exact fS (h _ ⟨(hs2.2 _ (ib I.ne)).trans I.obj,hn2,I.ne⟩ hs2)
theorem make_map {R:Result->Shared->Prop} {vs:List Value} {kw:List (Str × Value)} (X:K.In s.heap) (hm:PySem.W.makesIn K C=true)
  (hi:PySem.W.findIn K (.ref C) "__init__"=some (some (.ref f))) (hf:PySem.W.typeIn K (.ref f)=some (.type "function"))
  (h:codeAny (model prog w) (A.under (.builtin "type.__call__" ⟨.ref C::vs,kw⟩)) (.call (.ref f) ⟨.ref (s.heap.objs.size+1)::vs,kw⟩) (PySem.W.InitBack (s.heap.objs.size+1) R)
   { s with heap:=(s.heap.push PySem.W.emptyDict).push (PySem.W.instObj C s.heap.objs.size) }) :
  codeAny (model prog w) A (.call (.ref C) ⟨vs,kw⟩) R s:=by
 obtain ⟨hh,g,d,t,os⟩:=s;exact PySem.W.make_core (PySem.W.makes_of X hm) (PySem.W.looks_findIn X hi) (λ self=>PySem.W.bind_fn X self hf) (.inl rfl) h
end
noncomputable def bc (f:Str) (v:V):List (Str × V)->List (Str × V)
 | []=>[(f,v)]
 | (g,x)::r=>if g=f then (g,v)::r else (g,x)::bc f v r
theorem bP (f g:Str) (v:V):∀ fs:List (Str × V),(bc f v fs).lookup g=if g=f then some v else fs.lookup g
 | []=>by
  show List.lookup g [(f,v)]=_;by_cases h:g=f
  ·have hb:(g == f)=true:=beq_iff_eq.mpr h;simp only [List.lookup,hb,if_pos h]
  ·have hb:(g == f)=false:=gZ.mpr h;simp only [List.lookup,hb,if_neg h]
 | (k,x)::r=>by
  have ih:=bP f g v r;rw [show bc f v ((k,x)::r)=(if k=f then (k,v)::r else (k,x)::bc f v r) from rfl];by_cases hk:k=f
  ·rw [if_pos hk];by_cases h:g=k
   ·have hb:(g == k)=true:=beq_iff_eq.mpr h;simp only [List.lookup,hb,if_pos (h.trans hk)]
   ·have hb:(g == k)=false:=gZ.mpr h;simp only [List.lookup,hb,if_neg (λ e:g=f=>h (e.trans hk.symm))]
  ·rw [if_neg hk];by_cases h:g=k
   ·have hb:(g == k)=true:=beq_iff_eq.mpr h;simp only [List.lookup,hb,if_neg (λ e:g=f=>hk (h.symm.trans e))]
   ·have hb:(g == k)=false:=gZ.mpr h;simp only [List.lookup,hb];exact ih
theorem keys_putF (f:Str) (v:V):∀ fs:List (Str × V),f∈(bc f v fs).map (·.1)/\∀ g,g∈fs.map (·.1)->g∈(bc f v fs).map (·.1)
 | []=>⟨by simp [bc],λ g h=>by simp at h⟩
 | (k,x)::r=>by
  obtain ⟨i1,i2⟩:=keys_putF f v r;rw [show bc f v ((k,x)::r)=(if k=f then (k,v)::r else (k,x)::bc f v r) from rfl];by_cases hk:k=f
  ·rw [if_pos hk];subst hk;exact ⟨by simp,λ g h=>by simpa using h⟩
  ·rw [if_neg hk];refine ⟨?_,λ g h=>?_⟩
   ·rw [gN];exact gC _ i1
   ·rw [gN] at h ⊢;rcases gw.mp h with e | e
    ·exact gw.mpr (.inl e)
    ·exact gC _ (i2 g e)
theorem bb (f:Str) (v:V):∀ fs:List (Str × V),(bc f v fs).length<=fs.length+1
 | []=>by simp [bc]
 | (k,x)::r=>by
  have ih:=bb f v r;rw [show bc f v ((k,x)::r)=(if k=f then (k,v)::r else (k,x)::bc f v r) from rfl];by_cases hk:k=f
  ·rw [if_pos hk,gG,gG];omega
  ·rw [if_neg hk,gG,gG];omega
theorem RelO.some_of {v:V} {o:Option Value} (r:RelO (some v) o):∃ u,o=some u/\RelV v u:=by
 cases o with
 | none=>exact (show False from r).elim
 | some u=>exact ⟨u,rfl,r⟩
theorem RelO.none_of {o:Option Value} (r:RelO none o):o=none:=by
 cases o with
 | none=>rfl
 | some u=>exact (show False from r).elim
theorem handed_of {v:V} {u:Value} (r:RelV v u):PySem.W.handedIn u=true:=by
 cases v with
 | non=>cases (show u=Value.none from r);rfl
 | bl b=>cases (show u=Value.bool b from r);rfl
 | int i=>obtain ⟨t,e⟩:=(show ∃ t,u=Value.int i t from r);cases e;rfl
 | str x=>obtain ⟨t,e⟩:=(show ∃ t,u=Value.str x t from r);cases e;rfl
 | byt b=>obtain ⟨t,e⟩:=(show ∃ t,u=Value.bytes b t from r);cases e;rfl
 | flt b=>obtain ⟨t,e⟩:=(show ∃ t,u=Value.float b t from r);cases e;rfl
 | ref a=>cases (show u=Value.ref a from r);rfl
 | ty n=>cases (show u=Value.type n from r);rfl
section
variable {P:Program} {w:World} {H H':Hp} {h h':Heap} {a C dx:Addr} {fs fs':List (Str × V)}
theorem ins_get (hok:HOk P w H h) (e:H a=some (.ins C dx fs)):∃ mA,ObjM h a dx C mA/\(∀ f,RelO (fs.lookup f) (mA f))/\PySem.Within mA (fs.map (·.1))/\fs.length<=1000/\H dx=some (.own a):=by
 obtain ⟨d,z,ne,ob,mA,n,r,q⟩:=(show ObjOk P w H h a (.ins C dx fs) from hok a _ e);exact ⟨mA,⟨ob,n,ne⟩,r,q,z,d⟩
end
structure Cls (K:W.Frag) (C:Addr):Prop where
 pg:PySem.W.plainGet K C Str.empty=true
 hd:PySem.W.hasDictIn K C=true
 po:PySem.W.plainOver K C=true
 sa:PySem.W.findIn K (.ref C) "__setattr__"=some (some (.builtin "object.__setattr__"))
theorem Cls.get {K:W.Frag} {C:Addr} (c:Cls K C) (f:Str):PySem.W.plainGet K C f=true:=c.pg
noncomputable def NoAttr (K:W.Frag) (C:Addr) (f:Str):Prop:=PySem.W.findIn K (.ref C) f=some none
theorem NoAttr.taker {K:W.Frag} {C:Addr} {f:Str} (n:NoAttr K C f):PySem.W.takerIn K C f=some none:=by
 unfold PySem.W.takerIn;rw [show PySem.W.findIn K (.ref C) f=some none from n];rfl
structure Con (K:W.Frag) (C:Addr) (f:Str) (v:V) (u:Value):Prop where
 at_:PySem.W.findIn K (.ref C) f=some (some u)
 rel:RelV v u
 get:PySem.W.specialIn K u "__get__"=some none
 cp:PySem.W.copiedNames.contains f=false
structure Meth (K:W.Frag) (C:Addr) (m:Str) (f:Addr):Prop where
 at_:PySem.W.findIn K (.ref C) m=some (some (.ref f))
 fn:PySem.W.isFn K (.ref f)=true
 kp:PySem.W.keepIn K (.ref f)=true
section
variable {X:Cx} {pins:List (Addr × Obj)} {σ:St} {H:Hp} {s:Shared} {a C dx:Addr} {fs:List (Str × V)} {f:Str} {v:V} {A:Around} {E:Value->Shared->Prop}
theorem eQ {b:Bool} {Q:Value->Shared->Prop} (I:Inv X pins σ H s) (e:H a=some (.ins C dx fs)) (c:Cls X.K C) (n:NoAttr X.K C f) (l:fs.lookup f=some v)
  (h:∀ u s',Inv X pins σ H s'->RelV v u->Q u s'):wpAny (model X.prog X.w) A (getAttr (.ref a) f b) Q E s:=by
 obtain ⟨mA,O,r,_,_,_⟩:=ins_get I.hok e;obtain ⟨u,hu,ru⟩:=RelO.some_of (v:=v) (o:=mA f) (by rw [<- l];exact r f);exact get_map I.kIn O (c.get f) c.hd n hu (handed_of ru) (h u _ (I.tok _) ru)
theorem dm {m:Str} {g:Addr} {pl:Sem Bool} {Q:Value × List Value->Shared->Prop} (I:Inv X pins σ H s) (e:H a=some (.ins C dx fs)) (c:Cls X.K C) (k:Meth X.K C m g) (l:fs.lookup m=none)
  (h:Q (.ref g,[.ref a]) s):wpAny (model X.prog X.w) A (getMethod (.ref a) m pl) Q E s:=by
 obtain ⟨mA,O,r,_,_,_⟩:=ins_get I.hok e;have hn:mA m=none:=RelO.none_of (by rw [<- l];exact r m);exact get_meth I.kIn O (c.get m) k.at_ k.fn hn h
theorem setattr_ok {y:V} {u:Value} {Q:Unit->Shared->Prop} (I:Inv X pins σ H s) (e:H a=some (.ins C dx fs)) (c:Cls X.K C) (n:NoAttr X.K C f) (hl:fs.length<1000) (ry:RelV y u)
  (h:∀ s',Inv X pins σ (upd H a (.ins C dx (bc f y fs))) s'->Q () s'):wpAny (model X.prog X.w) A (setAttr (.ref a) f u) Q E s:=by
 obtain ⟨mA,O,r,wi,_,ho⟩:=ins_get I.hok e;have hz:(fs.map (·.1)).length<=sizeLine:=by rw [fG,iy];omega
 refine set_map I.kIn O c.sa c.po n.taker c.hd wi hz λ h' O' sb=>h _ ?_;have hd:∃ o,h'.get? dx=some o:=let ⟨o,_,_,e',_⟩:=O'.ns;⟨o,e'⟩
 refine I.write (x:=a) (e:=dx) (by rw [e];exact True.intro) (.inr ho) (λ b q hb z=>(sb.2 b hb).trans z) hd ?_;refine ⟨by rw [ai O.ne];exact ho,?_,O.ne,O'.obj,_,O'.ns,λ g=>?_,λ g hg=>?_⟩
 ·have:=bb f y fs;omega
 ·show RelO ((bc f y fs).lookup g) (if g=f then some u else mA g);rw [bP];by_cases q:g=f
  ·rw [if_pos q,if_pos q];exact ry
  ·rw [if_neg q,if_neg q];exact r g
 ·by_cases q:g=f
  ·rw [q];exact (keys_putF f y fs).1
  ·refine (keys_putF f y fs).2 g (wi g λ z=>hg ?_);show (if g=f then some u else mA g)=none;rw [if_neg q];exact z
theorem Inv.made (I:Inv X pins σ H s):Inv X pins σ (upd (upd H s.heap.objs.size (.own (s.heap.objs.size+1))) (s.heap.objs.size+1) (.ins C s.heap.objs.size []))
  { s with heap:=(s.heap.push PySem.W.emptyDict).push (PySem.W.instObj C s.heap.objs.size) }:=by
 have e1:(s.heap.push PySem.W.emptyDict).get? s.heap.objs.size=some PySem.W.emptyDict:=gm s.heap rfl
 have e2:((s.heap.push PySem.W.emptyDict).push (PySem.W.instObj C s.heap.objs.size)).get? (s.heap.objs.size+1)=some (PySem.W.instObj C s.heap.objs.size):=by
  have:=gm (s.heap.push PySem.W.emptyDict) (o:=PySem.W.instObj C s.heap.objs.size) rfl
  rwa [Heap.size_push] at this
 have e3:(s.heap.push PySem.W.emptyDict).Ns s.heap.objs.size (λ _=>none):=⟨PySem.W.emptyDict,#[],_,e1,rfl,(λ e he=>absurd he (by simp)),λ _=>rfl⟩;have I1:=I.laid (a:=s.heap.objs.size) (o:=.own (s.heap.objs.size+1)) (h':=s.heap.push PySem.W.emptyDict) (t':=s.toks) (λ b u q=>fJ _ q) (fM _) ⟨_,e1⟩;refine I1.laid (a:=s.heap.objs.size+1) (o:=.ins C s.heap.objs.size []) (t':=s.toks) (λ b u q=>fJ _ q) (Nat.le_of_eq (Heap.size_push _ _)) ?_;have ne:s.heap.objs.size≠s.heap.objs.size+1:=gF (Nat.lt_succ_self _);refine ⟨by rw [ai ne,ae],fY _,ne,e2,λ _=>none,(Heap.Ns1.of_empty e3).at λ o q=>fJ _ q,λ _=>True.intro,λ y hy=>absurd rfl hy⟩
theorem attr_of {prog:Program} {w:World} {env:Env} {e:Expr} {f:Str} {pos:Pos} {s:Shared} {Q:Value->Shared->Prop} (hb:attributeBase e f env (eval e env)=eval e env)
  (h:wpAny (model prog w) A (eval e env) (λ o s₁=>wpAny (model prog w) A (getAttr o f true) Q E s₁) E s):wpAny (model prog w) A (eval (.Attribute e f pos) env) Q E s:=
 Attribute_any_ h (by rw [arm_eval_Attribute,hb])
end
inductive ItFld (K:W.Frag) (f:Str) (Q:VK) (x:V) (H1:Hp):Prop
 | mk (a:_) (C:_) (dx:_) (fs:_) (v:_) (h1:x=.ref a) (h2:H1 a=some (.ins C dx fs)) (h3:Cls K C) (h4:NoAttr K C f) (h5:fs.lookup f=some v) (h6:Q v H1):ItFld K f Q x H1
noncomputable def tFld (K:W.Frag) (ta:TE) (f:Str):TE:=λ σ H Q=>ta σ H λ x H1=>ItFld K f Q x H1
noncomputable def sFld (K:W.Frag) (ta tv:TE) (f:Str):TS:=λ D σ H=>tv σ H λ y H1=>ta σ H1 λ x H2=>∃ a C dx fs,x=.ref a/\H2 a=some (.ins C dx fs)/\Cls K C/\NoAttr K C f/\fs.length<1000/\
 D.nx σ (upd H2 a (.ins C dx (bc f y fs)))
section
variable {X:Cx} {o e value:Expr} {f:Str} {pos pos' tpos:Pos} {ta tv:TE}
theorem aX (he:PE X e ta) (hb:attributeBase e f X.env (eval e X.env)=eval e X.env):PE X (.Attribute e f pos) (tFld X.K ta f):=by
 intro pins s σ H Q I h;refine attr_of hb (thn (he pins s σ H _ I h) λ u s1 ⟨x,H1,I1,rx,a,C,dx,fs,v,ex,ea,c,n,l,q⟩=>?_);subst ex;obtain rfl:u=Value.ref a:=rx;exact eQ I1 ea c n l λ u' s2 I2 ru=>⟨v,H1,I2,ru,q⟩
theorem bZ (ha:PE X o ta) (hv:PE X value tv) (hs:swapsWith value (some (.Attribute o f pos')) pos.line X.env=pure false):PS X (.Assign [.Attribute o f pos'] value pos) (sFld X.K ta tv f):=by
 intro pins s σ H D I h;refine plainObj_wpAny_Assign_Attribute (thn (hv pins s σ H _ I h) λ u s1 ⟨y,H1,I1,ry,q⟩=>thn (ha pins s1 σ H1 _ I1 q) λ ov s2 ⟨x,H2,I2,rx,a,C,dx,fs,ex,ea,c,n,l,q2⟩=>?_) hs;subst ex;obtain rfl:ov=Value.ref a:=rx;exact setattr_ok I2 ea c n l ry λ s3 I3=>⟨σ,_,I3,q2⟩
end
section
variable {X:Cx} {pins:List (Addr × Obj)} {σ:St} {H:Hp} {s:Shared} {A:Around} {E:Value->Shared->Prop} {Q:Value->Shared->Prop} {c:Value} {b:Bool}
inductive TyOf (K:W.Frag) (H:Hp):V->Value->Prop where
 | non:TyOf K H .non (.type "NoneType")
 | bl (x:Bool):TyOf K H (.bl x) (.type "bool")
 | int (i:Int):TyOf K H (.int i) (.type "int")
 | str (x:Str):TyOf K H (.str x) (.type "str")
 | flt (x:UInt64):TyOf K H (.flt x) (.type "float")
 | lst {a:Addr} {xs:List V} (e:H a=some (.lst xs)):TyOf K H (.ref a) (.type "list")
 | frz {a:Addr} {o:Obj} {xs:List V} (e:H a=some (.frz o (.lst xs))):TyOf K H (.ref a) (.type "list")
 | tup {a:Addr} {xs:List V} (e:H a=some (.tup xs)):TyOf K H (.ref a) (.type "tuple")
 | dK {a:Addr} {kvs:List (Key × V)} (e:H a=some (.dK kvs)):TyOf K H (.ref a) (.type "dict")
 | dT {a:Addr} {kvs:List (List Key × V)} (e:H a=some (.dT kvs)):TyOf K H (.ref a) (.type "dict")
 | ins {a C dx:Addr} {fs:List (Str × V)} (e:H a=some (.ins C dx fs)) (cl:Cls K C) (ha:PySem.W.findIn K (.ref C) "__class__"=some (some (.builtin "object.__class__")))
   (hn:PySem.W.specialIn K (.builtin "object.__class__") "__get__"=some (some (.builtin "getset_descriptor.__get__"))) (htk:PySem.W.takesIn K (.builtin "object.__class__")=some true)
   (hm:PySem.W.mroIn K C (.type "object")=some true):TyOf K H (.ref a) (.ref C)
theorem isinst_ok {x:V} {u t:Value} (I:Inv X pins σ H s) (rx:RelV x u) (ty:TyOf X.K H x t) (e:PySem.W.kitOne X.K t c=some b) (h:∀ tk,Q (.bool b) { s with toks:=tk }) :
  wpAny (model X.prog X.w) A (call (.builtin "isinstance") [u,c]) Q E s:=by
 cases ty with
 | non=>cases (show u=Value.none from rx);exact g7 PySem.W.kitx_none I.kIn True.intro e (λ z=>nomatch z) h
 | bl y=>cases (show u=Value.bool y from rx);exact g7 PySem.W.kitx_bool I.kIn True.intro e (λ z=>nomatch z) h
 | int i=>obtain ⟨t,q⟩:=(show ∃ t,u=Value.int i t from rx);cases q;exact g7 PySem.W.kitx_int I.kIn True.intro e (λ z=>nomatch z) h
 | str y=>obtain ⟨t,q⟩:=(show ∃ t,u=Value.str y t from rx);cases q;exact g7 PySem.W.kitx_str I.kIn True.intro e (λ z=>nomatch z) h
 | flt y=>obtain ⟨t,q⟩:=(show ∃ t,u=Value.float y t from rx);cases q;exact g7 PySem.W.kitx_float I.kIn True.intro e (λ z=>nomatch z) h
 | @lst a xs ea=>
  cases (show u=Value.ref a from rx);obtain ⟨_,_,n,_,h1⟩:=(show ObjOk X.prog X.w H s.heap a (.lst xs) from I.hok a _ ea);exact g7 PySem.W.kitx_list I.kIn ⟨_,h1,rfl⟩ e (λ z=>nomatch z) h
 | @frz a ob xs ea=>
  cases (show u=Value.ref a from rx);obtain ⟨_,_,_,n,_,h1⟩:=(show ObjOk X.prog X.w H s.heap a (.frz ob (.lst xs)) from I.hok a _ ea);exact g7 PySem.W.kitx_list I.kIn ⟨_,h1,rfl⟩ e (λ z=>nomatch z) h
 | @tup a xs ea=>
  cases (show u=Value.ref a from rx);obtain ⟨_,_,_,p⟩:=(show ObjOk X.prog X.w H s.heap a (.tup xs) from I.hok a _ ea);obtain ⟨o,h1,h2,_⟩:=p;exact g7 PySem.W.kitx_tuple I.kIn ⟨o,h1,h2⟩ e (λ z=>nomatch z) h
 | @dK a kvs ea=>
  cases (show u=Value.ref a from rx);obtain ⟨_,_,vs,_,p⟩:=(show ObjOk X.prog X.w H s.heap a (.dK kvs) from I.hok a _ ea);obtain ⟨o,es,ep,h1,h2,_⟩:=p;exact g7 PySem.W.kitx_dict I.kIn ⟨o,h1,h2.1⟩ e (λ z=>nomatch z) h
 | @dT a kvs ea=>
  cases (show u=Value.ref a from rx);obtain ⟨_,_,xs,_,o,es,ep,h1,h2,_⟩:=(show ObjOk X.prog X.w H s.heap a (.dT kvs) from I.hok a _ ea);exact g7 PySem.W.kitx_dict I.kIn ⟨o,h1,h2.1⟩ e (λ z=>nomatch z) h
 | @ins a C dx fs ea cl ha hn htk hm=>
  cases (show u=Value.ref a from rx);obtain ⟨mA,O,_⟩:=ins_get I.hok ea;obtain ⟨od,J,_⟩:=O.look;exact g7 (PySem.W.kitx_own (cl.get _) cl.hd ha hn htk hm) I.kIn J e (λ z=>nomatch z) h
end
end L2
namespace L2
open PySem PySem.Spec PyProof.Rows
structure Room (k:Nat) (A:Around):Prop where
 hd:A.handled=none
 dp:A.depth+3*k+5<recursionLimit
 un:A.units+16*k+200<cLine
theorem Room.mono {j k:Nat} {A:Around} (r:Room k A) (h:j<=k):Room j A:=⟨r.hd,by have:=r.dp;omega,by have:=r.un;omega⟩
theorem Room.deeper {k:Nat} {A:Around} (r:Room (k+1) A) (env:Env):Room k (A.deeper env):=
 ⟨r.hd,by have:=r.dp;show A.depth+1+3*k+5<_;omega,by have:=r.un;show A.units+3+16*k+200<_;omega⟩
theorem make_depth {A:Around} {C:Addr} {us:List Value} {kw:List (Str × Value)}:(A.under (.builtin "type.__call__" ⟨.ref C::us,kw⟩)).depth=A.depth+1:=by
 first | rfl | simp [Around.under,Code.weight,Code.isCreation,Code.isGuard,Code.isCaller,Code.frames,Code.isFrame,guardIds]
theorem make_units {A:Around} {C:Addr} {us:List Value} {kw:List (Str × Value)}:(A.under (.builtin "type.__call__" ⟨.ref C::us,kw⟩)).units=A.units+1:=by
 first | rfl | simp [Around.under,Code.cUnits,Code.frames,Code.isFrame]
theorem Room.make {k:Nat} {A:Around} (r:Room (k+1) A) (C:Addr) (us:List Value) (kw:List (Str × Value)):Room k (A.under (.builtin "type.__call__" ⟨.ref C::us,kw⟩)):=
 ⟨r.hd,by have:=r.dp;rw [make_depth];omega,by have:=r.un;rw [make_units];omega⟩
theorem Room.depth {k:Nat} {A:Around} (r:Room k A):A.depth<recursionLimit:=by have:=r.dp;omega
theorem Room.units {k:Nat} {A:Around} (r:Room k A):A.units+64<cLine:=by have:=r.un;omega
theorem Room.units0 {k:Nat} {A:Around} (r:Room k A):A.units<cLine:=by have:=r.un;omega
noncomputable def tNil:TA:=λ _ H Q=>Q [] H
noncomputable def tCons (ta:TE) (tr:TA):TA:=λ σ H Q=>ta σ H λ x H1=>tr σ H1 λ xs H2=>Q (x::xs) H2
section
variable {X:Cx} {e:Expr} {es:List Expr} {te:TE} {t:TA} {pos:Pos}
theorem ad:PA X [] tNil:=λ _ _ _ _ H Q I h=>Calls.spliced_nil ⟨[],H,I,.nil,h⟩
theorem aa (ha:PE X e te) (hr:PA X es t) (hs:starEach (e::es) X.env=(false,eval e X.env)::starEach es X.env:=by rfl):PA X (e::es) (tCons te t):=by
 intro pos pins s σ H Q I h;rw [hs];show wpAny _ _ (spliced ((false,eval e X.env)::backTo pos (starEach es X.env))) _ _ s;refine Calls.spliced_cons (thn (ha pins s σ H _ I h) λ u s1 ⟨x,H1,I1,r1,q1⟩=>?_);exact thn (hr pos pins s1 σ H1 _ I1 q1) λ us s2 ⟨xs,H2,I2,r2,q2⟩=>⟨x::xs,H2,I2,.cons r1 r2,q2⟩
noncomputable def tTup (t:TA):TE:=λ σ H Q=>t σ H λ xs H1=>xs.length<=sizeLine/\∀ p,H1 p=none->Q (.ref p) (upd H1 p (.tup xs))
noncomputable def tLst (t:TA):TE:=λ σ H Q=>t σ H λ xs H1=>xs.length<=sizeLine/\∀ p,H1 p=none->Q (.ref p) (upd H1 p (.lst xs))
theorem aF {x1} (h:PA X es t):PE X (.Tuple es x1 pos) (tTup t):=by
 intro pins s σ H Q I hq;refine wpAny_Tuple_spliced (thn (h pos pins s σ H _ I hq) λ us s1 ⟨xs,H1,I1,r,z,q⟩=>⟨by rw [<- r.length];exact z,?_⟩);have hf:H1 s1.heap.objs.size=none:=I1.hok.fresh (fM _);refine ⟨.ref s1.heap.objs.size,upd H1 s1.heap.objs.size (.tup xs),I1.laid (t':=s1.toks) (λ b u e=>fJ _ e) (fM _) ?_,rfl,q _ hf⟩;exact ⟨z,us,r,⟨_,gm _ rfl,rfl,_,rfl⟩⟩
theorem cT (h:PA X es t):PE X (.List es pos) (tLst t):=by
 intro pins s σ H Q I hq;refine wpAny_List_spliced (thn (h pos pins s σ H _ I hq) λ us s1 ⟨xs,H1,I1,r,z,q⟩=>⟨by rw [<- r.length];exact z,?_⟩);have hf:H1 s1.heap.objs.size=none:=I1.hok.fresh (fM _);refine ⟨.ref s1.heap.objs.size,upd H1 s1.heap.objs.size (.lst xs),I1.laid (t':=s1.toks) (λ b u e=>fJ _ e) (fM _) ?_,rfl,q _ hf⟩;exact ⟨z,us,0,r,gm _ rfl⟩
end
noncomputable abbrev Sp:=List V->Hp->VK->XK->Prop
noncomputable abbrev CXT:=List Env->Hp->Shared->XK->Value->Shared->Prop
structure Env0 (P:Program) (w:World) (K:W.Frag) (mg:Str->Option Value) (base:Heap) (A:Around) (outer:List Env) (s:Shared) (H:Hp):Prop where
 frames:A.frames=some outer
 mod:Mod K mg base
 bs:∀ b o,base.get? b=some o->s.heap.get? b=some o/\H b=none
 bsz:base.objs.size<=s.heap.objs.size
 funs:s.heap.FunFrames base outer
 frf:∀ b∈frs outer,H b=none
 hok:HOk P w H s.heap
 bare:AllBare s.gens
noncomputable def CE (outer:List Env) (P:Program) (w:World) (H:Hp) (s:Shared) (Q:VK) (u:Value) (s':Shared):Prop:=
 ∃ v H',s'.os=s.os/\AllBare s'.gens/\Un (frs outer) [] H H' s.heap s'.heap/\HOk P w H' s'.heap/\RelV v u/\Q v H'
noncomputable def CR (CX:CXT) (outer:List Env) (P:Program) (w:World) (H:Hp) (s:Shared) (Q:VK) (E:XK) (r:Result) (s':Shared):Prop:=
 match r with
 | .ok (.ret u)=>CE outer P w H s Q u s'
 | .ok _=>False
 | .error e=>CX outer H s E e s'
structure FnOk (P:Program) (w:World) (K:W.Frag) (mg:Str->Option Value) (base:Heap) (CX:CXT) (k:Nat) (f:Addr) (fd:FuncData) (ps:List Str) (sp:Sp):Prop where
 len:∀ vs H Q E,sp vs H Q E->vs.length=ps.length
 run:∀ (A:Around) (outer:List Env) (s:Shared) (H:Hp) (args:Args) (us:List Value) (vs:List V) (Q:VK) (E:XK),Room k A->Env0 P w K mg base A outer s H->BindsTo s fd args (ps.zip us)->Vals vs us->sp vs H Q E->
  codeAny (model P w) A (.call (.ref f) args) (CR CX outer P w H s Q E) s
theorem Env0.make {P:Program} {w:World} {K:W.Frag} {mg:Str->Option Value} {base:Heap} {A:Around} {outer:List Env} {s:Shared} {H:Hp} (e:Env0 P w K mg base A outer s H) (C:Addr) (us:List Value) (kw:List (Str × Value)) :
  Env0 P w K mg base (A.under (.builtin "type.__call__" ⟨.ref C::us,kw⟩)) outer s H:=⟨by first | exact e.frames | (simpa [Around.under,Code.envs,Code.isFrame,pushEnvs] using e.frames),e.mod,e.bs,e.bsz,e.funs,e.frf,e.hok,e.bare⟩
section
variable {X:Cx} {pins:List (Addr × Obj)} {σ:St} {H:Hp} {s s':Shared}
theorem Inv.env0 (I:Inv X pins σ H s):Env0 X.prog X.w X.K X.mg X.base X.A X.stack s H:=
 ⟨I.ok.frames,I.ok.mod,I.bs,fO I.ok.bsz I.sz,I.stack,I.stkFree,I.hok,I.bare⟩
theorem Inv.after {Q:VK} {u:Value} (I:Inv X pins σ H s) (h:CE X.stack X.prog X.w H s Q u s'):EP X pins σ Q u s':=by
 obtain ⟨v,H',os,bare,un,hok,r,q⟩:=h;obtain ⟨hh,g,d,t,os'⟩:=s';obtain rfl:os'=s.os:=os;exact ⟨v,H',I.call (h':=hh) (g':=g) (d':=d) (t':=t) (ch:=[]) un hok bare (λ b z=>absurd z (by simp)),r,q⟩
end
noncomputable def tCall (sp:Sp) (dvs:List V) (E:XK) (t:TA):TE:=λ σ H Q=>t σ H λ vs H1=>sp (vs++dvs) H1 Q E
inductive ItMeth (C:Addr) (m:Str) (sp:Sp) (dvs:List V) (E:XK) (t:TA) (σ:St) (Q:VK) (x:V) (H1:Hp):Prop
 | mk (a:_) (dx:_) (fs:_) (h1:x=.ref a) (h2:H1 a=some (.ins C dx fs)) (h3:fs.lookup m=none) (h4:t σ H1 λ vs H2=>sp (x::(vs++dvs)) H2 Q E):ItMeth C m sp dvs E t σ Q x H1
noncomputable def tMake (C:Addr) (sp:Sp) (dvs:List V) (E:XK) (t:TA):TE:=λ σ H Q=>t σ H λ vs H1=>∀ x dx,H1 x=none->H1 dx=none->dx≠x->
 sp (.ref x::(vs++dvs)) (upd (upd H1 dx (.own x)) x (.ins C dx [])) (λ v H2=>v=.non/\Q (.ref x) H2) E
noncomputable def Binds (K:W.Frag) (fd:FuncData) (ps:List Str) (ds:List Value):Prop:=
 ∀ (s:Shared) (us:List Value),K.In s.heap->(us++ds).length=ps.length->BindsTo s fd ⟨us,[]⟩ (ps.zip (us++ds))
theorem Binds.all {K:W.Frag} {fd:FuncData} {ps:List Str} (h:∀ us:List Value,us.length=ps.length->bindArgs fd ⟨us,[]⟩=pure (ps.zip us)):Binds K fd ps []:=λ s us _ hl=>by
 rw [List.append_nil] at hl ⊢;exact .of_eq (h us hl)
noncomputable def bM (CX:CXT) (X:Cx) (E:XK):Prop:=∀ (pins:List (Addr × Obj)) (σ:St) (H:Hp) (s:Shared) (e:Value) (s':Shared),Inv X pins σ H s->CX X.stack H s E e s'->X.xe e s'
section
variable {X:Cx} {CX:CXT} {k:Nat} {f C:Addr} {fd:FuncData} {ps:List Str} {sp:Sp} {dvs:List V} {ds:List Value} {E:XK} {x m:Str} {p pos apos:Pos} {e o:Expr} {es:List Expr} {ta:TE} {t:TA}
theorem run_fn {pins:List (Addr × Obj)} {σ:St} {H:Hp} {s:Shared} {Q:VK} {us:List Value} {vs:List V} (F:FnOk X.prog X.w X.K X.mg X.base CX k f fd ps sp) (hr:Room k X.A) (hb:Binds X.K fd ps ds) (hd:Vals dvs ds) (hx:bM CX X E)
  (I:Inv X pins σ H s) (r:Vals vs us) (h:sp (vs++dvs) H Q E):wpAny (model X.prog X.w) X.A (call (.ref f) us) (EP X pins σ Q) X.xe s:=by
 have r2:Vals (vs++dvs) (us++ds):=r.append hd;have hl:(us++ds).length=ps.length:=by rw [<- r2.length];exact F.len _ _ _ _ h
 refine wpAny_call (codeAny_mono (F.run X.A X.stack s H ⟨us,[]⟩ (us++ds) (vs++dvs) Q E hr I.env0 (hb s us I.kIn hl) r2 h) λ r s' hq=>?_)
 cases r with
 | error e=>exact hx pins σ H s e s' I hq
 | ok fl=>
  cases fl with
  | ret u=>exact I.after hq
  | next=>exact False.elim hq
  | brk=>exact False.elim hq
  | cont=>exact False.elim hq
theorem pe_call (F:FnOk X.prog X.w X.K X.mg X.base CX k f fd ps sp) (hr:Room k X.A) (hg:Gl X x) (hm:X.mg x=some (.ref f)) (hk:PySem.W.keepIn X.K (.ref f)=true) (hb:Binds X.K fd ps ds) (hd:Vals dvs ds) (hx:bM CX X E)
  (ha:PA X (e::es) t) (hdb:(x == ("__debug__":Str))=false:=by decide) (he:starEach (e::es) X.env=(false,eval e X.env)::starEach es X.env:=by rfl) (hpl:(backTo pos (starEach es X.env)).any (·.1)=false:=by rfl) :
  PE X (.Call (.Name x p) (e::es) [] pos) (tCall sp dvs E t):=by
 intro pins s σ H Q I h;refine wpAny_Call_Name_kw (cu I hg hm ?_ hdb);refine il (h₀:=X.base) I.ok.mod.kin hk (thn (ha pos pins s σ H _ I h) λ us s1 ⟨vs,H1,I1,r,q⟩=>⟨I1.kIn,?_⟩) he hpl;exact run_fn F hr hb hd hx I1 r q
structure Mk (K:W.Frag) (C f:Addr):Prop where
 makes:PySem.W.makesIn K C=true
 init:PySem.W.findIn K (.ref C) "__init__"=some (some (.ref f))
 fn:PySem.W.isFn K (.ref f)=true
 kp:PySem.W.keepIn K (.ref C)=true
theorem run_make {pins:List (Addr × Obj)} {σ:St} {H:Hp} {s:Shared} {Q:VK} {us:List Value} {vs:List V} (M:Mk X.K C f) (F:FnOk X.prog X.w X.K X.mg X.base CX k f fd ps sp) (hr:Room (k+1) X.A) (hb:Binds X.K fd ps ds) (hd:Vals dvs ds)
  (hx:bM CX X E) (I:Inv X pins σ H s) (r:Vals vs us)
  (h:∀ x dx,H x=none->H dx=none->dx≠x->sp (.ref x::(vs++dvs)) (upd (upd H dx (.own x)) x (.ins C dx [])) (λ v H2=>v=.non/\Q (.ref x) H2) E) :
  wpAny (model X.prog X.w) X.A (call (.ref C) us) (EP X pins σ Q) X.xe s:=by
 have hq:=h (s.heap.objs.size+1) s.heap.objs.size (I.hok.fresh (Nat.le_succ _)) (I.hok.fresh (fM _)) (gF (Nat.lt_succ_self _));have I2:=Inv.made (C:=C) I;have r2:Vals (V.ref (s.heap.objs.size+1)::(vs++dvs)) (Value.ref (s.heap.objs.size+1)::(us++ds)):=.cons rfl (r.append hd)
 have hl:(Value.ref (s.heap.objs.size+1)::us++ds).length=ps.length:=by
  have e:=r2.length;rw [F.len _ _ _ _ hq] at e;exact e.symm
 refine wpAny_call (make_map (f:=f) I.kIn M.makes M.init (beq_iff_eq.mp M.fn) (codeAny_mono (F.run _ X.stack _ _ ⟨Value.ref (s.heap.objs.size+1)::us,[]⟩ (Value.ref (s.heap.objs.size+1)::(us++ds)) _ _ E (hr.make C us [])
  (I2.env0.make C us []) (hb _ (Value.ref (s.heap.objs.size+1)::us) I2.kIn hl) r2 hq) λ r s' hq'=>?_))
 cases r with
 | error e=>exact hx pins σ _ _ e s' I2 hq'
 | ok fl=>
  cases fl with
  | ret u=>
   obtain ⟨v,H',I3,rv,ev,q3⟩:=I2.after hq';subst ev;exact ⟨rv,⟨V.ref (s.heap.objs.size+1),H',I3,rfl,q3⟩⟩
  | next=>exact False.elim hq'
  | brk=>exact False.elim hq'
  | cont=>exact False.elim hq'
theorem pe_make (M:Mk X.K C f) (F:FnOk X.prog X.w X.K X.mg X.base CX k f fd ps sp) (hr:Room (k+1) X.A) (hg:Gl X x) (hm:X.mg x=some (.ref C)) (hb:Binds X.K fd ps ds) (hd:Vals dvs ds) (hx:bM CX X E)
  (ha:PA X (e::es) t) (hdb:(x == ("__debug__":Str))=false:=by decide) (he:starEach (e::es) X.env=(false,eval e X.env)::starEach es X.env:=by rfl) (hpl:(backTo pos (starEach es X.env)).any (·.1)=false:=by rfl) :
  PE X (.Call (.Name x p) (e::es) [] pos) (tMake C sp dvs E t):=by
 intro pins s σ H Q I h;refine wpAny_Call_Name_kw (cu I hg hm ?_ hdb);refine il (h₀:=X.base) I.ok.mod.kin M.kp (thn (ha pos pins s σ H _ I h) λ us s1 ⟨vs,H1,I1,r,q⟩=>⟨I1.kIn,?_⟩) he hpl;exact run_make M F hr hb hd hx I1 r q
end
section
variable {X:Cx} {CX:CXT} {k:Nat} {f C:Addr} {fd:FuncData} {ps ks:List Str} {sp:Sp} {E:XK} {x m:Str} {p pos apos kpos:Pos} {e o:Expr} {es:List Expr} {kws:List Keyword} {te ta:TE} {t tk:TA} {nm:Option Str}
variable {g:List Value->List Value->List Value} {gV:List V->List V->List V}
end
structure FnScope (N P:List Str) (sc:Scope):Prop where
 kind:sc.kind=.function
 co:sc.isCoroutine=false
 gen:sc.isGenerator=false
 nd:N.Nodup
 pre:N.take P.length=P
 par:∀ x∈P,sc.names.lookup x=some .local∨sc.names.lookup x=some .cell
 nofree:∀ y∈sc.names,y.2≠.free
theorem bindL_out {kindOf:Str->Option NameKind} {x:Str}:∀ {binds:List (Str × Value)} {m:Str->Option Value},(∀ v,(x,v) ∉ binds)->bindL kindOf binds m x=m x
 | [],_,_=>rfl
 | (n,v)::r,m,h=>by
  unfold bindL;rw [bindL_out λ w hw=>h w (gC _ hw)]
  split
  ·have:x≠n:=by rintro rfl;exact h v gR
   simp [this]
  ·rfl
theorem bindC_out {kindOf:Str->Option NameKind} {x:Str}:∀ {binds:List (Str × Value)} {m:Str->Option Value},(∀ v,(x,v) ∉ binds)->bindC kindOf binds m x=m x
 | [],_,_=>rfl
 | (n,v)::r,m,h=>by
  unfold bindC;rw [bindC_out λ w hw=>h w (gC _ hw)]
  split
  ·rfl
  ·have:x≠n:=by rintro rfl;exact h v gR
   simp [this]
theorem bindL_get {kindOf:Str->Option NameKind} {x:Str} {v:Value}:∀ {P:List Str} {vs:List Value} {i:Nat} {m:Str->Option Value},P.Nodup->P[i]?=some x->vs[i]?=some v->kindOf x=some .local->
  bindL kindOf (P.zip vs) m x=some v
 | [],_,_,_,_,h,_,_=>by simp at h
 | _::_,[],_,_,_,_,h,_=>by simp at h
 | p::P,w::vs,0,m,nd,h1,h2,hk=>by
  simp at h1 h2;subst h1;subst h2;show bindL kindOf ((p,w)::P.zip vs) m p=_;unfold bindL;rw [bindL_out λ v hv=>(List.nodup_cons.mp nd).1 (hJ hv).1,if_pos hk];simp
 | p::P,w::vs,i+1,m,nd,h1,h2,hk=>by
  show bindL kindOf ((p,w)::P.zip vs) m x=_;unfold bindL;exact bindL_get (i:=i) (List.nodup_cons.mp nd).2 (by simpa using h1) (by simpa using h2) hk
theorem bindC_get {kindOf:Str->Option NameKind} {x:Str} {v:Value}:∀ {P:List Str} {vs:List Value} {i:Nat} {m:Str->Option Value},P.Nodup->P[i]?=some x->vs[i]?=some v->kindOf x≠some .local->
  bindC kindOf (P.zip vs) m x=some v
 | [],_,_,_,_,h,_,_=>by simp at h
 | _::_,[],_,_,_,_,h,_=>by simp at h
 | p::P,w::vs,0,m,nd,h1,h2,hk=>by
  simp at h1 h2;subst h1;subst h2;show bindC kindOf ((p,w)::P.zip vs) m p=_;unfold bindC;rw [bindC_out λ v hv=>(List.nodup_cons.mp nd).1 (hJ hv).1,if_neg hk];simp
 | p::P,w::vs,i+1,m,nd,h1,h2,hk=>by
  show bindC kindOf ((p,w)::P.zip vs) m x=_;unfold bindC;exact bindC_get (i:=i) (List.nodup_cons.mp nd).2 (by simpa using h1) (by simpa using h2) hk
noncomputable def cf (N:List Str) (vs:List V):St:=vs.map some++List.replicate (N.length-vs.length) none
noncomputable def aG (CX:CXT) (P:Program) (w:World) (K:W.Frag) (mg:Str->Option Value) (base:Heap) (N:List Str) (qual:Str) (scope:Scope) (f:Addr) (cd:Value) (A:Around) (outer:List Env) (s:Shared) (H:Hp) (E:XK):Cx where
 prog:=P
 w:=w
 K:=K
 mg:=mg
 base:=base
 A:=A.deeper (envOfC qual scope s.heap.objs.size f cd)
 N:=N
 s₀:=s
 H₀:=H
 env:=envOfC qual scope s.heap.objs.size f cd
 outer:=outer
 stack:=envOfC qual scope s.heap.objs.size f cd::outer
 ex:=[]
 calm:=true
 fn:=λ _=>true
 pn:=[]
 xe:=λ e s'=>wpAny (model P w) (A.deeper (envOfC qual scope s.heap.objs.size f cd)) (leaving (envOfC qual scope s.heap.objs.size f cd) e) (λ _ s''=>CX outer H s E e s'') (λ e' s''=>CX outer H s E e' s'') s'
theorem cell_has {sc:Scope} {n:Nat} {x:Str} (h:sc.names.lookup x=some .cell):∃ c,(cellsFrom n sc.names []).lookup x=some c:=by
 have q:=PySem.W.cellsFrom_some sc.names n [] (.inl h);exact Option.isSome_iff_exists.mp q
theorem inv_start {CX:CXT} {P:Program} {w:World} {K:W.Frag} {mg:Str->Option Value} {base:Heap} {N ps:List Str} {qual:Str} {scope:Scope} {f:Addr} {cd:Value} {A:Around} {outer:List Env} {s s1:Shared} {H:Hp} {E:XK} {us:List Value} {vs:List V}
  (S:FnScope N ps scope) (hd:A.handled=none) (e0:Env0 P w K mg base A outer s H) (hl:vs.length=ps.length) (r:Vals vs us)
  (x:InCallC s s.heap.objs.size (bindL (envOfC qual scope s.heap.objs.size f cd).kindOf (ps.zip us) λ _=>none) (cellsFrom (s.heap.objs.size+1) scope.names []) (bindC (envOfC qual scope s.heap.objs.size f cd).kindOf (ps.zip us) λ _=>none) s1) :
  Inv (aG CX P w K mg base N qual scope f cd A outer s H E) [] (cf N vs) H s1:=by
 have hpl:ps.length<=N.length:=by have:=gK List.length S.pre;rw [fZ] at this;omega
 obtain ⟨h1,tk,rfl,hk⟩:=x.done;have noA:∀ b:Addr,b ∉ (aG CX P w K mg base N qual scope f cd A outer s H E).ex:=λ b z=>absurd (show b∈([]:List Addr) from z) (by simp)
 refine ⟨⟨e0.mod,S.kind,rfl,rfl,fM _,λ y z c h1 h2=>?_,λ y hy=>?_,λ y c _ h=>?_,λ _=>hd,Around.frames_deeper e0.frames,.inr ⟨rfl,rfl⟩,λ b z=>absurd z (noA b),e0.bs,e0.bsz,λ b _ _=>noA b,λ b z=>absurd z (noA b),e0.funs,e0.frf⟩,
  rfl,e0.bare,Un.kept hk,⟨_,x.toInCall.ns,λ i y v h1 h2 h3=>?_⟩,λ y c h=>⟨_,x.cell y c h⟩,e0.hok.fresh (fM _),λ y c h=>?_,λ p hp=>absurd (show p∈([]:List (Addr × Obj)) from hp) (by simp),e0.hok.kept hk,?_⟩
 ·exact name_of_addr x.apart (gO h1) (gO h2)
 ·have hy:scope.names.lookup y=some .cell∨scope.names.lookup y=some .free:=hy;rcases hy with hy | hy
  ·exact cell_has hy
  ·exact absurd rfl (S.nofree _ (gO hy))
 ·exact Nat.le_of_lt (x.above y c (gO h))
 ·have hi:i<vs.length:=by
   unfold cf at h2;by_cases hi:i<vs.length
   ·exact hi
   ·rw [gE (by simpa using hi)] at h2;rw [List.getElem?_replicate] at h2
    split at h2 <;> cases h2
  have ha:vs[i]?=some v:=by
   unfold cf at h2;rw [gQ (by simpa using hi),fN] at h2
   cases e:vs[i]? with
   | none=>rw [e] at h2;cases h2
   | some a=>rw [e] at h2;cases h2;rfl
  obtain ⟨u,hu,rv⟩:=r.get ha
  have hp:ps[i]?=some y:=by
   rw [<- S.pre,List.getElem?_take_of_lt (by omega)];exact h1
  have ndP:ps.Nodup:=by rw [<- S.pre];exact S.nd.sublist (List.take_sublist _ _)
  refine ⟨u,rv,?_⟩;rcases S.par y (fK hp) with k | k
  ·exact .inl ⟨k,bindL_get ndP hp hu k⟩
  ·obtain ⟨c,e⟩:=cell_has (n:=s.heap.objs.size+1) k;refine .inr ⟨.inl k,c,e,?_⟩;have q:=x.cell y c e;rw [bindC_get ndP hp hu (by show scope.names.lookup y≠_;rw [k];decide)] at q;exact q
 ·exact e0.hok.fresh (Nat.le_of_lt (x.above y c (gO h)))
 ·unfold cf;show _=N.length;rw [fX,fG,gI];omega
theorem fn_of {CX:CXT} {P:Program} {w:World} {K:W.Frag} {mg:Str->Option Value} {base:Heap} {k:Nat} {f:Addr} {name qual:Str} {params:Arguments} {body:List Stmt} {scope:Scope} {dV kV doc pm cdv ct oc:Value} {an od:Option Addr}
  {osl:Array (Option Value)} {N ps:List Str} {sp:Sp} (lk:K.lookup f=some ⟨oc,od,.func (PySem.W.fnOf name qual params body scope dV kV doc pm an cdv ct),osl⟩) (hcd:PySem.W.codeIn K cdv qual=true) (S:FnScope N ps scope)
  (len:∀ vs H Q E,sp vs H Q E->vs.length=ps.length)
  (hbody:∀ (A:Around) (outer:List Env) (s:Shared) (H:Hp) (vs:List V) (Q:VK) (E:XK),Room k (A.deeper (envOfC qual scope s.heap.objs.size f cdv))->sp vs H Q E->
   ∃ t,PSs (aG CX P w K mg base N qual scope f cdv A outer s H E) body t/\t { nx:=λ _ H'=>Q .non H',rt:=Q } (cf N vs) H) :
  FnOk P w K mg base CX (k+1) f (PySem.W.fnOf name qual params body scope dV kV doc pm an cdv ct) ps sp:=by
 refine ⟨len,λ A outer s H args us vs Q E hr e0 hb r hsp=>?_⟩;have hl:=len _ _ _ _ hsp;have KX:K.In s.heap:=e0.mod.kin.keeps λ b o e=>(e0.bs b o e).1;have lim:s.heap.NoLimit:=e0.mod.nolimit.keeps λ b o e=>(e0.bs b o e).1
 have hkind:∀ y∈ps.zip us,scope.names.lookup y.1=some .local∨(scope.names.lookup y.1=some .cell/\((cellsFrom (s.heap.objs.size+1) scope.names []).lookup y.1).isSome=true):=λ⟨n,v⟩ hy=>by
  rcases S.par n (hJ hy).1 with q | q
  ·exact .inl q
  ·exact .inr ⟨q,PySem.W.cellsFrom_some _ _ _ (.inl q)⟩
 refine codeAny_call_function hr.depth (KX _ _ lk) rfl S.co S.gen rfl (PySem.W.codeRec_of KX hcd) (hb _ _ _ _ ?_);refine wpAny_newFunctionEnv_cells S.kind hkind λ env he s1 x=>?_;subst he;refine ⟨lim.keeps x.toInCall.keep,codeAny_func ?_⟩;obtain ⟨t,ht,hq⟩:=hbody A outer s H vs Q E (hr.deeper _) hsp;have I:Inv (aG CX P w K mg base N qual scope f cdv A outer s H E) [] (cf N vs) H s1:=inv_start S hr.hd e0 hl r x;refine gD (ht [] s1 (cf N vs) H _ I hq) (λ fl s' hs=>?_) λ e s' hs=>hs
 have fin:∀ {σ':St} {H':Hp} {v:V} {u:Value},Inv (aG CX P w K mg base N qual scope f cdv A outer s H E) [] σ' H' s'->RelV v u->Q v H'->CE outer P w H s Q u s':=
  λ {σ' H' v u} J rv q=>⟨v,H',J.os,J.bare,J.base,J.hok,rv,q⟩
 cases fl with
 | ret u=>
  obtain ⟨v,σ',H',J,rv,q⟩:=hs;exact fin J rv q
 | next=>
  obtain ⟨σ',H',J,q⟩:=hs;exact fin (v:=V.non) (u:=Value.none) J rfl q
 | brk=>
  obtain ⟨_,_,_,q⟩:=hs;exact False.elim q
 | cont=>
  obtain ⟨_,_,_,q⟩:=hs;exact False.elim q
end L2
namespace L2
open PySem PySem.Spec PyProof.Rows
section
variable {X:Cx} {x:Str} {p pos:Pos} {e:Expr} {es:List Expr} {t:TA} {id T:String} {r:List V->Hp->VK->Prop}
noncomputable def tCB (r:List V->Hp->VK->Prop) (t:TA):TE:=λ σ H Q=>t σ H λ vs H1=>r vs H1 Q
theorem aC (hc:d9 X (.builtin id) r) (hg:Gl X x) (hm:X.mg x=none) (hv:bootBuiltins x=some (.builtin id)) (ha:PA X (e::es) t) (hn:x≠"__name__":=by decide) (hdb:(x == ("__debug__":Str))=false:=by decide)
  (he:starEach (e::es) X.env=(false,eval e X.env)::starEach es X.env:=by rfl) (hpl:(backTo pos (starEach es X.env)).any (·.1)=false:=by rfl):PE X (.Call (.Name x p) (e::es) [] pos) (tCB r t):=by
 intro pins s σ H Q I h;refine wpAny_Call_Name_kw (ld_blt I hg hm hv ?_ hn hdb);exact PyProof.Rows.callWith_builtin1 (thn (ha pos pins s σ H _ I h) λ us s1 ⟨vs,H1,I1,r1,q1⟩=>hc pins s1 σ H1 vs us Q I1 r1 q1) he hpl
theorem pe_callTy (hc:d9 X (.type T) r) (hg:Gl X x) (hm:X.mg x=none) (hv:bootBuiltins x=some (.type T)) (ha:PA X (e::es) t) (hn:x≠"__name__":=by decide) (hdb:(x == ("__debug__":Str))=false:=by decide)
  (he:starEach (e::es) X.env=(false,eval e X.env)::starEach es X.env:=by rfl) (hpl:(backTo pos (starEach es X.env)).any (·.1)=false:=by rfl):PE X (.Call (.Name x p) (e::es) [] pos) (tCB r t):=by
 intro pins s σ H Q I h;refine wpAny_Call_Name_kw (ld_blt I hg hm hv ?_ hn hdb);exact PyProof.Rows.callWith_type1 (thn (ha pos pins s σ H _ I h) λ us s1 ⟨vs,H1,I1,r1,q1⟩=>hc pins s1 σ H1 vs us Q I1 r1 q1) he hpl
end
end L2
namespace HT
open PySem PyProof.Rows
noncomputable def lexLt:List Int->List Int->Bool
 | [],[]=>false
 | [],_::_=>true
 | _::_,[]=>false
 | x::xs,y::ys=>if x=y then lexLt xs ys else decide (x<y)
section
open PySem.SeqAt
open PySem.AutoSeq1 (wpAny_loadPart')
open PySem.MeetsSeq PySem.MeetsSeq2 PySem.MeetsSeq3
end
section
variable {prog:Program} {w:World} {A:Around} {E:Value->Shared->Prop} {s:Shared}
noncomputable def sIx (n d:Nat):Option Int->Nat
 | none=>d
 | some v=>if v<0 then (v+(n:Int)).toNat else min v.toNat n
theorem sIx_none (n d:Nat):sIx n d none=d:=rfl
theorem sIx_nat (n d k:Nat):sIx n d (some (k:Int))=min k n:=by
 show (if (k:Int)<0 then ((k:Int)+(n:Int)).toNat else min (k:Int).toNat n)=min k n;rw [if_neg (by omega),Int.toNat_natCast]
end
end HT
namespace L2
open PySem PySem.Spec PyProof.Rows
noncomputable abbrev TO:=St->Hp->(Option Int->Hp->Prop)->Prop
noncomputable def PO (X:Cx) (e:Option Expr) (t:TO):Prop:=
 ∀ (pins:List (Addr × Obj)) (s:Shared) (σ:St) (H:Hp) (Q:Option Int->Hp->Prop),Inv X pins σ H s->t σ H Q->
  wpAny (model X.prog X.w) X.A (evalPart e X.env) (λ u s'=>∃ o H',Inv X pins σ H' s'/\IsPart u o/\Q o H') X.xe s
noncomputable def tNoPart:TO:=λ _ H Q=>Q none H
noncomputable def tPart (t:TE):TO:=λ σ H Q=>t σ H λ x H1=>∃ i,x=.int i/\Q (some i) H1
section
variable {X:Cx} {e:Expr} {te:TE} {lo hi:Option Expr} {tl th:TO} {pos p2:Pos}
theorem po_none:PO X none tNoPart:=by
 intro pins s σ H Q I h;rw [evalPart_none];exact fS ⟨none,H,I,.none,h⟩
theorem po_some (h:PE X e te):PO X (some e) (tPart te):=by
 intro pins s σ H Q I hw;rw [evalPart_some];refine thn (h pins s σ H _ I hw) λ u s1 ⟨x,H1,I1,r1,q1⟩=>?_;obtain ⟨i,rfl,q⟩:=q1;obtain ⟨t,rfl⟩:=r1;exact ⟨some i,H1,I1,.int i t,q⟩
noncomputable def SlR (X:Cx) (r:V->Option Int->Option Int->Hp->VK->Prop):Prop:=
 ∀ (pins:List (Addr × Obj)) (s:Shared) (σ:St) (H:Hp) (x:V) (v vl vu:Value) (lo hi:Option Int) (sl:Addr) (Q:VK),Inv X pins σ H s->RelV x v->s.heap.IsSliceOf sl vl vu .none->IsPart vl lo->IsPart vu hi->r x lo hi H Q->
  ∃ T id,typeLookup (.type T) "__getitem__"=pure (some (.builtin id))/\s.TypeIs v T/\wpAny (model X.prog X.w) X.A (getItem v (.ref sl)) (EP X pins σ Q) X.xe s
noncomputable def tSl (r:V->Option Int->Option Int->Hp->VK->Prop) (te:TE) (tl th:TO):TE:=λ σ H Q=>te σ H λ x H1=>tl σ H1 λ l H2=>th σ H2 λ u H3=>r x l u H3 Q
theorem pe_slice {r:V->Option Int->Option Int->Hp->VK->Prop} (hr:SlR X r) (he:PE X e te) (hl:PO X lo tl) (hu:PO X hi th):PE X (.Subscript e (.Slice lo hi none p2) pos) (tSl r te tl th):=by
 intro pins s σ H Q I h;refine Subscript_ (thn (he pins s σ H _ I h) λ v s1 ⟨x,H1,I1,r1,q1⟩=>?_);refine wpAny_Slice (thn (hl pins s1 σ H1 _ I1 q1) λ vl s2 ⟨l,H2,I2,pl,q2⟩=>thn (hu pins s2 σ H2 _ I2 q2) λ vu s3 ⟨u,H3,I3,pu,q3⟩=>?_);rw [evalPart_none];refine fS ?_;have I4:Inv X pins σ H3 { s3 with heap:=s3.heap.push { cls:=.type "slice",data:=.fields #[vl,vu,.none] } }:=I3.kept (t':=s3.toks) λ b ob q=>fJ _ q;obtain ⟨T,id,hT,ht,hg⟩:=hr pins { s3 with heap:=s3.heap.push { cls:=.type "slice",data:=.fields #[vl,vu,.none] } } σ H3 x v vl vu l u s3.heap.objs.size Q I4 r1 (Heap.IsSliceOf.new ..) pl pu q3;show wpAny (model X.prog X.w) X.A (subscriptTail e (.Slice lo hi none p2) v (.ref s3.heap.objs.size)) (EP X pins σ Q) X.xe { s3 with heap:=s3.heap.push { cls:=.type "slice",data:=.fields #[vl,vu,.none] } };exact tail_any (ops:=[.ref s3.heap.objs.size,v]) ht hT hg (by with_unfolding_all rfl)
noncomputable def cI (xs:List V) (lo hi:Option Int):List V:=(xs.drop (HT.sIx xs.length 0 lo)).take (HT.sIx xs.length xs.length hi-HT.sIx xs.length 0 lo)
theorem cutV_length (xs:List V) (lo hi:Option Int):(cI xs lo hi).length<=xs.length:=by
 unfold cI;rw [fZ,List.length_drop];omega
end
end L2
namespace L2
open PySem PySem.Spec PyProof.Rows
noncomputable def ixN (n:Nat) (i:Int):Option Nat:=if 0<=i then (if i<n then some i.toNat else none) else if -(n:Int)<=i then some (i+n).toNat else none
noncomputable def atI {α:Type} (xs:List α) (i:Int):Option α:=(ixN xs.length i).bind λ j=>xs[j]?
theorem ixN_seq {n:Nat} {i:Int} {j:Nat} (h:ixN n i=some j):seqIndex? i n=some j/\j<n/\-(n:Int)<=i/\i<n:=by
 unfold ixN at h;by_cases h0:0<=i
 ·rw [if_pos h0] at h;by_cases h1:i<n
  ·rw [if_pos h1] at h;have e:i.toNat=j:=f9 h;exact ⟨by rw [seqIndex_of h0 h1,e],by omega,by omega,h1⟩
  ·rw [if_neg h1] at h;cases h
 ·rw [if_neg h0] at h;by_cases h1:-(n:Int)<=i
  ·rw [if_pos h1] at h;have e:(i+n).toNat=j:=f9 h;exact ⟨by rw [seqIndex_neg (by omega) h1,e],by omega,h1,by omega⟩
  ·rw [if_neg h1] at h;cases h
theorem atI_get {α:Type} {xs:List α} {i:Int} {v:α} (h:atI xs i=some v):∃ j,seqIndex? i xs.length=some j/\xs[j]?=some v/\j<xs.length/\-(xs.length:Int)<=i/\i<xs.length:=by
 unfold atI at h
 cases e:ixN xs.length i with
 | none=>rw [e] at h;cases h
 | some j=>
  rw [e] at h;obtain ⟨h1,h2,h3,h4⟩:=ixN_seq e;exact ⟨j,h1,h,h2,h3,h4⟩
theorem atI_nat {α:Type} {xs:List α} {j:Nat} {v:α} (h:xs[j]?=some v):atI xs (j:Int)=some v:=by
 have hj:j<xs.length:=(fL.mp h).1
 have e:ixN xs.length (j:Int)=some j:=by
  unfold ixN;rw [if_pos (by omega),if_pos (by omega)];simp
 unfold atI;rw [e];exact h
noncomputable def PlainIx (b:Expr):Prop:=∀ o i,subscripted b false o i=operate [o,i] (getItem o i)
noncomputable def IxR (X:Cx) (r:R2):Prop:=
 ∀ (value slice:Expr) (pins:List (Addr × Obj)) (s:Shared) (σ:St) (H:Hp) (x y:V) (v u:Value) (Q:VK),Inv X pins σ H s->RelV x v->RelV y u->r x y H Q->
  subscripted slice false v u=operate [v,u] (getItem v u)->wpAny (model X.prog X.w) X.A (subscriptTail value slice v u) (EP X pins σ Q) X.xe s
noncomputable def MtR (X:Cx) (id:String) (r:V->List V->Hp->VK->Prop):Prop:=
 ∀ (pins:List (Addr × Obj)) (s:Shared) (σ:St) (H:Hp) (x:V) (xs:List V) (v:Value) (us:List Value) (Q:VK),Inv X pins σ H s->RelV x v->Vals xs us->r x xs H Q->
  wpAny (model X.prog X.w) X.A (call (.builtin id) (v::us)) (EP X pins σ Q) X.xe s
section
variable {X:Cx} {a b:Expr} {ta tb:TE} {pos:Pos}
theorem ao {r:R2} (hr:IxR X r) (ha:PE X a ta) (hb:PE X b tb) (hs:PlainIx b):PE X (.Subscript a b pos) (tOp r ta tb):=by
 intro pins s σ H Q I h;exact Subscript_ (binT ha hb I h λ v u s2 x y H2 I2 rx ry q=>hr a b pins s2 σ H2 x y v u Q I2 rx ry q (hs _ _))
inductive IrIxL (K:W.Frag) (x:V) (y:V) (H:Hp) (Q:VK):Prop
 | mk (p:_) (xs:_) (i:_) (v:_) (h1:x=.ref p) (h2:y=.int i) (h3:SqL K H p xs) (h4:atI xs i=some v) (h5:Q v H):IrIxL K x y H Q
noncomputable def rIxL (K:W.Frag):R2:=λ x y H Q=>IrIxL K x y H Q
inductive IrIxT (K:W.Frag) (x:V) (y:V) (H:Hp) (Q:VK):Prop
 | mk (p:_) (xs:_) (i:_) (v:_) (h1:x=.ref p) (h2:y=.int i) (h3:SqT K H p xs) (h4:atI xs i=some v) (h5:Q v H):IrIxT K x y H Q
noncomputable def rIxT (K:W.Frag):R2:=λ x y H Q=>IrIxT K x y H Q
noncomputable def rIxS:R2:=λ x y H Q=>∃ z i c,x=.str z/\y=.int i/\z.length<=sizeLine/\atI z.cps.toList i=some c/\Q (.str ⟨#[c]⟩) H
theorem au:IxR X (rIxL X.K):=by
 intro value slice pins s σ H x y v u Q I rx ry h hs;obtain ⟨p,xs,i,z,rfl,rfl,hq,he,q⟩:=h
 cases rx;obtain ⟨t,rfl⟩:=ry;obtain ⟨its,r,pl,hz⟩:=I.list hq;obtain ⟨j,h1,h2,h3,h4,h5⟩:=atI_get he;obtain ⟨w,ew,rw'⟩:=r.get h2;have hl:=r.length;have hn:=line63;have fin:EP X pins σ Q w s:=⟨z,H,I,rw',q⟩;by_cases h0:0<=i
 ·have hj:i.toNat=j:=by
   rw [seqIndex_of h0 h5] at h1;exact f9 h1
  exact item_listR pl.isList h0 (by omega) (by rw [hj];simpa using ew) fin hs
 ·have hj:(i+(its.toArray.size:Int)).toNat=j:=by
   rw [seqIndex_neg (by omega) h4] at h1;rw [fR,<- hl];exact f9 h1
  exact subscriptTail_builtinR (x:=w) pl.isList.typeIs slot_list_getitem.lookup
   (wpAny_getItem_list_neg (Q:=λ r s'=>r=w/\EP X pins σ Q r s') pl.isList (by omega) (by rw [fR] <;> omega) (by omega) (by rw [hj];simpa using ew) ⟨rfl,fin⟩) hs
theorem aB:IxR X (rIxT X.K):=by
 intro value slice pins s σ H x y v u Q I rx ry h hs;obtain ⟨p,xs,i,z,rfl,rfl,hq,he,q⟩:=h
 cases rx;obtain ⟨t,rfl⟩:=ry;obtain ⟨its,r,pl,hz⟩:=I.tuple hq;obtain ⟨j,h1,h2,h3,h4,h5⟩:=atI_get he;obtain ⟨w,ew,rw'⟩:=r.get h2;have hl:=r.length;have hn:=line63;have fin:EP X pins σ Q w s:=⟨z,H,I,rw',q⟩
 exact subscriptTail_builtinR (x:=w) pl.typeIs slot_tuple_getitem.lookup
  (getItem_tuple (j:=j) (Q:=λ r s'=>r=w/\EP X pins σ Q r s') pl (by omega) (by omega) (by rw [fR,<- hl];exact h1) (by simpa using ew) ⟨rfl,fin⟩) hs
theorem ix_str:IxR X rIxS:=by
 intro value slice pins s σ H x y v u Q I rx ry h hs;obtain ⟨z,i,c,rfl,rfl,hz,he,q⟩:=h;obtain ⟨t,rfl⟩:=rx;obtain ⟨t',rfl⟩:=ry;obtain ⟨j,h1,h2,h3,h4,h5⟩:=atI_get he;have hl:z.cps.toList.length=z.length:=by simp [Str.length]
 rw [hl] at h1 h4 h5;have hn:=line63
 exact tail_any (typeIs_str s z t) slot_str_getitem.lookup (getItem_str (c:=c) (by
  have e1:decide (i < -(2 ^ 63:Int))=false:=fU (by omega);have e2:decide (i ≥ 2 ^ 63)=false:=fU (by omega);rw [e1,e2,Bool.or_false]) (by rw [h1];simpa using h2) ⟨.str ⟨#[c]⟩,H,I.tok _,⟨_,rfl⟩,q⟩) hs
theorem mapSeq_set (its:List Value) (n j:Nat) (u:Value):Obj.mapSeq (·.setIfInBounds j u) { cls:=.type "list",data:=.seq its.toArray n } = { cls:=.type "list",data:=.seq (its.set j u).toArray n }:=by
 simp [Obj.mapSeq]
theorem Inv.lst {pins:List (Addr × Obj)} {σ:St} {H:Hp} {s:Shared} {p:Addr} {xs:List V} (I:Inv X pins σ H s) (h:H p=some (.lst xs)) :
  ∃ (its:List Value) (n:Nat),Vals xs its/\s.heap.get? p=some { cls:=.type "list",data:=.seq its.toArray n }/\xs.length<=sizeLine:=by
 obtain ⟨z,its,n,r,e⟩:=I.hok p _ h;exact ⟨its,n,r,e,z⟩
theorem Inv.lstUpd {pins:List (Addr × Obj)} {σ:St} {H:Hp} {s:Shared} {p:Addr} {xs ys:List V} {its its':List Value} {n n':Nat} {f:Obj->Obj} (I:Inv X pins σ H s) (h:H p=some (.lst xs))
  (ho:s.heap.get? p=some { cls:=.type "list",data:=.seq its.toArray n }) (hf:f { cls:=.type "list",data:=.seq its.toArray n } = { cls:=.type "list",data:=.seq its'.toArray n' }) (r:Vals ys its') (hz:ys.length<=sizeLine) (t:Nat) :
  Inv X pins σ (upd H p (.lst ys)) { s with heap:=s.heap.update p f,toks:=t }:=by
 have e:(s.heap.update p f).get? p=some { cls:=.type "list",data:=.seq its'.toArray n' }:=by
  rw [Heap.get?_update_self f ho (by rw [hf] <;> rfl),hf]
 refine I.write (x:=p) (e:=p) (by rw [h];trivial) (.inl rfl) (λ b u hb q=>(gU _ _ (ib hb)).trans q) ⟨_,e⟩ ?_;exact ⟨hz,its',n',r,e⟩
noncomputable def rSetL:V->V->V->Hp->(Hp->Prop)->Prop:=λ o i v H Q=>∃ p xs k j,o=.ref p/\i=.int k/\H p=some (.lst xs)/\ixN xs.length k=some j/\Q (upd H p (.lst (xs.set j v)))
theorem eZ:PSet X rSetL:=by
 intro pins s σ H o i v ov iv u Q I ro ri rv h;obtain ⟨p,xs,k,j,rfl,rfl,hp,hj,q⟩:=h
 cases ro;obtain ⟨t,rfl⟩:=ri;obtain ⟨its,n,r,ho,hz⟩:=I.lst hp;obtain ⟨h1,h2,h3,h4⟩:=ixN_seq hj;have hl:=r.length;have hn:=line63
 have I':Inv X pins σ (upd H p (.lst (xs.set j v))) { s with heap:=s.heap.update p (Obj.mapSeq (·.setIfInBounds j u)) }:=
  I.lstUpd hp ho (mapSeq_set its n j u) (r.set rv j) (by rw [hV];exact hz) s.toks
 by_cases h0:0<=k
 ·have hk:k.toNat=j:=by
   rw [seqIndex_of h0 h4] at h1;exact f9 h1
  exact PySem.W.ki_setAt ho h0 (by omega) (by rw [fR,<- hl];exact h4) (by rw [hk];exact ⟨_,I',q⟩)
 ·have hk:(k+(its.toArray.size:Int)).toNat=j:=by
   rw [seqIndex_neg (by omega) h3] at h1;rw [fR,<- hl];exact f9 h1
  exact PySem.W.ki_setBack ho (by omega) (by rw [fR,<- hl];exact h3) (by omega) (by rw [hk];exact ⟨_,I',q⟩)
theorem slice_bounds (lo hi:Option Int) (n:Nat):(sliceBounds lo hi none n).1=((HT.sIx n 0 lo:Nat):Int)/\(sliceBounds lo hi none n).2.1=((HT.sIx n n hi:Nat):Int)/\(sliceBounds lo hi none n).2.2=1:=by
 refine ⟨?_,?_,rfl⟩
 ·cases lo with
  | none=>simp [sliceBounds,HT.sIx]
  | some i=>
   simp only [sliceBounds,HT.sIx,Option.getD_none,show (1:Int) > 0 by decide,if_true];by_cases h:i<0
   ·simp only [h,if_true] <;> omega
   ·simp only [h,if_false] <;> omega
 ·cases hi with
  | none=>simp [sliceBounds,HT.sIx]
  | some i=>
   simp only [sliceBounds,HT.sIx,Option.getD_none,show (1:Int) > 0 by decide,if_true];by_cases h:i<0
   ·simp only [h,if_true] <;> omega
   ·simp only [h,if_false] <;> omega
theorem slicePick_cut (its:List Value) (lo hi:Option Int):slicePick its.toArray lo hi none=((its.drop (HT.sIx its.length 0 lo)).take (HT.sIx its.length its.length hi-HT.sIx its.length 0 lo)).toArray:=by
 obtain ⟨h1,h2,h3⟩:=slice_bounds lo hi its.toArray.size;unfold slicePick;rw [h1,h2,h3];simp only [sliceRange_one,pick_run,fR] <;> rfl
inductive IrSlL (K:W.Frag) (x:V) (lo:Option Int) (hi:Option Int) (H:Hp) (Q:VK):Prop
 | mk (a:_) (xs:_) (h1:x=.ref a) (h2:SqL K H a xs) (h3:∀ p,H p=none->Q (.ref p) (upd H p (.lst (cI xs lo hi)))):IrSlL K x lo hi H Q
noncomputable def rSlL (K:W.Frag):V->Option Int->Option Int->Hp->VK->Prop:=λ x lo hi H Q=>IrSlL K x lo hi H Q
theorem sl_list:SlR X (rSlL X.K):=by
 intro pins s σ H x v vl vu lo hi sl Q I rx hs pl pu h;obtain ⟨a,xs,rfl,hx,q⟩:=h
 cases rx;obtain ⟨its,r,ht,hz⟩:=I.list hx;have hlen:=r.length;refine ⟨"list",_,slot_list_getitem.lookup,ht.isList.typeIs,?_⟩;refine wpAny_getItem_list_slice ht.isList hs pl pu .none (by simp) ?_ (by rw [fR] <;> omega);rw [slicePick_cut,<- hlen];refine ⟨.ref s.heap.objs.size,_,I.laid (t':=s.toks) (o:=.lst (cI xs lo hi)) (λ b ob q=>fJ _ q) (fM _) ?_,rfl,q _ (I.hok.fresh (fM _))⟩;exact ⟨fO (cutV_length xs lo hi) hz,_,0,(r.drop (HT.sIx xs.length 0 lo)).take (HT.sIx xs.length xs.length hi-HT.sIx xs.length 0 lo),gm _ rfl⟩
noncomputable def cj:V->Bool
 | .non=>true
 | .bl _=>true
 | .int _=>true
 | .str _=>true
 | _=>false
noncomputable def eqV:V->V->Bool
 | .non,.non=>true
 | .bl a,.bl b=>a == b
 | .bl a,.int b=>(if a then 1 else 0) == b
 | .int a,.bl b=>a == (if b then 1 else 0)
 | .int a,.int b=>a == b
 | .str a,.str b=>a == b
 | _,_=>false
theorem eqAt_V {A:Around} {s:Shared} {y x:V} {u v:Value} (ry:RelV y u) (rx:RelV x v) (fy:cj y=true) (fx:cj x=true):SeqAt.EqAt A s u v (eqV y x):=by
 cases y with
 | non=>
  cases ry
  cases x with
  | non=>cases rx;exact SeqAt.EqAt.same _
  | bl b=>cases rx;exact SeqAt.EqAt.none_bool b
  | int b=>obtain ⟨t,rfl⟩:=rx;exact SeqAt.EqAt.none_int b t
  | str b=>obtain ⟨t,rfl⟩:=rx;exact SeqAt.EqAt.none_str b t
  | _=>exact absurd (show false=true from fx) fW
 | bl a=>
  cases ry
  cases x with
  | non=>cases rx;exact SeqAt.EqAt.bool_none a
  | bl b=>cases rx;exact SeqAt.EqAt.bool_bool a b
  | int b=>obtain ⟨t,rfl⟩:=rx;exact SeqAt.EqAt.bool_int a b t
  | str b=>obtain ⟨t,rfl⟩:=rx;exact SeqAt.EqAt.bool_str a b t
  | _=>exact absurd (show false=true from fx) fW
 | int a=>
  obtain ⟨t',rfl⟩:=ry
  cases x with
  | non=>cases rx;exact SeqAt.EqAt.int_none a t'
  | bl b=>cases rx;exact SeqAt.EqAt.int_bool a t' b
  | int b=>obtain ⟨t,rfl⟩:=rx;exact SeqAt.EqAt.int_int a t' b t
  | str b=>obtain ⟨t,rfl⟩:=rx;exact SeqAt.EqAt.int_str a t' b t
  | _=>exact absurd (show false=true from fx) fW
 | str a=>
  obtain ⟨t',rfl⟩:=ry
  cases x with
  | non=>cases rx;exact SeqAt.EqAt.str_none a t'
  | bl b=>cases rx;exact SeqAt.EqAt.str_bool a t' b
  | int b=>obtain ⟨t,rfl⟩:=rx;exact SeqAt.EqAt.str_int a t' b t
  | str b=>obtain ⟨t,rfl⟩:=rx;exact SeqAt.EqAt.str_str a t' b t
  | _=>exact absurd (show false=true from fx) fW
 | _=>exact absurd (show false=true from fy) fW
noncomputable def eqU (x:V) (u:Value):Bool:=match u with
 | .none=>eqV .non x
 | .bool b=>eqV (.bl b) x
 | .int i _=>eqV (.int i) x
 | .str z _=>eqV (.str z) x
 | _=>false
theorem eqU_of {x y:V} {u:Value} (r:RelV y u) (f:cj y=true):eqU x u=eqV y x:=by
 cases y with
 | non=>cases r;rfl
 | bl b=>cases r;rfl
 | int i=>obtain ⟨t,rfl⟩:=r;rfl
 | str z=>obtain ⟨t,rfl⟩:=r;rfl
 | _=>exact absurd (show false=true from f) fW
theorem any_eqU {x:V}:∀ {xs:List V} {us:List Value},Vals xs us->xs.all cj=true->us.any (eqU x)=xs.any λ y=>eqV y x
 | _,_,.nil,_=>rfl
 | y::xs,u::us,.cons r t,f=>by
  rw [List.all_cons,Bool.and_eq_true] at f;rw [List.any_cons,List.any_cons,eqU_of r f.1,any_eqU t f.2]
theorem fw {A:Around} {s:Shared} {x:V} {v:Value} (rx:RelV x v) (fx:cj x=true):∀ {xs:List V} {us:List Value},Vals xs us->xs.all cj=true->∀ u∈us,SeqAt.EqAt A s u v (eqU x u)
 | _,_,.nil,_=>λ u hu=>by cases hu
 | y::xs,u::us,.cons r t,f=>λ u' hu=>by
  rw [List.all_cons,Bool.and_eq_true] at f;rcases gw.mp hu with rfl | hu
  ·rw [eqU_of r f.1];exact eqAt_V r rx f.1 fx
  ·exact fw rx fx t f.2 u' hu
noncomputable def inV (x:V) (xs:List V):Bool:=xs.any λ y=>eqV y x
noncomputable def rIn (K:W.Frag) (neg:Bool):R2:=λ x y H Q=>∃ p xs,y=.ref p/\(SqL K H p xs∨SqT K H p xs)/\cj x=true/\xs.all cj=true/\Q (.bl (if neg then !inV x xs else inV x xs)) H
theorem op_in_seq:OpR X (compareOp .In) (rIn X.K false):=by
 intro pins s σ H x y v u Q I rx ry h;obtain ⟨p,xs,rfl,hq,fx,fs,q⟩:=h
 cases ry;rcases hq with hq | hq
 ·obtain ⟨its,r,pl,hz⟩:=I.list hq;refine SeqAt.in_listAt (eqU x) pl.isList (λ w hw=>fw rx fx r fs w (by simpa using hw)) ⟨.bl _,H,I,rfl,?_⟩;rw [show its.toArray.any (eqU x)=its.any (eqU x) by simp,any_eqU r fs];exact q
 ·obtain ⟨its,r,pl,hz⟩:=I.tuple hq;refine SeqAt.in_tupleAt (eqU x) pl (λ w hw=>fw rx fx r fs w (by simpa using hw)) ⟨.bl _,H,I,rfl,?_⟩;rw [show its.toArray.any (eqU x)=its.any (eqU x) by simp,any_eqU r fs];exact q
theorem call_len_seq:d9 X (.builtin "len") (λ xs H Q=>∃ p ys,xs=[.ref p]/\(SqL X.K H p ys∨SqT X.K H p ys)/\Q (.int ys.length) H):=by
 intro pins s σ H xs us Q I r h;obtain ⟨p,ys,rfl,hq,q⟩:=h;obtain ⟨u,rfl,rx⟩:=vals1 r
 cases rx;have hn:=line63;rcases hq with hq | hq
 ·obtain ⟨its,r',pl,hz⟩:=I.list hq;have hlen:=r'.length;exact Calls.call_len_list pl.isList (by simp only [fR] <;> omega) ⟨.int ys.length,H,I.tok _,⟨s.toks+1,by rw [fR,hlen]⟩,q⟩
 ·obtain ⟨its,r',pl,hz⟩:=I.tuple hq;have hlen:=r'.length;exact len_tuple pl (by simp only [fR] <;> omega) ⟨.int ys.length,H,I.tok _,⟨s.toks+1,by rw [fR,hlen]⟩,q⟩
noncomputable def tyV (K:W.Frag) (T:String) (x:V) (H:Hp):Prop:=match x with
 | .str _=>T = "str"
 | .int _=>T = "int"
 | .ref p=>(T = "list"/\∃ xs,SqL K H p xs)∨(T = "tuple"/\∃ o,K.lookup p=some o/\o.cls=.type "tuple"/\o.dict=none)∨
   (T = "dict"/\((∃ kvs,H p=some (.dK kvs))∨∃ kvs,H p=some (.dT kvs)))∨(T = "set"/\∃ S n,H p=some (.set S n))
 | _=>False
theorem tyV_is {pins:List (Addr × Obj)} {σ:St} {H:Hp} {s:Shared} {T:String} {x:V} {v:Value} (I:Inv X pins σ H s) (r:RelV x v) (ty:tyV X.K T x H) :
  s.TypeIs v T/\∀ a,v=.ref a->∃ ob,s.heap.get? a=some ob/\ob.dict=none:=by
 cases x with
 | str z=>
  obtain ⟨t,rfl⟩:=r
  cases (show T = "str" from ty);exact ⟨typeIs_str s z t,λ _ e=>nomatch e⟩
 | int i=>
  obtain ⟨t,rfl⟩:=r
  cases (show T = "int" from ty);exact ⟨typeIs_int s i t,λ _ e=>nomatch e⟩
 | ref p=>
  cases r;rcases ty with ⟨rfl,xs,hq⟩ | ⟨rfl,o,hk,hc,hd⟩ | ⟨rfl,hk⟩ | ⟨rfl,S,n,hk⟩
  ·obtain ⟨its,_,pl,_⟩:=I.list hq;refine ⟨pl.isList.typeIs,λ a e=>?_⟩
   cases e;obtain ⟨o,n,e,c,hd,_⟩:=pl;exact ⟨o,e,hd⟩
  ·refine ⟨⟨o,I.kIn p o hk,hc⟩,λ a e=>?_⟩
   cases e;exact ⟨o,I.kIn _ o hk,hd⟩
  ·have z:∃ o,s.heap.get? p=some o/\o.ExactDict:=by
    rcases hk with ⟨kvs,hk⟩ | ⟨kvs,hk⟩
    ·obtain ⟨_,_,_,_,o,_,_,e,ex,_⟩:=I.hok p _ hk;exact ⟨o,e,ex⟩
    ·obtain ⟨_,_,_,_,o,_,_,e,ex,_⟩:=I.hok p _ hk;exact ⟨o,e,ex⟩
   obtain ⟨o,e,ex⟩:=z;refine ⟨⟨o,e,ex.1⟩,λ a e2=>?_⟩
   cases e2;exact ⟨o,e,ex.2.1⟩
  ·obtain ⟨o,_,_,_,e,ex,_⟩:=I.hok p _ hk;refine ⟨⟨o,e,ex.1⟩,λ a e2=>?_⟩
   cases e2;exact ⟨o,e,ex.2.1⟩
 | _=>exact False.elim ty
noncomputable def tBM0 (K:W.Frag) (T:String) (r:V->List V->Hp->VK->Prop) (to:TE):TE:=λ σ H Q=>to σ H λ x H1=>tyV K T x H1/\r x [] H1 Q
noncomputable def tBM (K:W.Frag) (T:String) (r:V->List V->Hp->VK->Prop) (to:TE) (t:TA):TE:=λ σ H Q=>to σ H λ x H1=>tyV K T x H1/\t σ H1 λ xs H2=>r x xs H2 Q
variable {o e:Expr} {es:List Expr} {to:TE} {t:TA} {name:Str} {apos cpos:Pos} {T id:String} {r:V->List V->Hp->VK->Prop}
theorem pe_bm0 (pa:PlainAttrs T) (slot:Slot T name id) (hty:typeOf (.builtin id)=pure (.type "method_descriptor")) (hm:MtR X id r) (ho:PE X o to)
  (hbase:attributeBase o name X.env (eval o X.env)=eval o X.env:=by rfl) (hline:(apos.endLine == cpos.line)=true:=by rfl):PE X (.Call (.Attribute o name apos) [] [] cpos) (tBM0 X.K T r to):=by
 intro pins s σ H Q I h;refine wpAny_Call_method0_late hbase hline (thn (ho pins s σ H _ I h) λ v s1 ⟨x,H1,I1,r1,ty,q1⟩=>?_);obtain ⟨h1,h2⟩:=tyV_is I1 r1 ty;exact ⟨T,id,pa,slot,hty,h1,h2,Calls.callWith_builtin rfl (PySem.evalArgs_none (hm pins s1 σ H1 x [] v [] Q I1 r1 .nil q1))⟩
theorem pe_bm (pa:PlainAttrs T) (slot:Slot T name id) (hty:typeOf (.builtin id)=pure (.type "method_descriptor")) (hm:MtR X id r) (ho:PE X o to) (ha:PA X (e::es) t)
  (hbase:attributeBase o name X.env (eval o X.env)=eval o X.env:=by rfl)
  (hfew:((backTo cpos (starEach (e::es) X.env)).all (λ x=>!x.1) && (backToKw cpos (keywordEach [] X.env)).all (λ x=>x.1.isSome)
   && decide ((e::es).length+([]:List Keyword).length+(if ([]:List Keyword).isEmpty then 0 else 1)<30))=true:=by rfl)
  (hline:(apos.endLine == cpos.line)=true:=by rfl) (hs:starEach (e::es) X.env=(false,eval e X.env)::starEach es X.env:=by rfl) (hplain:(backTo cpos (starEach es X.env)).any (·.1)=false:=by rfl) :
  PE X (.Call (.Attribute o name apos) (e::es) [] cpos) (tBM X.K T r to t):=by
 intro pins s σ H Q I h;refine wpAny_Call_method_late hbase hfew hline rfl (thn (ho pins s σ H _ I h) λ v s1 ⟨x,H1,I1,r1,ty,q1⟩=>?_);obtain ⟨h1,h2⟩:=tyV_is I1 r1 ty;refine ⟨T,id,pa,slot,hty,h1,h2,?_⟩;have hA:=ha cpos pins s1 σ H1 _ I1 q1;rw [hs] at hA ⊢;refine Calls.callWith_builtin (by show (false || (backTo cpos (starEach es X.env)).any (·.1))=false;rw [hplain] <;> rfl) (Calls.evalArgs_plain ?_);exact thn hA λ us s2 ⟨vs,H2,I2,r2,q2⟩=>hm pins s2 σ H2 x vs v us Q I2 r1 r2 q2
end
end L2
namespace L2
open PySem PySem.Spec PyProof.Rows
noncomputable def MtM (X:Cx) (id:String) (r:V->List V->Hp->VK->Prop):Prop:=
 ∀ (pins:List (Addr × Obj)) (s:Shared) (σ:St) (H:Hp) (x:V) (xs:List V) (v:Value) (us:List Value) (Q:VK),Inv X pins σ H s->RelV x v->Vals xs us->r x xs H Q->
  wpAny (model X.prog X.w) X.A (call (.builtin id) (v::us)) (EP X pins σ Q) X.xe s
theorem Vals.one:∀ {x:V} {us:List Value},Vals [x] us->∃ u,us=[u]/\RelV x u
 | _,_,.cons r .nil=>⟨_,rfl,r⟩
section
variable {X:Cx} {pins:List (Addr × Obj)} {σ:St} {H:Hp} {s:Shared} {l b:Addr} {xs ys zs:List V}
theorem Inv.lset {its its':List Value} {n:Nat} {f:Array Value->Array Value} {t':Nat} (I:Inv X pins σ H s) (hH:H l=some (.lst xs))
  (e:s.heap.get? l=some { cls:=.type "list",data:=.seq its.toArray n }) (hf:f its.toArray=its'.toArray) (hv:Vals ys its') (hz:ys.length<=sizeLine) :
  Inv X pins σ (upd H l (.lst ys)) { s with heap:=s.heap.update l (Obj.mapSeq f),toks:=t' }:=by
 have q:=PySem.IsL.update e f;rw [hf] at q;refine I.write (x:=l) (e:=l) (by rw [hH];exact trivial) (.inl rfl) (λ b' u hb hu=>(gU s.heap (Obj.mapSeq f) (ib hb)).trans hu) ⟨_,q⟩ ?_;exact ⟨hz,its',_,hv,q⟩
theorem Inv.lnew {its:List Value} {t':Nat} (I:Inv X pins σ H s) (hv:Vals ys its) (hz:ys.length<=sizeLine) :
  Inv X pins σ (upd H s.heap.objs.size (.lst ys)) { s with heap:=s.heap.push { cls:=.type "list",data:=.seq its.toArray },toks:=t' }:=
 I.laid (λ _ _ q=>fJ _ q) (fM _) ⟨hz,its,0,hv,gm _ rfl⟩
theorem Inv.fresh (I:Inv X pins σ H s):H s.heap.objs.size=none:=I.hok.fresh (fM _)
theorem Inv.lstM (I:Inv X pins σ H s) (hH:H l=some (.lst xs)):xs.length<=sizeLine/\∃ (its:List Value) (n:Nat),Vals xs its/\xs.length=its.length/\s.heap.get? l=some { cls:=.type "list",data:=.seq its.toArray n }:=by
 obtain ⟨z,its,n,r,e⟩:=I.hok l _ hH;exact ⟨z,its,n,r,r.length,e⟩
end
section
variable {X:Cx}
inductive IrAppend (x:V) (vs:List V) (H:Hp) (Q:VK):Prop
 | mk (l:_) (xs:_) (y:_) (h1:x=.ref l) (h2:vs=[y]) (h3:H l=some (.lst xs)) (h4:xs.length<sizeLine) (h5:Q .non (upd H l (.lst (xs++[y])))):IrAppend x vs H Q
noncomputable def rAppend:V->List V->Hp->VK->Prop:=λ x vs H Q=>IrAppend x vs H Q
theorem et:MtM X "list.append" rAppend:=by
 intro pins s σ H x vs v us Q I rx rv h;obtain ⟨l,xs,y,rfl,rfl,hH,hz,q⟩:=h
 cases rx;obtain ⟨u,rfl,ru⟩:=rv.one;obtain ⟨z,its,n,r,hl,e⟩:=I.lstM hH;refine call_meets F.slot_list_append ⟨_,e,rfl⟩ F.entry_list_append (F.args_list_append_2 _ _) (PySem.list_append l its.toArray n u (by rw [fR];omega)) ⟨e,?_⟩;refine ⟨.non,_,I.lset (its':=its++[u]) hH e (by simp) (r.append (.cons ru .nil)) ?_,rfl,q⟩;rw [fX,List.length_singleton];omega
inductive IrCat (x:V) (y:V) (H:Hp) (Q:VK):Prop
 | mk (l:_) (b:_) (xs:_) (zs:_) (h1:x=.ref l) (h2:y=.ref b) (h3:H l=some (.lst xs)) (h4:H b=some (.lst zs)) (h5:xs.length+zs.length<=sizeLine) (h6:∀ p,H p=none->Q (.ref p) (upd H p (.lst (xs++zs)))):IrCat x y H Q
noncomputable def rCat:R2:=λ x y H Q=>IrCat x y H Q
theorem op_cat:OpR X (binaryOp .Add) rCat:=by
 intro pins s σ H x y v u Q I rx ry h;obtain ⟨l,b,xs,zs,rfl,rfl,hH,hB,hz,q⟩:=h
 cases rx
 cases ry;obtain ⟨z,its,n,r,hl,e⟩:=I.lstM hH;obtain ⟨z2,its2,n2,r2,hl2,e2⟩:=I.lstM hB;refine PySem.P.add_list e e2 ?_ (by rw [fR,fR];omega);have ea:its.toArray++its2.toArray=(its++its2).toArray:=by simp
 rw [ea];exact ⟨.ref _,_,I.lnew (t':=s.toks) (r.append r2) (by rw [fX];omega),rfl,q _ I.fresh⟩
end
section
variable {prog:Program} {w:World} {A:Around} {E:Value->Shared->Prop} {s:Shared}
end
section
variable {X:Cx}
end
end L2
namespace Att
open PySem PySem.W PySem.Calls PyProof.Rows
theorem ints_of_wellAll {P:Params} {h:Heap}:∀ (ns:List Int) (vs:List Value),WellAll P h vs (ns.map WData.int)->IntsAre vs ns:=by
 intro ns
 induction ns with
 | nil=>
  intro vs w;rw [List.map_nil] at w
  cases w;exact .nil
 | cons n ns ih=>
  intro vs w;rw [gN] at w
  cases w with
  | cons a b=>
   cases a;exact .cons _ _ (ih _ b)
theorem script_of {l:OpenLaw} {n:Nat} (hn:l.most=some n) {P:Params} {h:Heap} {args:List WData} {vals:List Value}
  (hpre:l.row.toRowW.claim.pre args=true) (hwl:WellAll P h vals args) :
  ∃ a vs ns,vals=[Value.ref a]/\args=[WData.list (ns.map WData.int)]/\h.get? a=some { cls:=.type "list",data:=.seq vs.toArray }/\IntsAre vs ns/\ns.length<=n:=by
 have hsh:WShape.hasAll [] args [.list .int]=true:=(pre_splitW hpre).1;have hc:l.pre.holds [] { args:=args }=true:=(pre_splitW hpre).2;obtain ⟨d,r,rfl,h1,h2⟩:=hasAllW_cons hsh;obtain rfl:=hasAllW_nil h2;obtain ⟨xs,rfl,h3⟩:=hasW_list h1;obtain ⟨ns,rfl⟩:=items_int h3
 have hlen:ns.length<=n:=by
  unfold OpenLaw.pre at hc
  have h4:(WTm.not (.lt (.lit (.int (n:Int))) (.len (.arg 0)))).holds [] { args:=[.list (ns.map .int)] }=true:=by
   have h4:=(holds_andW hc).1;rw [hn] at h4;exact h4
  have h5:=condW_of h4 (w_not (w_lt w_lit (w_len_list (w_arg rfl))));rw [fG] at h5;refine Nat.le_of_not_lt λ q=>?_;have q':(n:Int)<((ns.length:Nat):Int):=by omega
  first
   | (rw [fV q'] at h5;exact absurd h5 (by decide))
   | (simp at h5;omega)
 cases hwl with
 | cons w1 w2=>
  cases w2
  cases w1 with
  | list ho hall=>exact ⟨_,_,ns,rfl,rfl,ho,ints_of_wellAll ns _ hall,hlen⟩
theorem post_true (l:OpenLaw) (args:List WData):l.row.toRowW.claim.post args (.bool true) args=true:=
 postW_of (r:=l.row.toRowW) (X:=(true == true))
  (show WShape.has [] (.bool true) .bool=true by first | rfl | decide | simp [WShape.has,WShape.arms,WShape.armsAll])
  (show (WTm.eq .res (.lit (.bool true))).value [] { args:=args,res:=some (.bool true),after:=args }=some (.bool (true == true)) from w_eq_bool (w_res rfl) w_lit) rfl
section
variable {prog:Program} {w:World} {A:Around} {E:Value->Shared->Prop} {s:Shared} {K:Frag}
end
end Att
namespace L2
open PySem PySem.Spec PyProof.Rows
theorem vals_ints:∀ {vs:List Value} {ns:List Int},IntsAre vs ns->Vals (ns.map V.int) vs
 | _,_,.nil=>.nil
 | _,_,.cons n t h=>.cons ⟨t,rfl⟩ (vals_ints h)
noncomputable def Only (H:Hp):Prop:=∀ b,H b=none∨∃ o xs,H b=some (.frz o (.lst xs))
theorem law_call {P:Program} {w:World} {K:W.Frag} {mg mb:Str->Option Value} {CX:CXT} {k:Nat} {fa a:Addr} {fd:FuncData} {x:Str} {sp:Sp} {s₁:Shared} {vs:List Value} {ns:List Int}
  (KX:K.In s₁.heap) (hns:s₁.heap.Ns mainGlobals mg) (hb:s₁.heap.Ns builtinsNs mb) (hbb:∀ x:Str,x≠"__name__"->mb x=bootBuiltins x) (hlim:s₁.heap.NoLimit) (hg:s₁.gens = #[])
  (ha:s₁.heap.get? a=some { cls:=.type "list",data:=.seq vs.toArray }) (hi:IntsAre vs ns) (hl:ns.length<=sizeLine) (hr:Room k callerA)
  (F:∀ base:Heap,K.In base->base.Ns mainGlobals mg->FnOk P w K mg base CX k fa fd [x] sp) (hbind:∀ (s:Shared) (u:Value),BindsTo s fd ⟨[u],[]⟩ [(x,u)])
  (hsp:∀ H:Hp,Only H->SqL K H a (ns.map V.int)->sp [.ref a] H (λ v _=>v=.bl true) λ _ _ _=>False)
  (hCX:∀ H e s',CX [] H s₁ (λ _ _ _=>False) e s'->False) :
  codeAny (model P w) callerA (.call (.ref fa) ⟨[.ref a],[]⟩) (λ r s'=>r=.ok (.ret (.bool true))/\OldK s₁.heap s'.heap/\s'.os=s₁.os/\AllBare s'.gens) s₁:=by
 have rv:=vals_ints hi;have lenV:=hi.length
 have core:∀ H:Hp,Only H->SqL K H a (ns.map V.int)->HOk P w H s₁.heap->(∀ b,H b≠none->b=a)->(H a≠none->K.lookup a=none)->
   codeAny (model P w) callerA (.call (.ref fa) ⟨[.ref a],[]⟩) (λ r s'=>r=.ok (.ret (.bool true))/\OldK s₁.heap s'.heap/\s'.os=s₁.os/\AllBare s'.gens) s₁:=by
  intro H hO hS hok hA hK;have base_of:∀ {b:Addr} {o:Obj},s₁.heap.get? b=some o->H b=none->(hidT s₁.heap H).get? b=some o:=λ e n=>hidT_get e n
  have noA:∀ {b:Addr} {o:Obj} {es:Array DictEntry} {ep:Nat},s₁.heap.get? b=some o->o.data=.dict es ep->H b=none:=λ {b o es ep} e d=>by
   cases q:H b with
   | none=>rfl
   | some u=>
    have e':b=a:=hA b (by rw [q];simp);subst e';rw [ha] at e;cases e;have d':Data.seq vs.toArray _=Data.dict es ep:=d
    cases d'
  have nsK:∀ {b:Addr} {m:Str->Option Value},s₁.heap.Ns b m->(hidT s₁.heap H).Ns b m:=λ {b m} ⟨o,es,ep,e,d,r⟩=>⟨o,es,ep,base_of e (noA e d),d,r⟩
  have hKb:K.In (hidT s₁.heap H):=λ b o e=>base_of (KX b o e) (by
   cases q:H b with
   | none=>rfl
   | some u=>
    have e':b=a:=hA b (by rw [q];simp);subst e';rw [hK (by rw [q];simp)] at e;cases e)
  have hM:Mod K mg (hidT s₁.heap H):=⟨hKb,nsK hns,⟨mb,nsK hb,hbb⟩,let ⟨mc,h1,h2⟩:=hlim;⟨mc,nsK h1,h2⟩⟩;have e0:Env0 P w K mg (hidT s₁.heap H) callerA [] s₁ H:=⟨rfl,hM,λ b o e=>of_hidT e,Nat.le_of_eq (hidT_size _ _),trivial,λ b hb=>absurd (show b∈([]:List Addr) from hb) (by simp),hok,.of_eq hg⟩;refine codeAny_mono ((F _ hKb (nsK hns)).run callerA [] s₁ H ⟨[.ref a],[]⟩ [.ref a] [.ref a] _ _ hr e0 (hbind s₁ (.ref a)) (.cons rfl .nil) (hsp H hO hS)) λ r s' h=>?_
  cases r with
  | error e=>exact (hCX H e s' h).elim
  | ok fl=>
   cases fl with
   | next=>exact False.elim h
   | brk=>exact False.elim h
   | cont=>exact False.elim h
   | ret u=>
    obtain ⟨v,H',os,bare,un,hok',r',q⟩:=h;have q':v=.bl true:=q;subst q';obtain rfl:u=Value.bool true:=r';refine ⟨rfl,OldK.of_keep λ b o e=>?_,os,bare⟩
    cases q:H b with
    | none=>exact un.keep b o e q (by intro z;exact absurd (show b∈([]:List Addr) from z) (by simp)) (by simp)
    | some u=>
     rcases hO b with z | ⟨ob,xs,z⟩
     ·rw [q] at z;cases z
     ·have z2:=un.frzs b ob _ z;obtain ⟨e1,_⟩:=hok b _ z;obtain ⟨e2,_⟩:=hok' b _ z2;rw [e] at e1;cases e1;exact e2
 cases hk:K.lookup a with
 | some o=>
  have e:=KX a o hk;rw [ha] at e
  cases e;refine core (λ _=>none) (λ _=>.inl rfl) (.inr ⟨_,vs.toArray,_,hk,rfl,rfl,rfl,by rw [fR,lenV];exact hl,by simpa using rv⟩) (λ b u z=>by have z':(none:Option HO)=some u:=z;cases z') (λ b z=>absurd rfl z) λ z=>absurd rfl z
 | none=>
  refine core (λ b=>if b=a then some (.frz { cls:=.type "list",data:=.seq vs.toArray } (.lst (ns.map V.int))) else none) (λ b=>?_) (.inl (.inr ⟨{ cls:=.type "list",data:=.seq vs.toArray },if_pos rfl⟩)) (λ b u z=>?_) (λ b z=>?_) λ _=>hk
  ·by_cases hb:b=a
   ·exact .inr ⟨_,_,if_pos hb⟩
   ·exact .inl (if_neg hb)
  ·by_cases hb:b=a
   ·have z':=(if_pos hb).symm.trans z
    cases z';subst hb;exact ⟨ha,by rw [fG];exact hl,vs,_,rv,ha⟩
   ·have z':=(if_neg hb).symm.trans z
    cases z'
  ·by_cases hb:b=a
   ·exact hb
   ·exact absurd (if_neg hb) z
end L2
namespace L2
open PySem PySem.Spec PyProof.Rows
end L2
namespace L2
open PySem PySem.Spec PyProof.Rows
noncomputable def aN (s:Stmt) (j:Nat):Stmt:=match s with
 | .ClassDef _ _ _ body _ _ _ _ _ _ _=>body.getD j (.Pass ⟨0,0,0,0⟩)
 | _=>.Pass ⟨0,0,0,0⟩
noncomputable def bU (s:Stmt):Arguments:=match s with
 | .FunctionDef _ a _ _ _ _ _ _ _ _=>a
 | _=>{ posonlyargs:=[],args:=[],vararg:=none,kwonlyargs:=[],kw_defaults:=[],kwarg:=none,defaults:=[] }
noncomputable def aV (s:Stmt):List Stmt:=match s with
 | .FunctionDef _ _ b _ _ _ _ _ _ _=>b
 | _=>[]
noncomputable def ah (s:Stmt):Scope:=match s with
 | .FunctionDef _ _ _ _ _ _ sc _ _ _=>sc
 | _=>{ kind:=.function,names:=[],isGenerator:=false,isCoroutine:=false }
noncomputable abbrev CX0:CXT:=λ _ _ _ _ _ _=>False
noncomputable abbrev E0:XK:=λ _ _ _=>False
theorem ak {X:Cx}:bM CX0 X E0:=λ _ _ _ _ _ _ _ h=>h.elim
structure Fun (K:W.Frag) (x qual:Str) (st:Stmt) (f:Addr) (fd:FuncData):Prop where
 ex:∃ (oc:Value) (od:Option Addr) (kV doc pm:Value) (an:Option Addr) (cdv ct:Value) (osl:Array (Option Value)),
  fd=PySem.W.fnOf x qual (bU st) (aV st) (ah st) .none kV doc pm an cdv ct/\K.lookup f=some ⟨oc,od,.func fd,osl⟩/\PySem.W.codeIn K cdv qual=true
 kp:PySem.W.keepIn K (.ref f)=true
section
variable {P:Program} {w:World} {K:W.Frag} {mg:Str->Option Value} {base:Heap}
theorem Fun.ok {x qual:Str} {st:Stmt} {f:Addr} {fd:FuncData} {N ps:List Str} {k:Nat} {sp:Sp} (F:Fun K x qual st f fd) (S:FnScope N ps (ah st)) (len:∀ vs H Q E,sp vs H Q E->vs.length=ps.length)
  (hbody:∀ (cdv:Value) (A:Around) (outer:List Env) (s:Shared) (H:Hp) (vs:List V) (Q:VK) (E:XK),Room k (A.deeper (envOfC qual (ah st) s.heap.objs.size f cdv))->sp vs H Q E->
   ∃ t,PSs (aG CX0 P w K mg base N qual (ah st) f cdv A outer s H E).nox (aV st) t/\t { nx:=λ _ H'=>Q .non H',rt:=Q } (cf N vs) H):FnOk P w K mg base CX0 (k+1) f fd ps sp:=by
 obtain ⟨oc,od,kV,doc,pm,an,cdv,ct,osl,rfl,lk,hcd⟩:=F.ex;refine fn_of lk hcd S len λ A outer s H vs Q E hr hsp=>?_;obtain ⟨t,h,q⟩:=hbody cdv A outer s H vs Q E hr hsp;exact ⟨t,h.nox,q⟩
theorem Fun.binds {x qual:Str} {st:Stmt} {f:Addr} {fd:FuncData} {ps:List Str} (F:Fun K x qual st f fd)
  (h:∀ (kV doc pm:Value) (an:Option Addr) (cdv ct:Value) (us:List Value),us.length=ps.length->bindArgs (PySem.W.fnOf x qual (bU st) (aV st) (ah st) .none kV doc pm an cdv ct) ⟨us,[]⟩=pure (ps.zip us)):Binds K fd ps []:=by
 obtain ⟨oc,od,kV,doc,pm,an,cdv,ct,osl,rfl,lk,hcd⟩:=F.ex;exact .all (h kV doc pm an cdv ct)
theorem fun_mk {x qual:Str} {st:Stmt} {f:Addr} {oc:Value} {od an:Option Addr} {osl:Array (Option Value)} {kV doc pm cdv ct:Value} (l:K.lookup f=some ⟨oc,od,.func (PySem.W.fnOf x qual (bU st) (aV st) (ah st) .none kV doc pm an cdv ct),osl⟩)
  (c:PySem.W.codeIn K cdv qual=true) (k:PySem.W.keepIn K (.ref f)=true):Fun K x qual st f (PySem.W.fnOf x qual (bU st) (aV st) (ah st) .none kV doc pm an cdv ct):=⟨⟨oc,od,kV,doc,pm,an,cdv,ct,osl,rfl,l,c⟩,k⟩
end
theorem bB {A:Around} {k:Nat} (hr:Room k A):A.units+1<cLine:=gy (Nat.add_le_add_left (by decide:1<=64) _) hr.units
theorem aE {n:Nat} (h:n<=1000):n<sizeLine:=gy h (by decide)
section
variable {X:Cx}
theorem pv (i:Nat) {x:Str} {pos:Pos} (hN:X.N[i]?=some x:=by rfl) (hv:Vis X.env.scope x:=by first | exact Or.inl rfl | exact Or.inr (Or.inl rfl) | exact Or.inr (Or.inr rfl)) (hd:(x == ("__debug__":Str))=false:=by decide)
  (hcd:(x == ("__classdict__":Str))=false:=by decide):PE X (.Name x pos) (tVar i):=pe_var hN hv hd hcd
end
theorem iteF {A B:Prop} (h:B):if false=true then A else B:=by
 rw [if_neg fW];exact h
theorem iteT {A B:Prop} (h:A):if true=true then A else B:=by
 rw [if_pos rfl];exact h
theorem ite2 {c A B:Prop} [Decidable c] (h1:c->A) (h2:¬ c->B):if c then A else B:=by
 by_cases h:c
 ·rw [if_pos h];exact h1 h
 ·rw [if_neg h];exact h2 h
theorem iteNS {c A B:Prop} [Decidable c] (hc:c) (h:B):if (!decide c)=true then A else B:=by
 rw [fV hc];exact iteF h
noncomputable def Same (H H':Hp):Prop:=∀ b o,H b=some o->H' b=some o
theorem Same.refl (H:Hp):Same H H:=λ _ _ h=>h
theorem Same.trans {H H1 H2:Hp} (a:Same H H1) (b:Same H1 H2):Same H H2:=λ c o h=>b c o (a c o h)
theorem Same.free {H H':Hp} (e:Same H H') {l:Addr} (h:H' l=Option.none):H l=Option.none:=by
 cases q:H l with
 | none=>rfl
 | some o=>
  rw [e l o q] at h
  cases h
theorem Same.seq {K:W.Frag} {H H':Hp} {a:Addr} {xs:List V} (e:Same H H') (h:SqL K H a xs):SqL K H' a xs:=by
 rcases h with (h | ⟨o,h⟩) | h
 ·exact .inl (.inl (e _ _ h))
 ·exact .inl (.inr ⟨o,e _ _ h⟩)
 ·exact .inr h
end L2
set_option maxHeartbeats 4000000
set_option exponentiation.threshold 300
namespace L2
open PySem PySem.Spec PyProof.Rows
section
variable {X:Cx}
theorem bits_le {k:Int} {n:Nat} (h:k.natAbs<2 ^ n):Builtin.Int.intBits k<=n:=by
 unfold Builtin.Int.intBits
 split
 ·exact fY _
 ·rename_i h0
  have hz:k.natAbs≠0:=by
   intro z;apply h0
   have:k=0:=by omega
   simp [this]
  have:k.natAbs.log2<n:=(Nat.log2_lt hz).mpr h
  omega
noncomputable def CMulB (i j:Int):Prop:=i.natAbs<2 ^ 9000/\j.natAbs<2 ^ 9000
theorem CMulB.ok {i j:Int} (h:CMulB i j):IntMulOk i j:=by
 refine IntMulOk.of_bits (fO (bits_le h.1) (by decide)) (fO (bits_le h.2) (by decide))
theorem aP:OpR X (binaryOp .Mult) (rI CMulB λ i j=>.int (i*j)):=opI λ _ _ _ _ _ _ _ hc q=>mul_int q hc.ok
noncomputable def CDivB (_ j:Int):Prop:=j≠0/\j.natAbs<2 ^ 9000
theorem CDivB.ok {i j:Int} (h:CDivB i j):Builtin.divisionGoesByPylong i j=false:=
 PyProof.noPylong_of_log2 ((Nat.log2_lt (by have:=h.1;omega)).mpr h.2)
theorem a6:OpR X (binaryOp .FloorDiv) (rI CDivB λ i j=>.int (i.fdiv j)):=opI λ _ _ _ _ _ _ _ hc q=>floordiv_int hc.1 q (.inl hc.ok)
inductive IrIsI (K:W.Frag) (c:Value) (vs:List V) (H:Hp) (Q:VK):Prop
 | mk (x:_) (y:_) (t:_) (b:_) (h1:vs=[x,y]) (h2:(∀ u,RelV y u->u=c)) (h3:TyOf K H x t) (h4:PySem.W.kitOne K t c=some b) (h5:Q (.bl b) H):IrIsI K c vs H Q
noncomputable def rIsI (K:W.Frag) (c:Value):List V->Hp->VK->Prop:=λ vs H Q=>IrIsI K c vs H Q
theorem df {c:Value}:d9 X (.builtin "isinstance") (rIsI X.K c):=by
 intro pins s σ H xs us Q I r h;obtain ⟨x,y,t,b,rfl,hc,ty,e,q⟩:=h
 cases r with
 | cons r1 r2=>
  cases r2 with
  | cons r3 r4=>
   cases r4
   have:=hc _ r3
   subst this;exact isinst_ok I r1 ty e λ tk=>⟨.bl b,H,I.tok tk,rfl,q⟩
end
section
variable {X:Cx}
noncomputable def bw (X:Cx) (pins:List (Addr × Obj)) (N':List Str) (scope:Scope) (cl:List (Str × Addr)) (C:Addr) (fp:List Addr) (s:Shared) (H:Hp):Cx:=
 { X with N:=N',s₀:=s,H₀:=H,env:=compEnvC scope cl C X.env,outer:=X.stack,stack:=X.stack,ex:=fp,fn:=λ _=>false,pn:=X.pn++pins,xe:=λ _ _=>False }
structure Clos (X:Cx) (scope:Scope) (cl:List (Str × Addr)):Prop where
 clos:closureFor scope X.env=pure cl
 sub:∀ y c,cl.lookup y=some c->X.env.cells.lookup y=some c
 has:∀ y,((relabel scope X.env).names.lookup y=some .cell∨(relabel scope X.env).names.lookup y=some .free)->∃ c,cl.lookup y=some c
theorem relabel_none {scope:Scope} {env:Env} (hf:∀ x∈scope.names,x.2≠.free):relabel scope env=scope:=by
 unfold relabel
 have:(scope.names.map λ(n,k)=>if (k == NameKind.free && env.scope.kind == .function && env.kindOf n == some .cell) then (n,NameKind.cell) else (n,k))=scope.names:=by
  refine map_eq_self λ x hx=>?_;obtain ⟨n,k⟩:=x;have h1:(k == NameKind.free)=false:=by simpa using hf _ hx
  simp [h1]
 rw [this]
theorem Clos.none {scope:Scope} (hf:∀ x∈scope.names,x.2≠.free) (hc:∀ x∈scope.names,x.2≠.cell):Clos X scope []:=by
 refine ⟨closureFor_none hf,λ y c h=>by simp at h,λ y h=>?_⟩;rw [relabel_none hf] at h;rcases h with h | h
 ·exact absurd rfl (hc _ (gO h))
 ·exact absurd rfl (hf _ (gO h))
noncomputable def Reads (X:Cx) (scope:Scope) (rest:List Str) (sel:St->St):Prop:=
 ∀ σ,(sel σ).length=rest.length/\∀ (i:Nat) (y:Str) (v:V),rest[i]?=some y->(sel σ)[i]?=some (some v)->∃ j:Nat,X.N[j]?=some y/\σ[j]?=some (some v)/\X.env.scope.names.lookup y=some .cell/\(relabel scope X.env).names.lookup y=some .cell
end
end L2
namespace L2
open PySem PySem.Spec PyProof.Rows
theorem ifV {k m:Int} {A B:Prop} (h1:k=m->A) (h2:k≠m->B):if decide (V.int k=V.int m)=true then A else B:=by
 by_cases h:k=m
 ·rw [if_pos (by rw [h];exact fV rfl)];exact h1 h
 ·rw [if_neg (by rw [fU (by intro z;exact h (V.int.inj z))];decide)];exact h2 h
theorem ifB {c A B:Prop} [Decidable c] (h1:c->A) (h2:¬ c->B):if decide c=true then A else B:=by
 by_cases h:c
 ·rw [if_pos (fV h)];exact h1 h
 ·rw [if_neg (by rw [fU h];decide)];exact h2 h
theorem eD {c:Bool} {A B:Prop} (h:c=true) (a:A):if c=true then A else B:=by
 rw [if_pos h];exact a
theorem b9 {c:Bool} {A B:Prop} (h:c=false) (b:B):if c=true then A else B:=by
 rw [if_neg (by rw [h];decide)];exact b
theorem neV {k m:Int} (h:k≠m):decide (V.int k=V.int m)=false:=fU (by intro z;exact h (V.int.inj z))
end L2
namespace L2
open PySem PySem.Spec PyProof.Rows
section
variable {X:Cx} {st:Stmt} {rest:List Stmt} {t u:TS}
noncomputable def tCut (t u:TS):TS:=λ D σ H=>∃ M:St->Hp->Prop,t { D with nx:=M } σ H/\∀ σ' H',M σ' H'->u D σ' H'
theorem ax (h1:PS X st t) (h2:PSs X rest u):PSs X (st::rest) (tCut t u):=by
 intro pins s σ H D I ⟨M,h,hM⟩;refine wpAny_execs_cons (thn (h1 pins s σ H { D with nx:=M } I h) λ f s1 q=>?_)
 cases f with
 | next=>
  obtain ⟨σ',H',I',q⟩:=q;exact h2 pins s1 σ' H' D I' (hM σ' H' q)
 | ret v=>exact q
 | brk=>exact q
 | cont=>exact q
end
noncomputable def rLen (K:W.Frag):List V->Hp->VK->Prop:=λ xs H Q=>∃ p ys,xs=[.ref p]/\(SqL K H p ys∨SqT K H p ys)/\Q (.int ys.length) H
theorem aW {X:Cx}:d9 X (.builtin "len") (rLen X.K):=call_len_seq
end L2
namespace L2
open PySem
noncomputable def Trail (h:Heap) (e:Addr) (vs:Array Value):Option Addr->Prop
 | none=>vs[1]?=some .none
 | some T=>vs[1]?=some (.ref T)/\T≠e/\∃ oT ts,h.get? T=some oT/\oT.data=.fields ts/\ts[3]?=some .none
structure Noted (l:List Env) (e:Addr) (oe:Obj) (vs:Array Value) (tr:Option Addr) (h h':Heap):Prop where
 exc:∃ vs' T,h'.get? e=some { oe with data:=.fields vs' }/\vs'[0]?=vs[0]?/\h.objs.size<=T/\Trail h' e vs' (some T)
 keep:∀ b o,b≠e->tr≠some b->b ∉ l.filterMap (·.frame)->h.get? b=some o->h'.get? b=some o
 slot:∀ b o,b≠e->tr≠some b->b∈l.filterMap (·.frame)->h.get? b=some o->∃ sl,h'.get? b=some { o with slots:=sl }
section
variable {M:Model} {A:Around} {E:Value->Shared->Prop} {s:Shared} {base:Heap} {env:Env} {outer:List Env} {L e:Addr} {oe:Obj} {vs:Array Value} {Q:Unit->Shared->Prop}
theorem mapFields_eq {o:Obj} {ws:Array Value} (hd:o.data=.fields ws) (f:Array Value->Array Value):Obj.mapFields f o = { o with data:=.fields (f ws) }:=by
 obtain ⟨c,d,dt,sl⟩:=o
 cases hd;rfl
theorem entry_core {head:Value} {hadNext:Bool} (hfr:A.frames=some (env::outer)) (hl:s.heap.FunFrames base (env::outer)) (hf:env.frame=some L)
  (he:s.heap.get? e=some oe) (hd:oe.data=.fields vs) (hsz:1<vs.size) (h:∀ h',Noted (env::outer) e oe vs none s.heap h'->Q () { s with heap:=h' }) :
  wpAny M A (do let a <- frameOf env;let pl <- entryPlaceOf L hadNext;let b <- EntryCells.newEntry head a .none (rawInt L) .none pl;setField (.ref e) 1 b) (λ _ s'=>wpAny M A (setFlight (.ref e) none) Q E s') E s:=by
 have ne:∀ b∈(env::outer).filterMap (·.frame),b≠e:=λ b hm z=>by
  obtain ⟨_,o,ho,hnf⟩:=hl.mem hm;rw [z,he] at ho
  cases ho;exact hnf vs hd
 refine fH (wpAny_frameOf_fun hfr hl hf λ h₁ hs₁=>fH (wpAny_entryPlaceOf λ pl hpl=>?_));unfold EntryCells.newEntry newFields;refine fH (wpAny_newObj_type ?_ (hpl.sizeOk5 _ _ _ _ _));have a₁:h₁.get? e=some oe:=(hs₁.2.1 e λ hm=>ne e hm rfl).trans he;generalize hot:({ cls:=.type "traceback",dict:=none,data:=.fields ([head,.ref L,.none,rawInt L,.none]++(if pl.isEmpty then List.replicate 6 Value.none else pl)).toArray }:Obj)=ot;have fr:ot.isFreed=false:=by rw [<- hot];rfl
 obtain ⟨ts,hts,h3⟩:∃ ts:Array Value,ot.data=.fields ts/\3<ts.size:=by
  refine ⟨_,by rw [<- hot],?_⟩;simp only [fR,fX,gG,List.length_nil];omega
 have a₂:=fJ (h:=h₁) ot a₁;refine wpAny_setField a₂ hd hsz ?_;have nT:h₁.objs.size≠e:=Nat.ne_of_gt (fT a₁);have d₃:=Obj.data_mapFields hd (·.setIfInBounds 1 (Value.ref h₁.objs.size));have a₃:=Heap.get?_update_self (Obj.mapFields (·.setIfInBounds 1 (Value.ref h₁.objs.size))) a₂ (Obj.isFreed_of_fields d₃);have t₃:=(gU (h₁.push ot) (Obj.mapFields (·.setIfInBounds 1 (Value.ref h₁.objs.size))) (ib nT)).trans (gm h₁ fr);unfold setFlight;refine fH (wpAny_field a₃ d₃ (x:=.ref h₁.objs.size) (by simp [hsz]) ?_);rw [if_pos (show (Value.ref h₁.objs.size != Value.none)=true from by simp)];refine wpAny_setField t₃ hts h3 (h _ ?_)
 have old:∀ b o,b≠e->h₁.get? b=some o->(((h₁.push ot).update e (Obj.mapFields (·.setIfInBounds 1 (Value.ref h₁.objs.size)))).update h₁.objs.size (Obj.mapFields (·.setIfInBounds 3 Value.none))).get? b=some o:=λ b o hb q=>by
  rw [gU _ _ (Nat.ne_of_gt (fT q)),gU _ _ (ib hb)];exact fJ _ q
 have e₄:=(gU ((h₁.push ot).update e (Obj.mapFields (·.setIfInBounds 1 (Value.ref h₁.objs.size)))) (Obj.mapFields (·.setIfInBounds 3 Value.none)) nT).trans a₃;have t₄:=Heap.get?_update_self (Obj.mapFields (·.setIfInBounds 3 Value.none)) t₃ (Obj.isFreed_of_fields (Obj.data_mapFields hts _));refine ⟨⟨_,h₁.objs.size,by rw [mapFields_eq hd] at e₄;exact e₄,by rw [Array.getElem?_setIfInBounds_ne (by decide)],?_,by simp [hsz],nT,_,_,t₄,Obj.data_mapFields hts _,by simp [h3]⟩,λ b o nb _ hb q=>?_,λ b o nb _ hb q=>?_⟩
 ·exact Nat.le_of_eq hs₁.1.symm
 ·exact old b o nb ((hs₁.2.1 b hb).trans q)
 ·obtain ⟨sl,q₁⟩:=hs₁.2.2 b o q;exact ⟨sl,old b _ nb q₁⟩
theorem noted_ok {tr:Option Addr} (hfr:A.frames=some (env::outer)) (hl:s.heap.FunFrames base (env::outer)) (hf:env.frame=some L)
  (he:s.heap.get? e=some oe) (hd:oe.data=.fields vs) (ht:Trail s.heap e vs tr) (h:∀ h',Noted (env::outer) e oe vs tr s.heap h'->Q () { s with heap:=h' }) :
  wpAny M A (noteFrame (.ref e) env) (λ _ s'=>wpAny M A (setFlight (.ref e) none) Q E s') E s:=by
 unfold noteFrame;simp only [hf]
 cases tr with
 | none=>
  have ht:vs[1]?=some .none:=ht;refine fH (wpAny_field he hd ht ?_);rw [if_neg (by decide)];exact entry_core hfr hl hf he hd (ic.mp ht).1 h
 | some T=>
  obtain ⟨h1,nT,oT,ts,gT,dT,h3⟩:=ht;refine fH (wpAny_field he hd h1 ?_);rw [if_pos (show (Value.ref T != Value.none)=true from by simp)];refine fH (wpAny_field gT dT h3 ?_);rw [if_neg (show ¬ ((Value.none == rawInt L)=true) from by simp [rawInt])];refine fH (wpAny_setField gT dT (ic.mp h3).1 ?_);have oth:∀ b,b≠T->(s.heap.update T (Obj.mapFields (·.setIfInBounds 3 Value.none))).get? b=s.heap.get? b:=λ b hb=>gU _ _ (ib hb)
  have nr:∀ b o,s.heap.get? b=some o->(∀ ws,o.data≠.fields ws)->b≠T:=λ b o hb hn q=>by
   rw [q,gT] at hb
   cases hb;exact hn ts dT
  refine entry_core hfr (hl.of_keeps λ b o hb hn=>⟨o,(oth b (nr b o hb hn)).trans hb,rfl⟩) hf ((oth e (ib nT)).trans he) hd (ic.mp h1).1 λ h' N=>h h' ⟨?_,?_,?_⟩
  ·obtain ⟨vs',T',q1,q2,q3,q4⟩:=N.exc;exact ⟨vs',T',q1,q2,by rw [Heap.size_after_update] at q3;exact q3,q4⟩
  ·intro b o nb nt hb q;exact N.keep b o nb (by intro z;cases z) hb ((oth b λ z=>nt (by rw [z])).trans q)
  ·intro b o nb nt hb q;exact N.slot b o nb (by intro z;cases z) hb ((oth b λ z=>nt (by rw [z])).trans q)
theorem leaving_ok {tr:Option Addr} (hfr:A.frames=some (env::outer)) (hl:s.heap.FunFrames base (env::outer)) (hf:env.frame=some L)
  (he:s.heap.get? e=some oe) (hd:oe.data=.fields vs) (ht:Trail s.heap e vs tr) (h:∀ h',Noted (env::outer) e oe vs tr s.heap h'->Q () { s with heap:=h' }) :
  wpAny M A (leaving env (.ref e)) Q E s:=by
 unfold leaving;exact fH (noted_ok hfr hl hf he hd ht h)
end
end L2
namespace L2
open PySem PySem.Spec PyProof.Rows
section
variable {P:Program} {w:World} {H:Hp} {h:Heap} {a:Addr} {o:HO}
theorem ObjOk.there (x:ObjOk P w H h a o):∃ ob,h.get? a=some ob:=by
 cases o with
 | lst xs=>obtain ⟨_,_,_,_,e⟩:=x;exact ⟨_,e⟩
 | tup xs=>obtain ⟨_,_,_,⟨_,e,_⟩⟩:=x;exact ⟨_,e⟩
 | dK kvs=>obtain ⟨_,_,_,_,o,_,_,e,_⟩:=x;exact ⟨_,e⟩
 | dT kvs=>obtain ⟨_,_,_,_,o,_,_,e,_⟩:=x;exact ⟨_,e⟩
 | set S n=>obtain ⟨o,_,_,_,e,_⟩:=x;exact ⟨_,e⟩
 | ins C dx fs=>obtain ⟨_,_,_,e,_⟩:=x;exact ⟨_,e⟩
 | own y=>exact x
 | xd fs=>obtain ⟨_,⟨_,_,_,e,_⟩,_⟩:=x;exact ⟨_,e⟩
 | rng lo hi=>obtain ⟨_,_,_,e⟩:=x;exact ⟨_,e⟩
 | frz ob u=>obtain ⟨e,_⟩:=x;exact ⟨_,e⟩
 | tbl ps=>exact ⟨_,(show h.get? a=some _ from x)⟩
 | met f y=>exact ⟨_,(show h.get? a=some _ from x)⟩
 | ext φ=>obtain ⟨_,e,_⟩:=x;exact e
theorem HOk.noObj (x:HOk P w H h) (e:h.get? a=none):H a=none:=by
 cases q:H a with
 | none=>rfl
 | some o=>
  obtain ⟨ob,z⟩:=(x a o q).there;rw [e] at z
  cases z
end
section
variable {X:Cx} {pins:List (Addr × Obj)} {σ:St} {H H':Hp} {s s':Shared} {h':Heap}
noncomputable def Off (X:Cx) (pins:List (Addr × Obj)) (b:Addr):Prop:=
 X.s₀.heap.get? b=none/\b≠X.env.locals/\b ∉ X.fs/\(∀ x c,X.env.cells.lookup x=some c->c≠b)/\∀ p∈X.pn++pins,p.1≠b
theorem Inv.off {b:Addr} (I:Inv X pins σ H s) (hex:X.ex=[]) (hb:s.heap.get? b=none):Off X pins b:=by
 have no:∀ {c:Addr} {o:Obj},s.heap.get? c=some o->c≠b:=λ e z=>by rw [z,hb] at e;cases e
 refine ⟨?_,λ z=>?_,λ z=>?_,λ x c e=>?_,λ p hp=>no (I.pin p hp).1⟩
 ·cases q:X.s₀.heap.get? b with
  | none=>rfl
  | some o=>
   obtain ⟨o',e⟩:=I.base.there b o q (by rw [hex];simp);rw [hb] at e
   cases e
 ·obtain ⟨m,⟨o,_,_,e,_⟩,_⟩:=I.loc;exact no e z.symm
 ·obtain ⟨_,o,e,_⟩:=I.funs.mem z;exact no e rfl
 ·obtain ⟨v,o,q,_⟩:=I.cell x c e;exact no q
theorem Inv.stepO {ch:List Addr} (I:Inv X pins σ H s) (hch:∀ b∈ch,Off X pins b)
  (keep:∀ b o,b≠X.env.locals->b ∉ X.fs->b ∉ ch->s.heap.get? b=some o->H b=none->h'.get? b=some o)
  (slot:∀ b o,b≠X.env.locals->b∈X.fs->b ∉ ch->s.heap.get? b=some o->H b=none->∃ sl,h'.get? b=some { o with slots:=sl }) (free:∀ b o,b ∉ ch->s.heap.get? b=some o->H b=none->H' b=none)
  (there:∀ b o,b ∉ ch->s.heap.get? b=some o->∃ o',h'.get? b=some o')
  (tups:∀ b xs,H b=some (.tup xs)->H' b=some (.tup xs)) (frzs:∀ b o u,H b=some (.frz o u)->H' b=some (.frz o u)) (tbls:∀ b ps,H b=some (.tbl ps)->∃ more,H' b=some (.tbl (ps++more)))
  (ns:∀ m,s.heap.Ns X.env.locals m->h'.Ns X.env.locals m) (hok:HOk X.prog X.w H' h') :
  Inv X pins σ H' { s with heap:=h' }:=by
 have neL:∀ b o,X.s₀.heap.get? b=some o->b≠X.env.locals:=λ b o e=>gF (gi (fT e) I.ok.above);have neC:∀ b o,X.s₀.heap.get? b=some o->b ∉ ch:=λ b o e hb=>by rw [(hch b hb).1] at e;cases e
 have cellK:∀ x c,X.env.cells.lookup x=some c->∀ v,s.heap.IsCell c v->h'.IsCell c v:=λ x c e v ⟨o,ho,hd⟩=>by
  have nch:c ∉ ch:=λ z=>(hch c z).2.2.2.1 x c e rfl;by_cases hc:c∈X.fs
  ·obtain ⟨sl,q⟩:=slot c o (I.cne x c e) hc nch ho (I.freeC x c e);exact ⟨_,q,hd⟩
  ·exact ⟨o,keep c o (I.cne x c e) hc nch ho (I.freeC x c e),hd⟩
 refine ⟨I.ok,I.os,I.bare,⟨λ b o e n hb hx=>?_,λ b o e n hb hx=>?_,λ b o e n hx=>?_,λ b o e hx=>?_,λ b xs e=>tups b xs (I.base.tups b xs e),λ b o xs e=>frzs b o xs (I.base.frzs b o xs e),λ b ps e=>?_⟩,?_,λ x c e=>?_,?_,λ x c e=>?_,λ p hp=>?_,hok,I.len⟩
 ·exact keep b o (neL b o e) hb (neC b o e) (I.base.keep b o e n hb hx) (I.base.free b o e n hx)
 ·obtain ⟨sl,e1⟩:=I.base.slot b o e n hb hx;obtain ⟨sl',e2⟩:=slot b _ (neL b o e) hb (neC b o e) e1 (I.base.free b o e n hx);exact ⟨sl',e2⟩
 ·obtain ⟨o',e1⟩:=I.base.there b o e hx;exact free b o' (neC b o e) e1 (I.base.free b o e n hx)
 ·obtain ⟨o',e1⟩:=I.base.there b o e hx;exact there b o' (neC b o e) e1
 ·obtain ⟨m1,e1⟩:=I.base.tbls b ps e;obtain ⟨m2,e2⟩:=tbls b _ e1;exact ⟨m1++m2,by rw [e2,Array.append_assoc]⟩
 ·obtain ⟨m,hn,hl⟩:=I.loc;refine ⟨m,ns m hn,λ i x v e1 e2 e3=>?_⟩;obtain ⟨u,r,l⟩:=hl i x v e1 e2 e3;refine ⟨u,r,?_⟩;rcases l with l | ⟨k,c,e,z⟩
  ·exact .inl l
  ·exact .inr ⟨k,c,e,cellK x c e _ z⟩
 ·obtain ⟨v,z⟩:=I.cell x c e;exact ⟨v,cellK x c e v z⟩
 ·obtain ⟨m,⟨o,_,_,ho,_⟩,_⟩:=I.loc;exact free _ o (λ z=>(hch _ z).2.1 rfl) ho I.free
 ·obtain ⟨v,o,ho,hd⟩:=I.cell x c e;exact free c o (λ z=>(hch c z).2.2.2.1 x c e rfl) ho (I.freeC x c e)
 ·obtain ⟨e,n,ne,nf,d⟩:=I.pin p hp;have nch:p.1 ∉ ch:=λ z=>(hch p.1 z).2.2.2.2 p hp rfl;exact ⟨keep p.1 p.2 ne nf nch e n,free p.1 p.2 nch e n,ne,nf,d⟩
theorem Inv.noted {e:Addr} {oe:Obj} {vs:Array Value} {tr:Option Addr} (I:Inv X pins σ H s) (hH:H e=none) (ho:Off X pins e) (ht:∀ T,tr=some T->H T=none/\Off X pins T)
  (N:Noted X.stack e oe vs tr s.heap h'):Inv X pins σ H { s with heap:=h' }:=by
 have any:∀ b o,b ∉ e::tr.toList->s.heap.get? b=some o->∃ sl,h'.get? b=some { o with slots:=sl }:=λ b o hb q=>by
  have n1:b≠e:=λ z=>hb (by rw [z];exact gR);have n2:tr≠some b:=λ z=>hb (gC _ (by rw [z];simp));by_cases hs:b∈frs X.stack
  ·exact N.slot b o n1 n2 hs q
  ·exact ⟨o.slots,N.keep b o n1 n2 hs q⟩
 have kp:∀ b o,b≠X.env.locals->b ∉ X.fs->b ∉ e::tr.toList->s.heap.get? b=some o->h'.get? b=some o:=λ b o hL hb hc q=>
  N.keep b o (λ z=>hc (by rw [z];exact gR)) (λ z=>hc (gC _ (by rw [z];simp))) (λ z=>(gw.mp (I.stkSub b z)).elim hL hb) q
 have offs:∀ b∈e::tr.toList,H b=none/\Off X pins b:=λ b hb=>by
  rcases gw.mp hb with z | z
  ·rw [z];exact ⟨hH,ho⟩
  ·exact ht b (by simpa using z)
 refine I.stepO (ch:=e::tr.toList) (λ b hb=>(offs b hb).2) (λ b o hL hb hc q _=>kp b o hL hb hc q) (λ b o _ _ hc q _=>any b o hc q) (λ _ _ _ _ n=>n)
  (λ b o hc q=>let ⟨_,z⟩:=any b o hc q;⟨_,z⟩) (λ _ _ q=>q) (λ _ _ _ q=>q) (λ b ps q=>⟨#[],by rw [q];simp⟩) (λ m hm=>?_) (λ b u q=>?_)
 ·obtain ⟨o,es,ep,g,r⟩:=hm;obtain ⟨sl,g'⟩:=any _ o (λ z=>(offs _ z).2.2.1 rfl) g;exact ⟨_,es,ep,g',r⟩
 ·refine (I.hok b u q).stay (λ c v hc g=>?_) (λ _ z=>z) λ _ _ z=>z
  have trk:H c≠none:=by
   rcases hc with z | z
   ·rw [z,q];simp
   ·rw [z];simp
  refine N.keep c v (λ z=>trk (by rw [z];exact hH)) (λ z=>trk (ht c z).1) (λ z=>trk (I.stkFree c z)) g
noncomputable def XFly (X:Cx) (pins:List (Addr × Obj)) (H:Hp) (h:Heap) (x:Addr) (cls:Value) (d:Option Addr):Prop:=
 H x=none/\Off X pins x/\∃ vs sl tr,h.get? x=some ⟨cls,d,.fields vs,sl⟩/\Trail h x vs tr/\∀ T,tr=some T->H T=none/\Off X pins T
noncomputable def XP (X:Cx) (pins:List (Addr × Obj)) (σ:St) (E:XK) (e:Value) (s':Shared):Prop:=∃ x cls d H',e=.ref x/\Inv X pins σ H' s'/\XFly X pins H' s'.heap x cls d/\E cls d H'
noncomputable def Fly (g:Heap) (H:Hp) (h:Heap) (x:Addr) (cls:Value) (d:Option Addr):Prop:=
 g.get? x=none/\H x=none/\∃ vs sl tr,h.get? x=some ⟨cls,d,.fields vs,sl⟩/\Trail h x vs tr/\∀ T,tr=some T->g.get? T=none/\H T=none
noncomputable def CX1 (P:Program) (w:World):CXT:=λ outer H s E e s'=>∃ x cls d H',e=.ref x/\s'.os=s.os/\AllBare s'.gens/\Un (frs outer) [] H H' s.heap s'.heap/\HOk P w H' s'.heap/\Fly s.heap H' s'.heap x cls d/\E cls d H'
theorem XP.of_call {E:XK} {e:Value} (hex:X.ex=[]) (I:Inv X pins σ H s) (h:CX1 X.prog X.w X.stack H s E e s'):XP X pins σ E e s':=by
 obtain ⟨x,cls,d,H',rfl,os,bare,un,hok,⟨f1,f2,vs,sl,tr,f3,f4,f5⟩,q⟩:=h;exact ⟨x,cls,d,H',rfl,I.call' os un hok bare (λ b z=>absurd z (by simp)),⟨f2,I.off hex f1,vs,sl,tr,f3,f4,λ T z=>⟨(f5 T z).2,I.off hex (f5 T z).1⟩⟩,q⟩
end
section
variable {P:Program} {w:World} {K:W.Frag} {mg:Str->Option Value} {base:Heap} {N:List Str} {qual:Str} {scope:Scope} {f:Addr} {cd:Value} {A:Around} {outer:List Env} {s₀:Shared} {H₀:Hp} {E:XK}
theorem xe_of {pins:List (Addr × Obj)} {σ:St} {e:Value} {s':Shared} (h:XP (aG (CX1 P w) P w K mg base N qual scope f cd A outer s₀ H₀ E) pins σ E e s') :
  (aG (CX1 P w) P w K mg base N qual scope f cd A outer s₀ H₀ E).xe e s':=by
 obtain ⟨x,cls,d,H',rfl,I,⟨f1,f2,vs,sl,tr,f3,f4,f5⟩,q⟩:=h;refine leaving_ok (L:=s₀.heap.objs.size) I.ok.frames I.stack rfl f3 rfl f4 λ h' Nt=>?_;have J:=I.noted f1 f2 f5 Nt;obtain ⟨vs',T,g1,_,g2,g3⟩:=Nt.exc;refine ⟨x,cls,d,H',rfl,J.os,J.bare,J.base,J.hok,⟨f2.1,f1,vs',sl,some T,g1,g3,λ T' z=>?_⟩,q⟩
 cases z;exact ⟨(I.off rfl (hZ g2)).1,I.hok.fresh g2⟩
theorem pass1:bM (CX1 P w) (aG (CX1 P w) P w K mg base N qual scope f cd A outer s₀ H₀ E) E:=λ _ _ _ _ _ _ I h=>xe_of (XP.of_call rfl I h)
theorem Fun.okX {x qual:Str} {st:Stmt} {f:Addr} {fd:FuncData} {N ps:List Str} {k:Nat} {sp:Sp} (F:Fun K x qual st f fd) (S:FnScope N ps (ah st)) (len:∀ vs H Q E,sp vs H Q E->vs.length=ps.length)
  (hbody:∀ (cdv:Value) (A:Around) (outer:List Env) (s:Shared) (H:Hp) (vs:List V) (Q:VK) (E:XK),Room k (A.deeper (envOfC qual (ah st) s.heap.objs.size f cdv))->sp vs H Q E->
   ∃ t,PSs (aG (CX1 P w) P w K mg base N qual (ah st) f cdv A outer s H E) (aV st) t/\t { nx:=λ _ H'=>Q .non H',rt:=Q } (cf N vs) H):FnOk P w K mg base (CX1 P w) (k+1) f fd ps sp:=by
 obtain ⟨oc,od,kV,doc,pm,an,cdv,ct,osl,rfl,lk,hcd⟩:=F.ex;exact fn_of lk hcd S len λ A outer s H vs Q E hr hsp=>hbody cdv A outer s H vs Q E hr hsp
end
end L2
namespace L2
open PySem PySem.Spec PyProof.Rows
abbrev bmV:List Value:=[.type "ValueError",.type "Exception",.type "BaseException",.type "object"]
section
variable {X:Cx} {E:XK}
noncomputable def XOut (X:Cx) (E:XK):Prop:=∀ pins σ e s',XP X pins σ E e s'->X.xe e s'
theorem xout1 {P:Program} {w:World} {K:W.Frag} {mg:Str->Option Value} {base:Heap} {N:List Str} {qual:Str} {scope:Scope} {f:Addr} {cd:Value} {A:Around} {outer:List Env} {s₀:Shared} {H₀:Hp} :
  XOut (aG (CX1 P w) P w K mg base N qual scope f cd A outer s₀ H₀ E) E:=λ _ _ _ _ h=>xe_of h
noncomputable def PX (X:Cx) (e:Expr) (t:XK->TE):Prop:=
 ∀ (pins:List (Addr × Obj)) (s:Shared) (σ:St) (H:Hp) (Q:VK) (E:XK),Inv X pins σ H s->t E σ H Q->wpAny (model X.prog X.w) X.A (eval e X.env) (EP X pins σ Q) (XP X pins σ E) s
noncomputable def PSX (X:Cx) (st:List Stmt) (t:XK->TS):Prop:=
 ∀ (pins:List (Addr × Obj)) (s:Shared) (σ:St) (H:Hp) (D:Ends) (E:XK),Inv X pins σ H s->t E D σ H->wpAny (model X.prog X.w) X.A (execs st X.env) (SP X pins D) (XP X pins σ E) s
variable {k:Nat} {f C:Addr} {fd:FuncData} {ps:List Str} {sp:Sp} {dvs:List V} {ds:List Value} {x m:Str} {p pos apos:Pos} {e o:Expr} {es:List Expr} {ta:TE} {t:TA}
theorem run_fnX {pins:List (Addr × Obj)} {σ:St} {H:Hp} {s:Shared} {Q:VK} {us:List Value} {vs:List V} (F:FnOk X.prog X.w X.K X.mg X.base (CX1 X.prog X.w) k f fd ps sp) (hr:Room k X.A) (hb:Binds X.K fd ps ds) (hd:Vals dvs ds) (hex:X.ex=[])
  (I:Inv X pins σ H s) (r:Vals vs us) (h:sp (vs++dvs) H Q E):wpAny (model X.prog X.w) X.A (call (.ref f) us) (EP X pins σ Q) (XP X pins σ E) s:=by
 have r2:Vals (vs++dvs) (us++ds):=r.append hd;have hl:(us++ds).length=ps.length:=by rw [<- r2.length];exact F.len _ _ _ _ h
 refine wpAny_call (codeAny_mono (F.run X.A X.stack s H ⟨us,[]⟩ (us++ds) (vs++dvs) Q E hr I.env0 (hb s us I.kIn hl) r2 h) λ r s' hq=>?_)
 cases r with
 | error e=>exact XP.of_call hex I hq
 | ok fl=>
  cases fl with
  | ret u=>exact I.after hq
  | next=>exact False.elim hq
  | brk=>exact False.elim hq
  | cont=>exact False.elim hq
theorem px_call (F:FnOk X.prog X.w X.K X.mg X.base (CX1 X.prog X.w) k f fd ps sp) (hr:Room k X.A) (hg:Gl X x) (hm:X.mg x=some (.ref f)) (hk:PySem.W.keepIn X.K (.ref f)=true) (hb:Binds X.K fd ps ds) (hd:Vals dvs ds) (hex:X.ex=[])
  (ha:PA X.nox (e::es) t) (hdb:(x == ("__debug__":Str))=false:=by decide) (he:starEach (e::es) X.env=(false,eval e X.env)::starEach es X.env:=by rfl) (hpl:(backTo pos (starEach es X.env)).any (·.1)=false:=by rfl) :
  PX X (.Call (.Name x p) (e::es) [] pos) (λ E=>tCall sp dvs E t):=by
 intro pins s σ H Q E I h;refine wpAny_Call_Name_kw (cu I hg hm ?_ hdb);refine il (h₀:=X.base) I.ok.mod.kin hk (gD (ha pos pins s σ H _ (I.wish _) h) (λ us s1 ⟨vs,H1,I1,r,q⟩=>⟨I1.kIn,?_⟩) λ _ _ z=>z.elim) he hpl;exact run_fnX F hr hb hd hex I1.unwish r q
noncomputable def PSx (X:Cx) (st:Stmt) (t:XK->TS):Prop:=
 ∀ (pins:List (Addr × Obj)) (s:Shared) (σ:St) (H:Hp) (D:Ends) (E:XK),Inv X pins σ H s->t E D σ H->wpAny (model X.prog X.w) X.A (exec st X.env) (SP X pins D) (XP X pins σ E) s
theorem psx_set {i:Nat} {y:Str} {te:XK->TE} {pos':Pos} (hN:X.N.Nodup) (hi:X.N[i]?=some y) (hx:Loc X.env.scope y) (he:PX X e te) (hs:swapsWith e (some (.Name y pos')) pos.line X.env=pure false:=by rfl)
  (hf:X.fn y=true∨X.env.scope.names.lookup y=some .local:=by first | exact .inl rfl | exact .inr rfl | assumption):PSx X (.Assign [.Name y pos'] e pos) (λ E=>tAsg (te E) (gName i)):=by
 intro pins s σ H D E I h;refine wpAny_Assign_Name (thn (he pins s σ H _ E I h) λ v s1 ⟨y,H1,I1,r1,q1⟩=>?_) hs;exact eX I1 hN hi hx r1 (λ s2 I2=>⟨_,H1,I2,q1⟩) hf
theorem pssx_one {st:Stmt} {t:XK->TS} (h1:PSx X st t):PSX X [st] t:=by
 intro pins s σ H D E I h;refine wpAny_execs_cons (thn (h1 pins s σ H D E I h) λ f s1 q=>?_)
 cases f with
 | next=>exact wpAny_execs_nil q
 | ret v=>exact q
 | brk=>exact q
 | cont=>exact q
end
section
variable {X:Cx}
noncomputable abbrev Cx.hnd (X:Cx) (x:Addr):Cx:={ X with A:=X.A.mark (some (.ref x)),calm:=false,xe:=λ _ _=>False }
theorem Cx.Ok.hnd {x:Addr} (ok:X.Ok):(X.hnd x).Ok:=⟨ok.mod,ok.kind,ok.glob,ok.blt,ok.above,ok.inj,ok.has,ok.cab,(λ z=>nomatch z),ok.frames,ok.stk,ok.exf,ok.bs,ok.bsz,ok.noex,ok.exfs,ok.funs,ok.frf⟩
variable {pins:List (Addr × Obj)} {σ:St} {H:Hp} {s:Shared} {x:Addr}
theorem Inv.hnd (I:Inv X pins σ H s):Inv (X.hnd x) pins σ H s:=⟨I.ok.hnd,I.os,I.bare,I.base,I.loc,I.cell,I.free,I.freeC,I.pin,I.hok,I.len⟩
theorem Inv.unhnd (ok:X.Ok) (I:Inv (X.hnd x) pins σ H s):Inv X pins σ H s:=⟨ok,I.os,I.bare,I.base,I.loc,I.cell,I.free,I.freeC,I.pin,I.hok,I.len⟩
theorem SP.unhnd {D:Ends} {f:Flow} {s':Shared} (ok:X.Ok) (h:SP (X.hnd x) pins D f s'):SP X pins D f s':=by
 cases f with
 | next=>obtain ⟨σ',H',I,q⟩:=h;exact ⟨σ',H',I.unhnd ok,q⟩
 | brk=>obtain ⟨σ',H',I,q⟩:=h;exact ⟨σ',H',I.unhnd ok,q⟩
 | cont=>obtain ⟨σ',H',I,q⟩:=h;exact ⟨σ',H',I.unhnd ok,q⟩
 | ret u=>obtain ⟨v,σ',H',I,r,q⟩:=h;exact ⟨v,σ',H',I.unhnd ok,r,q⟩
noncomputable def XO (x C:Addr) (d:Option Addr):HO:=.ext λ h=>∃ vs sl,h.get? x=some ⟨.ref C,d,.fields vs,sl⟩
theorem Inv.track {o:HO} (I:Inv X pins σ H s) (hn:H x=none) (ho:Off X pins x) (new:ObjOk X.prog X.w (upd H x o) s.heap x o):Inv X pins σ (upd H x o) s:=by
 have ne:∀ b u,H b=some u->b≠x:=λ b u e z=>by rw [z,hn] at e;cases e
 have nx:∀ b,b≠x->H b=none->upd H x o b=none:=λ b hb e=>by rw [ai hb];exact e
 refine ⟨I.ok,I.os,I.bare,⟨I.base.keep,I.base.slot,λ b u e n hx=>nx b (λ z=>by rw [z,ho.1] at e;cases e) (I.base.free b u e n hx),I.base.there,λ b xs e=>?_,λ b u v e=>?_,λ b ps e=>?_⟩,
  I.loc,I.cell,nx _ (ib ho.2.1) I.free,λ y c e=>nx c (ho.2.2.2.1 y c e) (I.freeC y c e),λ p hp=>?_,λ b u e=>?_,I.len⟩
 ·have q:=I.base.tups b xs e;rw [ai (ne b _ q)];exact q
 ·have q:=I.base.frzs b u v e;rw [ai (ne b _ q)];exact q
 ·obtain ⟨more,q⟩:=I.base.tbls b ps e;exact ⟨more,by rw [ai (ne b _ q)];exact q⟩
 ·obtain ⟨e,n,r⟩:=I.pin p hp;exact ⟨e,nx p.1 (ho.2.2.2.2 p hp) n,r⟩
 ·by_cases hb:b=x
  ·subst hb;rw [ae] at e
   cases e;exact new
  ·rw [ai hb] at e;exact (I.hok b u e).stay (λ _ _ _ q=>q) (λ c q=>by rw [ai (ne c _ q)];exact q) λ c xs q=>by rw [ai (ne c _ q)];exact q
theorem excMatches_K {K:W.Frag} {M:Model} {A:Around} {E:Value->Shared->Prop} {s:Shared} {e C C':Addr} {d:Option Addr} {dt:Data} {sl:Array (Option Value)} {b:Bool} {Q:Bool->Shared->Prop} (X:K.In s.heap) (he:s.heap.get? e=some ⟨.ref C,d,dt,sl⟩)
  (h1:PySem.W.instIn K (.ref C') (.type "tuple")=some false) {cd:ClassData} (h2:PySem.W.clsIn K C'=some cd) (h3:PySem.W.subIn K (.ref C') (.type "BaseException")=some true) (h4:PySem.W.subIn K (.ref C) (.ref C')=some b) (q:Q b s) :
  wpAny M A (excMatches (.ref e) (.ref C')) Q E s:=by
 have it:PySem.W.Looks M s.heap (isExcClass (.ref C')) true:=by
  unfold isExcClass;refine PySem.W.Looks.andThen (a:=true) ?_ (PySem.W.looks_subIn X h3);unfold PySem.W.clsIn at h2
  split at h2
  ·rename_i ho;intro A' Q' E' s' k q';unfold isType loadHead;exact fH (wpAny_loadPart (k _ _ (X _ _ ho)) (fS q'))
  ·cases h2
 have ty:PySem.W.Looks M s.heap (typeOf (.ref e)) (.ref C):=(PySem.W.Looks.ld he).andThen .now;unfold excMatches;refine fH ((PySem.W.looks_instIn X h1).here ?_);simp only [g4,if_false];refine fH (fS ?_);simp only [List.forIn_cons,List.forIn_nil];refine fH (fH ?_);refine fH (it.here ?_);simp only [Bool.not_true,g4,if_false];refine fS (fS (fH (ty.here (fH (fH (fH ((PySem.W.looks_subIn X h4).here ?_)))))))
 cases b with
 | true=>exact fS (fS (fS q))
 | false=>exact fS (fS (fS q))
theorem flight_same {M:Model} {A:Around} {E:Value->Shared->Prop} {vs:Array Value} {T:Addr} {c:Value} {d:Option Addr} {sl:Array (Option Value)} {Q:Unit->Shared->Prop} (he:s.heap.get? x=some ⟨c,d,.fields vs,sl⟩) (ht:Trail s.heap x vs (some T)) (q:Q () s):wpAny M A (setFlight (.ref x) none) Q E s:=by
 obtain ⟨h1,_,oT,ts,gT,dT,h3⟩:=ht;refine wpAny_setFlight_none he rfl h1 gT dT (ic.mp h3).1 ?_;rw [Heap.update_setField_same s.heap T oT ts 3 .none gT dT h3];exact q
theorem ek {M:Model} {A:Around} {E:Value->Shared->Prop} {i:Nat} {n:Str} {pos:Pos} {Q:Unit->Shared->Prop} (I:Inv X pins σ H s) (hN:X.N.Nodup) (hi:X.N[i]?=some n) (hk:X.env.scope.names.lookup n=some .local)
  (h:∀ s',Inv X pins (σ.set i none) H s'->Q () s'):wpAny M A (do bindName X.env n .none;unbindBehindTheSuite X.env n pos) Q E s:=by
 obtain ⟨m,hn,hl⟩:=id I.loc;have hcls:(X.env.scope.kind == .class || (X.env.scope.kind == .module && X.env.locals != X.env.globals))=false:=by rw [I.ok.kind];rfl
 have hiσ:i < σ.length:=by rw [I.len];exact (fL.mp hi).1
 have cne:=I.cne;obtain ⟨oL,_,_,hoL,_⟩:=id hn;have neL:∀ b o,X.s₀.heap.get? b=some o->b≠X.env.locals:=λ b o e=>gF (gi (fT e) I.ok.above);refine wpAny_nameGoes_keeps hk hn hcls λ h' v hn' hs=>h _ ⟨I.ok,I.os,I.bare,⟨λ b o e n hb hx=>?_,λ b o e n hb hx=>?_,I.base.free,λ b o e hx=>?_,I.base.tups,I.base.frzs,I.base.tbls⟩,⟨_,hn',λ j y v' e1 e2 e3=>?_⟩,λ y c e=>?_,I.free,I.freeC,λ p hp=>?_,λ b u e=>?_,by simpa using I.len⟩
 ·exact (hs.2 b (neL b o e)).trans (I.base.keep b o e n hb hx)
 ·obtain ⟨sl,e1⟩:=I.base.slot b o e n hb hx;exact ⟨sl,(hs.2 b (neL b o e)).trans e1⟩
 ·obtain ⟨o',e1⟩:=I.base.there b o e hx;exact ⟨o',(hs.2 b (neL b o e)).trans e1⟩
 ·by_cases hj:j=i
  ·subst hj;rw [gS hiσ] at e2
   cases e2
  ·rw [ia (ib hj)] at e2;obtain ⟨u',r',q⟩:=hl j y v' e1 e2 e3;refine ⟨u',r',?_⟩;rcases q with ⟨k,e⟩ | ⟨k,c,e,z⟩
   ·refine .inl ⟨k,?_⟩
    have:y≠n:=λ e=>hj (nodup_ix hN e1 (e ▸ hi))
    simp [this,e]
   ·exact .inr ⟨k,c,e,z.sameBut hs (cne y c e)⟩
 ·obtain ⟨w',z⟩:=I.cell y c e;exact ⟨w',z.sameBut hs (cne y c e)⟩
 ·obtain ⟨e,n,ne,nf,d⟩:=I.pin p hp;exact ⟨(hs.2 p.1 ne).trans e,n,ne,nf,d⟩
 ·refine (I.hok b u e).stay (λ c w' hc q=>(hs.2 c ?_).trans q) (λ _ q=>q) λ _ _ q=>q;rintro rfl;rcases hc with z | z
  ·rw [<- z,I.free] at e;cases e
  ·rw [I.free] at z;cases z
noncomputable def XHeld (X:Cx) (pins:List (Addr × Obj)) (H:Hp) (h:Heap) (x:Addr) (cls:Value) (d:Option Addr):Prop:=
 H x=none/\Off X pins x/\∃ vs sl T,h.get? x=some ⟨cls,d,.fields vs,sl⟩/\Trail h x vs (some T)/\H T=none/\Off X pins T
noncomputable abbrev TH:=Ends->St->Value->Option Addr->Hp->Prop
noncomputable def PH (X:Cx) (hs:List ExceptHandler) (t:TH):Prop:=
 ∀ (pins:List (Addr × Obj)) (s:Shared) (σ:St) (H:Hp) (D:Ends) (x:Addr) (cls:Value) (d:Option Addr),Inv X pins σ H s->XHeld X pins H s.heap x cls d->t D σ cls d H->
  wpAny (model X.prog X.w) X.A (handleBy (.ref x) X.env hs) (SP X pins D) X.xe s
structure Catches (K:W.Frag) (C:Addr):Prop where
 tu:PySem.W.instIn K (.ref C) (.type "tuple")=some false
 cl:∃ cd,PySem.W.clsIn K C=some cd
 ex:PySem.W.subIn K (.ref C) (.type "BaseException")=some true
noncomputable def hNever:TH:=λ _ _ _ _ _=>False
theorem ph_never {hs:List ExceptHandler}:PH X hs hNever:=λ _ _ _ _ _ _ _ _ _ _ h=>h.elim
noncomputable def hAs (K:W.Frag) (C':Addr) (i:Nat) (t:TS) (tr:TH):TH:=λ D σ cls d H=>∃ C b,cls=.ref C/\PySem.W.subIn K (.ref C) (.ref C')=some b/\
 if b=true then ∀ x,H x=none->t { nx:=λ σ' H'=>D.nx (σ'.set i none) H',rt:=D.rt,bk:=λ σ' H'=>D.bk (σ'.set i none) H',ct:=λ σ' H'=>D.ct (σ'.set i none) H' } (σ.set i (some (.ref x))) (upd H x (XO x C d)) else tr D σ cls d H
theorem ph_as {y n:Str} {i:Nat} {C':Addr} {np pos:Pos} {b₀:Stmt} {suite:List Stmt} {rest:List ExceptHandler} {t:TS} {tr:TH} (hg:Gl X y) (hm:X.mg y=some (.ref C')) (hc:Catches X.K C') (hN:X.N.Nodup) (hi:X.N[i]?=some n) (hk:X.env.scope.names.lookup n=some .local)
  (hsu:∀ x,PSs (X.hnd x) (b₀ :: suite) t) (hr:PH X rest tr) (hd:(y == ("__debug__":Str))=false:=by decide):PH X (.ExceptHandler (some (.Name y np)) (some n) (b₀ :: suite) pos::rest) (hAs X.K C' i t tr):=by
 intro pins s σ H D x cls d I hx h;obtain ⟨C,b,rfl,hsub,q⟩:=h;obtain ⟨f1,f2,vs,sl,T,f3,f4,f5⟩:=id hx;obtain ⟨cd,hcd⟩:=hc.cl;refine wpAny_handleBy_cons (codeAny_handlers_test (cu (X:=X.hnd x) I.hnd hg hm (excMatches_K I.kIn f3 hc.tu hcd hc.ex hsub ?_) hd)) (by intro z;cases z)
 cases b with
 | false=>exact hr pins s σ H D x _ d I hx q
 | true=>
  have J:Inv X pins σ (upd H x (XO x C d)) s:=I.track f1 f2 ⟨⟨vs,sl,f3⟩,⟨_,f3⟩,λ h1 h2 ⟨vs',sl',e⟩ k=>⟨vs',sl',k _ e⟩⟩;refine codeAny_handlers_suite_as (flight_same f3 f4 (eX (v:=.ref x) J hN hi (.inl hk) rfl (λ s2 J2=>?_) (.inr hk)));refine gD (hsu x pins s2 _ _ _ J2.hnd (q x f1)) (λ f s3 z=>?_) λ _ _ z=>z.elim;have z:=z.unhnd I.ok
  cases f with
  | next=>obtain ⟨σ',H',I',q'⟩:=z;exact ek I' hN hi hk λ s4 I4=>⟨_,H',I4,q'⟩
  | brk=>obtain ⟨σ',H',I',q'⟩:=z;exact ek I' hN hi hk λ s4 I4=>⟨_,H',I4,q'⟩
  | cont=>obtain ⟨σ',H',I',q'⟩:=z;exact ek I' hN hi hk λ s4 I4=>⟨_,H',I4,q'⟩
  | ret u=>obtain ⟨v,σ',H',I',r',q'⟩:=z;exact ek I' hN hi hk λ s4 I4=>⟨v,_,H',I4,r',q'⟩
noncomputable def tTry (tb:XK->TS) (th:TH):TS:=λ D σ H=>tb (λ cls d H'=>th D σ cls d H') D σ H
theorem ps_try {body:List Stmt} {h₀:ExceptHandler} {hs:List ExceptHandler} {pos:Pos} {tb:XK->TS} {th:TH} (hb:PSX X body tb) (hh:PH X (h₀ :: hs) th) (hex:X.ex=[]:=by rfl) (hstk:X.stack=X.env::X.outer:=by rfl) (hfr:X.env.frame=some X.env.locals:=by rfl) :
  PS X (.Try body (h₀ :: hs) [] [] pos) (tTry tb th):=by
 intro pins s σ H D I h;refine wpAny_Try_except (gD (hb pins s σ H D _ I h) (λ f s1 q=>?_) λ e s1 q=>?_)
 ·cases f with
  | next=>exact wpAny_execs_nil q
  | ret v=>exact q
  | brk=>exact q
  | cont=>exact q
 ·obtain ⟨x,cls,d,H',rfl,I',⟨f1,f2,vs,sl,tr,f3,f4,f5⟩,q⟩:=q;refine noted_ok (env:=X.env) (outer:=X.outer) (by rw [<- hstk];exact I'.ok.frames) (by rw [<- hstk];exact I'.stack) hfr f3 rfl f4 λ h' N=>?_;have J:=I'.noted f1 f2 f5 (by rw [hstk];exact N);obtain ⟨vs',T,g1,_,g2,g3⟩:=N.exc;exact hh pins _ σ H' D x cls d J ⟨f1,f2,vs',sl,T,g1,g3,I'.hok.fresh g2,I'.off hex (hZ g2)⟩ q
end
end L2
namespace L2
open PySem PySem.Spec PyProof.Rows
noncomputable def FnB (P:Program) (w:World) (K:W.Frag) (mg:Str->Option Value) (base:Heap) (CX:CXT) (x:Str) (k:Nat) (ps:List Str) (sp:Sp):Prop:=
 ∃ f fd,mg x=some (.ref f)/\PySem.W.keepIn K (.ref f)=true/\Binds K fd ps []/\FnOk P w K mg base CX k f fd ps sp
noncomputable def MtB (P:Program) (w:World) (K:W.Frag) (mg:Str->Option Value) (base:Heap) (CX:CXT) (C:Addr) (m:Str) (k:Nat) (ps:List Str) (sp:Sp):Prop:=
 ∃ f fd,Meth K C m f/\Binds K fd ps []/\FnOk P w K mg base CX k f fd ps sp
noncomputable def MkB (P:Program) (w:World) (K:W.Frag) (mg:Str->Option Value) (base:Heap) (CX:CXT) (C:Addr) (k:Nat) (ps:List Str) (dvs:List V) (sp:Sp):Prop:=
 ∃ f fd ds,Mk K C f/\Binds K fd ps ds/\Vals dvs ds/\FnOk P w K mg base CX k f fd ps sp
section
variable {P:Program} {w:World} {K:W.Frag} {mg:Str->Option Value} {base:Heap} {CX:CXT} {x m:Str} {C:Addr} {k:Nat} {ps:List Str} {sp:Sp} {dvs:List V}
end
section
variable {X:Cx} {CX:CXT} {k j:Nat} {C:Addr} {ps:List Str} {sp:Sp} {dvs:List V} {E:XK} {x m:Str} {p pos apos:Pos} {e o:Expr} {es:List Expr} {ta:TE} {t:TA}
theorem aw (F:FnB X.prog X.w X.K X.mg X.base CX x k ps sp) (hr:Room j X.A) (hx:bM CX X E) (ha:PA X (e::es) t) (hj:k<=j:=by decide) (hg:Gl X x:=by rfl) (hdb:(x == ("__debug__":Str))=false:=by decide)
  (he:starEach (e::es) X.env=(false,eval e X.env)::starEach es X.env:=by rfl) (hpl:(backTo pos (starEach es X.env)).any (·.1)=false:=by rfl):PE X (.Call (.Name x p) (e::es) [] pos) (tCall sp [] E t):=by
 obtain ⟨f,fd,a,b,c,d⟩:=F;exact pe_call d (hr.mono hj) hg a b c .nil hx ha hdb he hpl
theorem pe_mk (F:MkB X.prog X.w X.K X.mg X.base CX C k ps dvs sp) (hr:Room j X.A) (hm:X.mg x=some (.ref C)) (hx:bM CX X E) (ha:PA X (e::es) t) (hj:k+1<=j:=by decide) (hg:Gl X x:=by rfl) (hdb:(x == ("__debug__":Str))=false:=by decide)
  (he:starEach (e::es) X.env=(false,eval e X.env)::starEach es X.env:=by rfl) (hpl:(backTo pos (starEach es X.env)).any (·.1)=false:=by rfl):PE X (.Call (.Name x p) (e::es) [] pos) (tMake C sp dvs E t):=by
 obtain ⟨f,fd,ds,a,b,c,d⟩:=F;exact pe_make a d (hr.mono hj) hg hm b c hx ha hdb he hpl
theorem px_fn (F:FnB X.prog X.w X.K X.mg X.base (CX1 X.prog X.w) x k ps sp) (hr:Room j X.A) (ha:PA X.nox (e::es) t) (hj:k<=j:=by decide) (hg:Gl X x:=by rfl) (hex:X.ex=[]:=by rfl) (hdb:(x == ("__debug__":Str))=false:=by decide)
  (he:starEach (e::es) X.env=(false,eval e X.env)::starEach es X.env:=by rfl) (hpl:(backTo pos (starEach es X.env)).any (·.1)=false:=by rfl):PX X (.Call (.Name x p) (e::es) [] pos) (λ E=>tCall sp [] E t):=by
 obtain ⟨f,fd,a,b,c,d⟩:=F;exact px_call d (hr.mono hj) hg a b c .nil hex ha hdb he hpl
end
noncomputable def FDe (K:W.Frag) (mg:Str->Option Value) (x:Str) (st:Stmt) (ps:List Str):Prop:=∃ f fd,Fun K x x st f fd/\mg x=some (.ref f)/\Binds K fd ps []
noncomputable def MDe (K:W.Frag) (C:Addr) (x qual:Str) (st:Stmt) (ps:List Str):Prop:=∃ f fd,Fun K x qual st f fd/\Meth K C x f/\Binds K fd ps []
section
variable {P:Program} {w:World} {K:W.Frag} {mg:Str->Option Value} {base:Heap} {x qual:Str} {C:Addr} {st:Stmt} {N ps:List Str} {k:Nat} {sp:Sp}
theorem FDe.ok (F:FDe K mg x st ps) (S:FnScope N ps (ah st)) (len:∀ vs H Q E,sp vs H Q E->vs.length=ps.length)
  (hbody:∀ (f:Addr) (cdv:Value) (A:Around) (outer:List Env) (s:Shared) (H:Hp) (vs:List V) (Q:VK) (E:XK),Room k (A.deeper (envOfC x (ah st) s.heap.objs.size f cdv))->sp vs H Q E->
   ∃ t,PSs (aG CX0 P w K mg base N x (ah st) f cdv A outer s H E).nox (aV st) t/\t { nx:=λ _ H'=>Q .non H',rt:=Q } (cf N vs) H):FnB P w K mg base CX0 x (k+1) ps sp:=
 let ⟨f,fd,a,b,c⟩:=F
 ⟨f,fd,b,a.kp,c,a.ok S len (hbody f)⟩
theorem MDe.ok (F:MDe K C x qual st ps) (S:FnScope N ps (ah st)) (len:∀ vs H Q E,sp vs H Q E->vs.length=ps.length)
  (hbody:∀ (f:Addr) (cdv:Value) (A:Around) (outer:List Env) (s:Shared) (H:Hp) (vs:List V) (Q:VK) (E:XK),Room k (A.deeper (envOfC qual (ah st) s.heap.objs.size f cdv))->sp vs H Q E->
   ∃ t,PSs (aG CX0 P w K mg base N qual (ah st) f cdv A outer s H E).nox (aV st) t/\t { nx:=λ _ H'=>Q .non H',rt:=Q } (cf N vs) H):MtB P w K mg base CX0 C x (k+1) ps sp:=
 let ⟨f,fd,a,b,c⟩:=F
 ⟨f,fd,b,c,a.ok S len (hbody f)⟩
theorem FDe.okX (F:FDe K mg x st ps) (S:FnScope N ps (ah st)) (len:∀ vs H Q E,sp vs H Q E->vs.length=ps.length)
  (hbody:∀ (f:Addr) (cdv:Value) (A:Around) (outer:List Env) (s:Shared) (H:Hp) (vs:List V) (Q:VK) (E:XK),Room k (A.deeper (envOfC x (ah st) s.heap.objs.size f cdv))->sp vs H Q E->
   ∃ t,PSs (aG (CX1 P w) P w K mg base N x (ah st) f cdv A outer s H E) (aV st) t/\t { nx:=λ _ H'=>Q .non H',rt:=Q } (cf N vs) H):FnB P w K mg base (CX1 P w) x (k+1) ps sp:=
 let ⟨f,fd,a,b,c⟩:=F
 ⟨f,fd,b,a.kp,c,a.okX S len (hbody f)⟩
end
noncomputable def FunG (K:W.Frag) (x qual:Str) (st:Stmt) (f:Addr) (fd:FuncData):Prop:=∃ (oc:Value) (od:Option Addr) (dV kV doc pm:Value) (an:Option Addr) (cdv ct:Value) (osl:Array (Option Value)),
  fd=PySem.W.fnOf x qual (bU st) (aV st) (ah st) dV kV doc pm an cdv ct/\K.lookup f=some ⟨oc,od,.func fd,osl⟩/\PySem.W.codeIn K cdv qual=true
structure FunD (K:W.Frag) (x qual:Str) (st:Stmt) (f:Addr) (fd:FuncData) (ds:Array Value):Prop where
 ex:∃ (oc:Value) (od:Option Addr) (T:Addr) (kV doc pm:Value) (an:Option Addr) (cdv ct:Value) (osl:Array (Option Value)) (o:Obj) (n:Nat),
  fd=PySem.W.fnOf x qual (bU st) (aV st) (ah st) (.ref T) kV doc pm an cdv ct/\K.lookup f=some ⟨oc,od,.func fd,osl⟩/\PySem.W.codeIn K cdv qual=true/\K.lookup T=some o/\o.data=.seq ds n
section
variable {P:Program} {w:World} {K:W.Frag} {mg:Str->Option Value} {base:Heap} {x qual:Str} {C:Addr} {st:Stmt} {f:Addr} {fd:FuncData} {ds:Array Value} {N ps:List Str} {k:Nat} {sp:Sp}
theorem FunD.gen (F:FunD K x qual st f fd ds):FunG K x qual st f fd:=by
 obtain ⟨oc,od,T,kV,doc,pm,an,cdv,ct,osl,_,_,e,l,c,_⟩:=F.ex
 exact ⟨oc,od,.ref T,kV,doc,pm,an,cdv,ct,osl,e,l,c⟩
theorem Fun.gen (F:Fun K x qual st f fd):FunG K x qual st f fd:=by
 obtain ⟨oc,od,kV,doc,pm,an,cdv,ct,osl,e,l,c⟩:=F.ex
 exact ⟨oc,od,.none,kV,doc,pm,an,cdv,ct,osl,e,l,c⟩
theorem FunD.binds {es:List Value} (F:FunD K x qual st f fd ds)
  (h:∀ (T:Addr) (kV doc pm:Value) (an:Option Addr) (cdv ct:Value) (us:List Value),(us++es).length=ps.length->∃ k,bindArgs (PySem.W.fnOf x qual (bU st) (aV st) (ah st) (.ref T) kV doc pm an cdv ct) ⟨us,[]⟩=seqItems? (.ref T) >>= k/\k (some ds)=pure (ps.zip (us++es))):Binds K fd ps es:=by
 obtain ⟨oc,od,T,kV,doc,pm,an,cdv,ct,osl,o,n,rfl,lk,hcd,lt,hd⟩:=F.ex;intro s us KX hl;obtain ⟨k,h1,h2⟩:=h T kV doc pm an cdv ct us hl;exact PySem.W.binds_K KX rfl lt hd h1 h2
theorem funD_mk {T:Addr} {oc:Value} {od an:Option Addr} {osl:Array (Option Value)} {kV doc pm cdv ct:Value} {o:Obj} {n:Nat} (l:K.lookup f=some ⟨oc,od,.func (PySem.W.fnOf x qual (bU st) (aV st) (ah st) (.ref T) kV doc pm an cdv ct),osl⟩)
  (c:PySem.W.codeIn K cdv qual=true) (t:K.lookup T=some o) (hd:o.data=.seq ds n):FunD K x qual st f (PySem.W.fnOf x qual (bU st) (aV st) (ah st) (.ref T) kV doc pm an cdv ct) ds:=⟨⟨oc,od,T,kV,doc,pm,an,cdv,ct,osl,o,n,rfl,l,c,t,hd⟩⟩
theorem FunG.ok (F:FunG K x qual st f fd) (S:FnScope N ps (ah st)) (len:∀ vs H Q E,sp vs H Q E->vs.length=ps.length)
  (hbody:∀ (cdv:Value) (A:Around) (outer:List Env) (s:Shared) (H:Hp) (vs:List V) (Q:VK) (E:XK),Room k (A.deeper (envOfC qual (ah st) s.heap.objs.size f cdv))->sp vs H Q E->
   ∃ t,PSs (aG CX0 P w K mg base N qual (ah st) f cdv A outer s H E).nox (aV st) t/\t { nx:=λ _ H'=>Q .non H',rt:=Q } (cf N vs) H):FnOk P w K mg base CX0 (k+1) f fd ps sp:=by
 obtain ⟨oc,od,dV,kV,doc,pm,an,cdv,ct,osl,rfl,lk,hcd⟩:=F;refine fn_of lk hcd S len λ A outer s H vs Q E hr hsp=>?_;obtain ⟨t,h,q⟩:=hbody cdv A outer s H vs Q E hr hsp;exact ⟨t,h.nox,q⟩
noncomputable def IDe (K:W.Frag) (C:Addr) (qual:Str) (st:Stmt) (ps:List Str) (dvss:List (List V)):Prop:=∃ f fd,FunG K "__init__" qual st f fd/\Mk K C f/\∀ dvs∈dvss,∃ es,Vals dvs es/\Binds K fd ps es
theorem IDe.ok {dvss:List (List V)} (F:IDe K C qual st ps dvss) (S:FnScope N ps (ah st)) (len:∀ vs H Q E,sp vs H Q E->vs.length=ps.length)
  (hbody:∀ (f:Addr) (cdv:Value) (A:Around) (outer:List Env) (s:Shared) (H:Hp) (vs:List V) (Q:VK) (E:XK),Room k (A.deeper (envOfC qual (ah st) s.heap.objs.size f cdv))->sp vs H Q E->
   ∃ t,PSs (aG CX0 P w K mg base N qual (ah st) f cdv A outer s H E).nox (aV st) t/\t { nx:=λ _ H'=>Q .non H',rt:=Q } (cf N vs) H):∀ dvs∈dvss,MkB P w K mg base CX0 C (k+1) ps dvs sp:=λ dvs hd=>
 let ⟨f,fd,a,b,c⟩:=F
 let ⟨es,v,d⟩:=c dvs hd
 ⟨f,fd,es,b,d,v,a.ok S len (hbody f)⟩
end
end L2
namespace L2
open PySem PySem.Spec PyProof.Rows PySem.W PySem.Calls
theorem weight_mem:∀ (ns:List Int) (n:Int),n∈ns->Builtin.Int.intBits n<=WData.weightAll (ns.map WData.int)
 | m::r,n,h=>by
  rw [gN];show Builtin.Int.intBits n<=WData.weight (.int m)+1+WData.weightAll (r.map WData.int);rcases gw.mp h with z | z
  ·subst z
   have:WData.weight (.int n)=Builtin.Int.intBits n:=by
    simp only [WData.weight,Builtin.Int.intBits]
   omega
  ·have:=weight_mem r n z
   omega
theorem bits_of_lay {ns:List Int} (h:WData.layableAll [WData.list (ns.map WData.int)]=true):∀ n∈ns,Builtin.Int.intBits n<=2 ^ 20:=λ n hn=>by
 have h1:(WData.list (ns.map WData.int)).layable=true:=by
  unfold WData.layableAll at h;simpa using h
 have h2:=(layableW_iff.mp h1).2.2;have h3:=weight_mem ns n hn;exact fO h3 h2
theorem walk_ofB {l:PySem.W.OpenLaw} {n k:Nat} {q:Program} {loose:List Str} {XP:(Str->Option Value)->Heap->Prop} {YP:World->Heap->Prop} {d:DefRec} {K:Params->W.Frag} {CX:World->CXT} {sp:World->Sp} {x:Str}
  (hn:l.most=some n) (hn2:n<=sizeLine) (hdf:d.params.defaults=[]) (hr:Room k callerA)
  (hY:∀ (w:World) (h:Heap),YP w h->(K w.params).In h)
  (F:∀ (w:World) (mg:Str->Option Value) (fa:Addr) (h:Heap),(K w.params).In h->h.Ns mainGlobals mg->mg d.name=some (.ref fa)->
   ∃ fd:FuncData,(∀ (s:Shared) (u:Value),BindsTo s fd ⟨[u],[]⟩ [(x,u)])/\
    ∀ base:Heap,(K w.params).In base->base.Ns mainGlobals mg->FnOk l.prog w (K w.params) mg base (CX w) k fa fd [x] (sp w))
  (hsp:∀ (w:World) (H:Hp) (a:Addr) (ns:List Int),ns.length<=n->(∀ i∈ns,Builtin.Int.intBits i<=2 ^ 20)->Only H->SqL (K w.params) H a (ns.map V.int)->sp w [.ref a] H (λ v _=>v=.bl true) λ _ _ _=>False)
  (hCX:∀ (w:World) (H:Hp) (s:Shared) (e:Value) (s':Shared),CX w [] H s (λ _ _ _=>False) e s'->False) :
  PySem.W.WalkO q loose XP YP l.row.toRowW d [] (λ f vs=>PySem.call f vs):=by
 intro w s₀ s₁ mg mb G Y fa o pm cd doc dV kV ho hd hcd hD hmg hg args vals as hpre hlay hrd hwl hlo;obtain rfl:dV=.none:=Dflts.none hD hdf;obtain rfl:kV=.none:=Dflts.noKw hD;obtain ⟨a,vs,ns,rfl,rfl,hobj,hints,hlen⟩:=Att.script_of hn hpre hwl;have hbits:=bits_of_lay hlay;have KX:=hY w _ Y;obtain ⟨fd,hb,hF⟩:=F w mg fa _ KX G.T.g hmg;refine enter_call (codeAny_mono (law_call KX G.T.g G.T.b G.T.builtins G.T.nolimit hg hobj hints (fO hlen hn2) hr hF hb (λ H hO hS=>hsp w H a ns hlen hbits hO hS) λ H e s'=>hCX w H s₁ e s') λ r s' hq=>?_);obtain ⟨rfl,h2,h3,h4⟩:=hq;exact ⟨.inl ⟨.bool true,.bool true,[],rfl,λ _=>rfl,.bool true,Att.post_true l _,λ _=>⟨List.Pairwise.nil,λ _ hm=>(nomatch hm)⟩⟩,h2,h3,h4⟩
section
variable {X:Cx}
end
end L2
namespace L2
open PySem PySem.Spec PyProof.Rows
section
variable {prog:Program} {w:World} {A:Around} {E:Value->Shared->Prop} {s:Shared} {K:W.Frag} {x D:Addr} {ox:Obj} {od:Option Obj} {name:Str}
structure ExA (K:W.Frag) (D:Addr):Prop where
 ga:PySem.W.findIn K (.ref D) "__getattribute__"=some (some (.builtin "BaseException.__getattribute__"))
 gh:PySem.W.findIn K (.ref D) "__getattr__"=some none
 be:PySem.W.mroIn K D (.type "BaseException")=some true
 ca:PySem.W.findIn K (.ref D) "__class__"=some (some (.builtin "object.__class__"))
 gs:PySem.W.specialIn K (.builtin "object.__class__") "__get__"=some (some (.builtin "getset_descriptor.__get__"))
 tk:PySem.W.takesIn K (.builtin "object.__class__")=some true
 ob:PySem.W.mroIn K D (.type "object")=some true
 cl:∃ cd,PySem.W.clsIn K D=some cd
theorem exc_check {nameV:Value} {Q:Unit->Shared->Prop} (a:ExA K D) (X:K.In s.heap) (I:PySem.W.InstAt s.heap x ox D od) (hq:Q () s):wpAny (model prog w) A (checkBuiltinCall "BaseException.__getattribute__" ⟨[.ref x,nameV],[]⟩) Q E s:=by
 have hk:builtinKind "BaseException.__getattribute__"=some .slot:=by decide +kernel
 have hsplit:splitId "BaseException.__getattribute__"=some ("BaseException","__getattribute__"):=by decide +kernel
 have ha:=F.args_bexc_ga (.ref x) nameV;have LI:PySem.W.Looks (model prog w) s.heap (isInstance (.ref x) (.type "BaseException")) true:=I.type.andThen (PySem.W.looks_mroIn X a.be);obtain ⟨hh,g,d,t,os⟩:=s;simp only [checkBuiltinCall,hk,hsplit];refine fH (LI.at ?_)
 repeat (first | assumption | wp_step)
theorem exc_call_val {tk:Tok} {v:Value} {R:Result->Shared->Prop} (a:ExA K D) (X:K.In s.heap) (I:PySem.W.InstAt s.heap x ox D od) (hf:PySem.W.findObj K D od name=some (.value v)) (hq:R (.ok (.ret v)) s) :
  codeAny (model prog w) A (.call (.builtin "BaseException.__getattribute__") ⟨[.ref x,.str name tk],[]⟩) R s:=by
 refine codeAny_call_builtin F.excAttr_ValueError.ga.plain F.entry_bexc_ga (exc_check a X I ?_);have L0:=I.type (M:=model prog w);have L1:=PySem.W.looks_find (M:=model prog w) X I hf;obtain ⟨hh,g,d,t,os⟩:=s;refine fH (fS ?_);refine fH (fS ?_);refine fH (L0.at (fH (L1.at ?_)));exact fS hq
theorem exc_by {tk:Tok} {fill expr:Bool} {v:Value} {Q:Value->Shared->Prop} (a:ExA K D) (X:K.In s.heap) (I:PySem.W.InstAt s.heap x ox D od) (hv:PySem.W.handedIn v=true)
  (h:∀ (A:Around) (R:Result->Shared->Prop),R (.ok (.ret v)) s->codeAny (model prog w) A (.call (.builtin "BaseException.__getattribute__") ⟨[.ref x,.str name tk],[]⟩) R s) (q:Q v s) :
  wpAny (model prog w) A (getAttrBy (.ref x) (.str name tk) fill expr) Q E s:=by
 have L0:=I.type (M:=model prog w);have L1:=PySem.W.looks_findIn (M:=model prog w) X a.ga;have L2:=PySem.W.looks_findIn (M:=model prog w) X a.gh;have f3:=F.excAttr_ValueError.ga.bind (.ref x);obtain ⟨hh,g,d,t,os⟩:=s;unfold getAttrBy;refine iq (fH (L0.at (fH (L1.at ?_))));have hx2:(Value.builtin "BaseException.__getattribute__" == Value.builtin "object.__getattribute__")=false:=by decide +kernel
 have hx0:(expr && onTheHeap (Value.builtin "BaseException.__getattribute__"))=false:=by cases expr <;> rfl
 dsimp only;rw [hx2,Bool.and_false];simp only [g4,if_false];unfold getAttrByItsOwn hookBefore callGetattribute boundAndCalled;rw [hx0];simp only [g4,if_false,onTheHeap,if_true];refine fH (L2.at ?_);refine fH (wpAny_attempt (iq ?_));rw [f3];refine fH (fS ?_);refine wpAny_call (h _ _ ?_);exact PySem.W.handed_on hv q
end
section
variable {X:Cx}
noncomputable def XAt (H:Hp) (x D:Addr):Prop:=H x=some (XO x D none)
noncomputable def eqVs:List V->List V->Bool
 | [],[]=>true
 | x::xs,y::ys=>eqV x y && eqVs xs ys
 | _,_=>false
theorem ck {xs:List V} {us:List Value} (r:Vals xs us):∀ {j:Nat} {x:V} {u:Value},xs[j]?=some x->us[j]?=some u->RelV x u:=by
 induction r with
 | nil=>intro j x u h;cases h
 | cons r1 _ ih=>
  intro j x u h1 h2
  cases j with
  | zero=>cases h1;cases h2;exact r1
  | succ j=>exact ih h1 h2
inductive IrEqL (K:W.Frag) (x:V) (y:V) (H:Hp) (Q:VK):Prop
 | mk (p:_) (q:_) (xs:_) (ys:_) (h1:x=.ref p) (h2:y=.ref q) (h3:SqL K H p xs) (h4:SqL K H q ys) (h5:xs.all cj=true) (h6:ys.all cj=true) (h7:Q (.bl (eqVs xs ys)) H):IrEqL K x y H Q
end
end L2
namespace L2
open PySem PySem.Spec PyProof.Rows
inductive ItMethD (P:Program) (w:World) (K:W.Frag) (mg:Str->Option Value) (base:Heap) (CX:CXT) (m:Str) (j:Nat) (E:XK) (t:TA) (σ:St) (Q:VK) (x:V) (H1:Hp):Prop
 | mk (a:_) (C:_) (dx:_) (fs:_) (k:_) (ps:_) (sp:_) (h1:x=.ref a) (h2:H1 a=some (.ins C dx fs)) (h3:fs.lookup m=none) (h4:Cls K C) (h5:k<=j) (h6:MtB P w K mg base CX C m k ps sp) (h7:t σ H1 λ vs H2=>sp ((.ref a::vs)++[]) H2 Q E):ItMethD P w K mg base CX m j E t σ Q x H1
noncomputable def tMethD (P:Program) (w:World) (K:W.Frag) (mg:Str->Option Value) (base:Heap) (CX:CXT) (m:Str) (j:Nat) (E:XK) (ta:TE) (t:TA):TE:=λ σ H Q=>ta σ H λ x H1=>ItMethD P w K mg base CX m j E t σ Q x H1
structure ClsRd (K:W.Frag) (C:Addr):Prop where
 rd:PySem.W.readsIn K C (.type "type")=true
 sg:PySem.W.specialIn K (.ref C) "__getattribute__"=some (some (.builtin "type.__getattribute__"))
noncomputable def CfB (P:Program) (w:World) (K:W.Frag) (mg:Str->Option Value) (base:Heap) (CX:CXT) (C:Addr) (m:Str) (k:Nat) (ps:List Str) (sp:Sp):Prop:=
 ∃ f fd,ClsRd K C/\PySem.W.findCls K (.ref C) (.type "type") m=some (.val (.ref f))/\PySem.W.keepIn K (.ref f)=true/\Binds K fd ps []/\FnOk P w K mg base CX k f fd ps sp
section
variable {X:Cx} {CX:CXT} {k j:Nat} {C:Addr} {ps:List Str} {sp:Sp} {E:XK} {x m:Str} {p pos apos:Pos} {e o:Expr} {es:List Expr} {ta:TE} {t:TA}
theorem pe_mtD {pl:Sem Bool} (he:PE X o ta) (hr:Room j X.A) (hx:bM CX X E) (ha:PA X (e::es) t)
  (hst:starEach (e::es) X.env=(false,eval e X.env)::starEach es X.env:=by rfl) (hpl:(backTo pos (starEach es X.env)).any (·.1)=false:=by rfl)
  (ht:eval (.Call (.Attribute o m apos) (e::es) [] pos) X.env=(do
   let ov <- eval o X.env
   standAt apos.atName
   let (f,first) <- holding [ov] (getMethod ov m pl)
   callWith pos f first (backTo pos (starEach (e::es) X.env)) (backToKw pos (keywordEach [] X.env))):=by rfl):PE X (.Call (.Attribute o m apos) (e::es) [] pos) (tMethD X.prog X.w X.K X.mg X.base CX m j E ta t):=by
 intro pins s σ H Q I h;refine ik (pl:=pl) (thn (he pins s σ H _ I h) λ u s1 ⟨x,H1,I1,rx,a,C,dx,fs,k,ps,sp,ex,ea,l,c,hj,⟨f,fd,hm,hb,F⟩,q⟩=>?_) ht;subst ex;obtain rfl:u=Value.ref a:=rx;refine dm I1 ea c hm l ?_;refine il (first:=[.ref a]) (h₀:=X.base) I.ok.mod.kin hm.kp (thn (ha pos pins s1 σ H1 _ I1 q) λ us s2 ⟨vs,H2,I2,r,q2⟩=>⟨I2.kIn,?_⟩) hst hpl;exact run_fn (us:=.ref a::us) (vs:=.ref a::vs) F (hr.mono hj) hb .nil hx I2 (.cons rfl r) q2
theorem cK {pl:Sem Bool} (he:PE X o ta) (hr:Room j X.A) (hx:bM CX X E)
  (ht:eval (.Call (.Attribute o m apos) [] [] pos) X.env=(do
   let ov <- eval o X.env
   standAt apos.atName
   let (f,first) <- holding [ov] (getMethod ov m pl)
   callWith pos f first (backTo pos (starEach [] X.env)) (backToKw pos (keywordEach [] X.env))):=by rfl):PE X (.Call (.Attribute o m apos) [] [] pos) (tMethD X.prog X.w X.K X.mg X.base CX m j E ta tNil):=by
 intro pins s σ H Q I h;refine ik (pl:=pl) (thn (he pins s σ H _ I h) λ u s1 ⟨x,H1,I1,rx,a,C,dx,fs,k,ps,sp,ex,ea,l,c,hj,⟨f,fd,hm,hb,F⟩,q⟩=>?_) ht;subst ex;obtain rfl:u=Value.ref a:=rx;refine dm I1 ea c hm l ?_;exact PySem.W.callWith_K0 (first:=[.ref a]) I1.kIn hm.kp (run_fn (us:=[.ref a]) (vs:=[.ref a]) F (hr.mono hj) hb .nil hx I1 (.cons rfl .nil) q)
theorem pe_cf {np:Pos} {pl:Sem Bool} (F:CfB X.prog X.w X.K X.mg X.base CX C m k ps sp) (hr:Room j X.A) (hm:X.mg x=some (.ref C)) (hx:bM CX X E) (ha:PA X (e::es) t) (hj:k<=j:=by decide) (hg:Gl X x:=by rfl) (hdb:(x == ("__debug__":Str))=false:=by decide)
  (hst:starEach (e::es) X.env=(false,eval e X.env)::starEach es X.env:=by rfl) (hpl:(backTo pos (starEach es X.env)).any (·.1)=false:=by rfl)
  (ht:eval (.Call (.Attribute (.Name x np) m apos) (e::es) [] pos) X.env=(do
   let ov <- eval (.Name x np) X.env
   standAt apos.atName
   let (f,first) <- holding [ov] (getMethod ov m pl)
   callWith pos f first (backTo pos (starEach (e::es) X.env)) (backToKw pos (keywordEach [] X.env))):=by rfl):PE X (.Call (.Attribute (.Name x np) m apos) (e::es) [] pos) (tCall sp [] E t):=by
 intro pins s σ H Q I h;obtain ⟨f,fd,c,hf,hk,hb,F⟩:=F;refine ik (pl:=pl) (cu I hg hm ?_ hdb) ht;refine PySem.W.method_cls I.kIn c.sg (PySem.W.cls_value I.kIn c.rd hf rfl ?_);have I1:=I.tok (s.toks+1);refine il (first:=[]) (h₀:=X.base) I.ok.mod.kin hk (thn (ha pos pins _ σ H _ I1 h) λ us s2 ⟨vs,H2,I2,r,q2⟩=>⟨I2.kIn,?_⟩) hst hpl;exact run_fn (us:=us) (vs:=vs) F (hr.mono hj) hb .nil hx I2 r q2
noncomputable def rRepS:R2:=λ x y H Q=>∃ z n,x=.str z/\y=.int n/\z.length=1/\n.natAbs<1000/\Q (.str (Txt.mul z n)) H
theorem eN:OpR X (binaryOp .Mult) rRepS:=by
 intro pins s σ H x y v u Q I rx ry h;obtain ⟨z,n,rfl,rfl,hz,hn,q⟩:=h;obtain ⟨t,rfl⟩:=rx;obtain ⟨t',rfl⟩:=ry;refine SB.mul ⟨?_,λ h1 _=>?_,λ h1 _=>?_⟩ λ t' tk=>⟨.str _,H,I.tok _,⟨_,rfl⟩,q⟩
 ·simp;omega
 ·rw [hz]
  have:(1:Int)<=(2 ^ 63-1) / n:=Int.le_ediv_of_mul_le (by omega) (by omega)
  omega
 ·rw [hz];unfold Builtin.Str.tooLong;simp only [gc,gt_iff_lt,decide_eq_false_iff_not];omega
end
section
variable {P:Program} {w:World} {K:W.Frag} {mg:Str->Option Value} {base:Heap} {x qual:Str} {C:Addr} {st:Stmt} {N ps:List Str} {k:Nat} {sp:Sp}
noncomputable def CDe (K:W.Frag) (C:Addr) (qual:Str) (st:Stmt) (ps:List Str):Prop:=∃ f fd,FunG K "__init__" qual st f fd/\ClsRd K C/\PySem.W.findCls K (.ref C) (.type "type") "__init__"=some (.val (.ref f))/\PySem.W.keepIn K (.ref f)=true/\Binds K fd ps []
theorem CDe.ok (F:CDe K C qual st ps) (S:FnScope N ps (ah st)) (len:∀ vs H Q E,sp vs H Q E->vs.length=ps.length)
  (hbody:∀ (f:Addr) (cdv:Value) (A:Around) (outer:List Env) (s:Shared) (H:Hp) (vs:List V) (Q:VK) (E:XK),Room k (A.deeper (envOfC qual (ah st) s.heap.objs.size f cdv))->sp vs H Q E->
   ∃ t,PSs (aG CX0 P w K mg base N qual (ah st) f cdv A outer s H E).nox (aV st) t/\t { nx:=λ _ H'=>Q .non H',rt:=Q } (cf N vs) H):CfB P w K mg base CX0 C "__init__" (k+1) ps sp:=
 let ⟨f,fd,a,b,c,d,e⟩:=F
 ⟨f,fd,b,c,d,e,a.ok S len (hbody f)⟩
end
end L2
namespace L2
open PySem PySem.Spec PyProof.Rows
section
variable {prog:Program} {w:World} {A:Around} {E:Value->Shared->Prop} {s:Shared}
end
section
variable {X:Cx} {pos:Pos}
end
end L2
namespace L2
open PySem PySem.Spec PyProof.Rows
noncomputable def dv (P:Program) (w:World) (K:W.Frag) (mg:Str->Option Value) (base:Heap) (qual:Str) (st:Stmt) (N:List Str) (k:Nat) (sp:Sp):Prop:=
 ∀ (f:Addr) (cdv:Value) (A:Around) (outer:List Env) (s:Shared) (H:Hp) (vs:List V) (Q:VK) (E:XK),Room k (A.deeper (envOfC qual (ah st) s.heap.objs.size f cdv))->sp vs H Q E->
  ∃ t,PSs (aG CX0 P w K mg base N qual (ah st) f cdv A outer s H E).nox (aV st) t/\t { nx:=λ _ H'=>Q .non H',rt:=Q } (cf N vs) H
end L2
namespace L2
open PySem PySem.Spec PyProof.Rows
section
variable {prog:Program} {w:World} {A:Around} {E:Value->Shared->Prop} {h:Heap} {g:Array GenState} {d:Drawn} {t:Nat} {os:OsState}
variable {nm q:Str} {C N:Addr} {bs bm bmB:List Value} {hdct:Bool} {sn:List Str} {sub:List Value} {ab:Bool} {col:Option Bool} {dd:Option Addr} {k0 k1 k2 k3 k5:Option Value} {B newId initId:String}
theorem type_call_initT (F:ExcBaseFacts B newId initId bmB) (T:OwnTail h bmB bm) {mN:Str->Option Value} {rest:List Value} {fI:Addr} {oI:Obj} {Q:Fin->Shared->Prop}
  (hC:h.get? C=some (excClassObj nm q C N bs bm hdct sn sub ab col dd k0 k1 k2 k3 k5 newId)) (hn:h.Ns N mN) (hi:mN "__init__"=some (.ref fI))
  (hfI:h.get? fI=some oI) (hfc:oI.cls=.type "function")
  (hq:∀ h' e,Heap.MadeExcOf h h' e (.ref C) rest->
   wpAny (model prog w) A (call (.ref fI) (.ref e::rest)) (λ r s'=>r=.none/\Q (.done (.ret (.ref e))) s') E ⟨h',g,d,t,os⟩) (hrest:rest.length<=sizeLine:=by size_fits) :
  wpAny (model prog w) A (Builtin.«type.__call__» ⟨.ref C::rest,[]⟩) Q E ⟨h,g,d,t,os⟩:=by
 repeat (first | with_reducible refine wpAny_loadPart_at hC ?_ | with_reducible refine wpAny_madeBy_exc hC ?_ | wp_step)
 refine codeAny_call_builtin_code (Code.quiet_builtin _ F.quiet) (wpAny_check_new_subT F T hC ?_);refine codeAny_exc_new_subT F T hC ?_ hrest;show wpAny _ _ _ _ _ _
 have hC₁:=fJ { cls:=.ref C,data:=.fields #[.ref h.objs.size,.none,.none,.none,.bool false,.none] }
  (fJ { cls:=.type "tuple",data:=.seq rest.toArray } hC)
 have hfI₁:=fJ { cls:=.ref C,data:=.fields #[.ref h.objs.size,.none,.none,.none,.bool false,.none] }
  (fJ { cls:=.type "tuple",data:=.seq rest.toArray } hfI)
 have hn₁:((h.push { cls:=.type "tuple",data:=.seq rest.toArray }).push { cls:=.ref C,data:=.fields #[.ref h.objs.size,.none,.none,.none,.bool false,.none] }).Ns N mN:=
  let ⟨o,es,ep,e,r⟩:=hn;⟨o,es,ep,fJ _ (fJ _ e),r⟩
 have hget:((h.push { cls:=.type "tuple",data:=.seq rest.toArray }).push
   { cls:=.ref C,data:=.fields #[.ref h.objs.size,.none,.none,.none,.bool false,.none] }).get? (h.objs.size+1)=some
   { cls:=.ref C,data:=.fields #[.ref h.objs.size,.none,.none,.none,.bool false,.none] }:=by heap_get
 have hcC:(Value.ref C::bm).contains (.ref C)=true:=by simp
 have T₁:=T.keeps (h':=(h.push { cls:=.type "tuple",data:=.seq rest.toArray }).push { cls:=.ref C,data:=.fields #[.ref h.objs.size,.none,.none,.none,.bool false,.none] })
  λ b o e=>fJ _ (fJ _ e)
 unfold isInstance
 repeat (first | with_reducible refine wpAny_loadPart_at hget ?_ | (with_reducible refine wpAny_isSubtype_exc hC₁ ?_;rw [hcC]) | wp_step)
 show wpAny _ _ (typeLookup (.ref C) _) _ _ _;refine wpAny_typeLookup_tail hC₁ hn₁ T₁ F.mroIs F.init.lookup ?_;rw [hi];refine iq (fH ?_);unfold bindSpecial;refine fH (wpAny_typeOf (T:="function") ⟨_,hfI₁,hfc⟩ ?_);rw [if_pos (by decide)];refine fS (fH (gD (hq _ (h.objs.size+1) ⟨λ b o hb=>fJ _ (fJ _ hb),hZ (Nat.le_succ _),h.objs.size,hget,hZ (fM _),?_⟩) (λ r s' hr=>?_) λ _ _ x=>x))
 ·exact fJ _ (Heap.get?_push_at rfl rfl)
 ·obtain ⟨rfl,hQ⟩:=hr
  wp_walk
  exact hQ
theorem call_initT (F:ExcBaseFacts B newId initId bmB) (T:OwnTail h bmB bm) {mN:Str->Option Value} {rest:List Value} {fI:Addr} {oI:Obj} {Q:Value->Shared->Prop}
  (hC:h.get? C=some (excClassObj nm q C N bs bm hdct sn sub ab col dd k0 k1 k2 k3 k5 newId)) (hn:h.Ns N mN) (hi:mN "__init__"=some (.ref fI))
  (hfI:h.get? fI=some oI) (hfc:oI.cls=.type "function")
  (hq:∀ h' e,Heap.MadeExcOf h h' e (.ref C) rest->
   wpAny (model prog w) (A.under (.builtin "type.__call__" ⟨.ref C::rest,[]⟩)) (call (.ref fI) (.ref e::rest)) (λ r s'=>r=.none/\Q (.ref e) s') E ⟨h',g,d,t,os⟩) (hrest:rest.length<=sizeLine:=by size_fits) :
  wpAny (model prog w) A (call (.ref C) rest) Q E ⟨h,g,d,t,os⟩:=by
 have f1:=tc_lookup;have f2:=tc_bind (.ref C);have hT:(⟨h,g,d,t,os⟩:Shared).TypeIs (.ref C) "type":=⟨_,hC,rfl⟩;refine wpAny_call (codeAny_of_tree ?_);show wpAny _ _ (callAny (.ref C) _) _ _ _
 repeat (any_goals (first | assumption | with_reducible refine wpAny_loadPart_at hC ?_ | wp_step))
 refine ⟨rfl,?_⟩;refine codeAny_call_builtin_at (Code.quiet_builtin _ (by decide +kernel)) entry_typeCall (wpAny_check_type_call_sub hC (type_call_initT (hrest:=hrest) F T hC hn hi hfI hfc λ h' e hm=>?_));exact hq h' e hm
end
end L2
namespace L2
open PySem PySem.Spec PyProof.Rows
open Builtin Builtin.ObjectAttr
section
theorem refuse_bmV (self:Value):refuseLoop self "__setattr__" bmV=pure ():=by kernel_rfl
structure ExI (K:W.Frag) (C:Addr):Prop where
 cl:∃ (cd:ClassData) (tl:List Addr),PySem.W.clsIn K C=some cd/\cd.mro=tl.map Value.ref++bmV/\cd.hasDict=true
 sa:PySem.W.findIn K (.ref C) "__setattr__"=some (some (.builtin "object.__setattr__"))
theorem refuse_tail (self:Value):∀ tl:List Addr,refuseLoop self "__setattr__" (tl.map Value.ref++bmV)=pure ()
 | []=>refuse_bmV self
 | a::tl=>by
  rw [gN,List.cons_append,refuseLoop_ref];exact refuse_tail self tl
variable {prog:Program} {w:World} {A:Around} {E:Value->Shared->Prop} {s:Shared} {K:W.Frag} {x C:Addr} {o:Obj} {od:Option Obj} {name:Str} {v:Value}
theorem exc_open {tk:Tok} {R:Result->Shared->Prop} (X:K.In s.heap) (I:PySem.W.InstAt s.heap x o C od) (F:ExI K C) (n:NoAttr K C name)
  (h:∀ b,wpAny (model prog w) A.in1 (storeInOwnDict (.ref x) (.ref C) (.str name tk) name v b)
   (λ fin s'=>match fin with | .done f=>R (.ok f) s' | .again c'=>c'.quiet=true/\codeAny (model prog w) A c' R s') (λ e s'=>R (.error e) s') s) :
  codeAny (model prog w) A (.call (.builtin "object.__setattr__") ⟨[.ref x,.str name tk,v],[]⟩) R s:=by
 have SF:=PySem.F.store_object;obtain ⟨cd,tl,hc,hm,hd⟩:=F.cl;have has:cd.mro.contains (.type "object")=true:=by rw [hm];simp
 have ne:cd.mro.isEmpty=false:=by rw [hm];simp
 have sub:PySem.W.Looks (model prog w) s.heap (isInstance (.ref x) (.type "object")) true:=I.type.andThen (PySem.W.looks_mroIn X (by unfold PySem.W.mroIn;rw [hc,Option.bind_some,if_neg (by rw [ne];decide),has]));refine codeAny_call_builtin SF.slot.plain SF.entry (@PySem.W.check_slot (model prog w) _ _ s "object.__setattr__" "object" "__setattr__" (.ref x) [.str name tk,v] [] _ SF.kind SF.split sub (SF.args (.ref x) (.str name tk) v) ?_);obtain ⟨attr,ha,hr⟩:=Option.bind_eq_some_iff.mp n.taker;have hmr:PySem.W.Looks (model prog w) s.heap (mroOf (.ref C)) cd.mro:=(PySem.W.looks_clsIn X hc).andThen .now
 have L3:PySem.W.Looks (model prog w) s.heap (storeTaker? attr) none:=by
  cases attr with
  | none=>cases hr;exact .now
  | some a=>
   obtain ⟨b,hb,hr⟩:=gW.mp hr;refine (PySem.W.looks_takesIn X hb).andThen ?_
   cases b with
   | true=>cases hr
   | false=>exact .now
 rw [PySem.W.osa_eq,refuse_eq];refine fH (fH (I.type.here (fH (hmr.here ?_))));rw [hm,refuse_tail];refine fS (fH (I.type.here (fH ((PySem.W.looks_findIn X ha).here (fH (L3.here ?_))))));exact h _
theorem exc_set0 {Q:Unit->Shared->Prop} (X:K.In s.heap) (F:ExI K C) (n:NoAttr K C name) (hx:s.heap.get? x=some o) (hc:o.cls=.ref C) (hnc:∀ c,o.data≠.cls c) (hdn:o.dict=none)
  (hq:∀ h' tk',h'.get? x=some { cls:=o.cls,dict:=some s.heap.objs.size,data:=o.data,slots:=o.slots }->h'.Ns1 s.heap.objs.size (λ y=>if y=name then some v else none)->
   (∀ b ob,b≠x->s.heap.get? b=some ob->h'.get? b=some ob)->Q () { s with heap:=h',toks:=tk' }) :
  wpAny (model prog w) A (setAttr (.ref x) name v) Q E s:=by
 have hno:PySem.W.notCls o=true:=by
  unfold PySem.W.notCls
  split
  ·rename_i c e;exact absurd e (hnc c)
  ·rfl
 have I:PySem.W.InstAt s.heap x o C none:=⟨hx,hc,hno,by rw [hdn];trivial⟩;refine PySem.W.set_plain X I F.sa (exc_open (s:={ s with toks:=s.toks+1 }) X I F n λ b=>?_);obtain ⟨cd,tl,hcl,hm,hd⟩:=F.cl;obtain ⟨h,g,d,t,os⟩:=s;dsimp only at hx X hq;have hx₁:(h.push { cls:=.type "dict",data:=.dict #[] }).get? x=some o:=fJ _ hx;have hxs:x≠h.objs.size:=gF (fT hx);unfold storeInOwnDict ownDictForStores instanceDict;refine fH (fS (fH (fH (wpAny_loadPart hx ?_))));rw [hc];refine fH ((PySem.W.looks_clsIn X hcl).at ?_);rw [hd,hdn];simp only [Bool.not_true,g4,if_false];have hth:typeHasDict (.ref C)=true:=by simp [typeHasDict]
 rw [hth];simp only [Bool.not_true,Bool.or_self,g4,if_false];refine fH (wpAny_alloc' (fH (wpAny_update' hx₁ (fS ?_))))
 have hgd:((h.push { cls:=.type "dict",data:=.dict #[] }).update x λ o=>{ cls:=o.cls,dict:=some h.objs.size,data:=o.data,slots:=o.slots }).get? h.objs.size
   = some { cls:=.type "dict",data:=.dict #[] }:=
  (Heap.get?_update_ne _ _ _ _ hxs.symm).trans (Heap.get?_push_at rfl rfl)
 have hnd:((h.push { cls:=.type "dict",data:=.dict #[] }).update x λ o=>{ cls:=o.cls,dict:=some h.objs.size,data:=o.data,slots:=o.slots }).Ns h.objs.size (λ _=>none):=
  ⟨_,#[],_,hgd,rfl,λ e he=>absurd he (by simp),λ _=>rfl⟩
 show wpAny _ _ (storeInDict h.objs.size (.str name t) name v) _ _ _;unfold storeInDict newKeyGuard;refine fH (fS (fH (wpAny_nsSet1 (Heap.Ns1.of_empty hnd) λ h' hn' hs=>?_)));obtain ⟨oD,esD,epD,hoD,hdD,hcD⟩:=hn'.count (Within.cons name v Within.nil);refine fH (wpAny_lookBehind hoD (by rw [hdD];exact pastItsLine_dict (fO hcD (by rw [gG,List.length_nil,iy];omega))) ?_);refine fS (hq h' _ ?_ hn' (λ b ob hbx hb=>?_))
 ·refine (hs.2 x hxs).trans (Heap.get?_update_self _ hx₁ ?_);have hfr:=(Heap.get?_some_iff.mp hx).2;obtain ⟨oc,od,odt,osl⟩:=o
  cases odt <;> first | rfl | exact hfr
 ·exact (hs.2 b (gF (fT hb))).trans ((Heap.get?_update_ne _ _ _ _ hbx).trans (fJ _ hb))
theorem exc_base_init {nm q:Str} {N:Addr} {bs bm bmB:List Value} {hdct:Bool} {sn:List Str} {sub:List Value} {ab:Bool} {col:Option Bool} {dd de:Option Addr} {k0 k1 k2 k3 k5:Option Value} {B newId initId:String} {e t0:Addr} {rest:List Value} {Q:Value->Shared->Prop}
  (F:ExcBaseFacts B newId initId bmB) (T:OwnTail s.heap bmB bm) (hC:s.heap.get? C=some (excClassObj nm q C N bs bm hdct sn sub ab col dd k0 k1 k2 k3 k5 newId)) (he:s.heap.get? e=some ⟨.ref C,de,.fields #[.ref t0,.none,.none,.none,.bool false,.none],#[]⟩)
  (hq:∀ h' t1,h'.get? e=some ⟨.ref C,de,.fields #[.ref t1,.none,.none,.none,.bool false,.none],#[]⟩->(∀ b ob,b≠e->s.heap.get? b=some ob->h'.get? b=some ob)->Q .none { s with heap:=h' }) (hrest:rest.length<=sizeLine) :
  wpAny (model prog w) A (call (.builtin initId) (.ref e::rest)) Q E s:=by
 obtain ⟨h,g,d,t,os⟩:=s;dsimp only at hC he hq T;refine wpAny_call (codeAny_call_builtin F.init.plain F.initEntry (wpAny_check_init_subT F T hC he rfl ?_))
 wp_walk
 refine hq _ h.objs.size ?_ λ b ob hb e=>?_
 ·rw [Heap.get?_update_self _ (fJ _ he) rfl];rfl
 ·rw [gU _ _ (ib hb)];exact fJ _ e
theorem eL {M:Model} {env:Env} {nm q:Str} {N:Addr} {bs bm:List Value} {hdct:Bool} {sn:List Str} {sub:List Value} {ab:Bool} {col:Option Bool} {dd:Option Addr} {k0 k1 k2 k3 k5:Option Value} {newId:String} {y:Sem Value} {Q:Flow->Shared->Prop} (hbase:bm.contains (.type "BaseException")=true) (hh:A.handled=none)
  (h:wpAny M A y (λ v s₁=>∃ e t de,v=.ref e/\s₁.heap.get? C=some (excClassObj nm q C N bs bm hdct sn sub ab col dd k0 k1 k2 k3 k5 newId)/\
   s₁.heap.get? e=some ⟨.ref C,de,.fields #[.ref t,.none,.none,.none,.bool false,.none],#[]⟩/\E (.ref e) s₁) E s) :
  wpAny M A (raiseStmt env (some y) none) Q E s:=by
 have hcB:(Value.ref C::bm).contains (.type "BaseException")=true:=by rw [List.contains_cons,hbase,Bool.or_true]
 unfold raiseStmt;refine fH (gD h (λ v s₁ h₁=>?_) λ _ _ x=>x);obtain ⟨e,t,de,rfl,hC,he,hE⟩:=h₁;obtain ⟨hp,g,d,tk,os⟩:=s₁
 repeat (first | with_reducible refine wpAny_loadPart_at he ?_ | with_reducible refine wpAny_loadPart_at hC ?_ | (with_reducible refine wpAny_isSubtype_exc hC ?_;rw [hcB]) | wp_step)
 exact wpAny_raiseNew_none hh hE
noncomputable def excFI (K:W.Frag) (C:Addr) (bmB:List Value) (newId:String):Option Addr:=match K.lookup C with
 | some ⟨.type "type",_,.cls cd,sl⟩=>(match cd.mro,sl.toList with
  | .ref C'::bm,[_,_,_,_,some (.builtin n),_]=>if (C' == C && n == newId && !cd.hasDel && PySem.W.tailIn K bmB bm && PySem.W.nsOkIn K cd.ns)=true then (match PySem.W.nsIn K cd.ns "__init__" with | some (some (.ref f))=>some f | _=>none) else none
  | _,_=>none)
 | _=>none
theorem ns_of {h:Heap} {N:Addr} {mg:Str->Option Value} {n:Str} {v:Value} (X:K.In h) (G:h.Ns N mg) (e:PySem.W.nsIn K N n=some (some v)):mg n=some v:=by
 obtain ⟨o,es,ep,ho,hd,_,hf⟩:=G;unfold PySem.W.nsIn at e
 split at e
 ·rename_i c d es' n' sl q
  have:=X _ _ q
  rw [ho] at this
  cases this
  cases hd
  split at e
  ·rename_i en he
   cases e;rw [<- hf];unfold nsFind findBy;rw [<- Array.find?_toList,he];rfl
  ·split at e <;> cases e
 ·cases e
theorem exc_objI {h:Heap} {bmB:List Value} {newId:String} {f:Addr} (X:K.In h) (q:excFI K C bmB newId=some f) :
  ∃ bm N nm qn bs hd sn sub ab col dd k0 k1 k2 k3 k5 mN,h.get? C=some (excClassObj nm qn C N bs bm hd sn sub ab col dd k0 k1 k2 k3 k5 newId)/\h.Ns N mN/\mN "__init__"=some (.ref f)/\OwnTail h bmB bm:=by
 unfold excFI at q
 split at q
 case h_2=>cases q
 case h_1 dd cd sl lk=>
  split at q
  case h_2=>cases q
  case h_1 C' bm k0 k1 k2 k3 n k5 hm hs=>
   split at q
   case isFalse=>cases q
   case isTrue hq=>
    simp only [Bool.and_eq_true,beq_iff_eq,Bool.not_eq_true'] at hq;obtain ⟨⟨⟨⟨e1,e2⟩,hdel⟩,ht⟩,hok⟩:=hq;subst e1 e2
    split at q
    case h_2=>cases q
    case h_1 f' hi=>
     cases q;obtain ⟨nm,bs,mro,ns,qn,hd,sn,sub,ab,col,del⟩:=cd;dsimp only at hm hdel hok hi;subst hm hdel;obtain ⟨l⟩:=sl;have hs:l=_:=hs;subst hs;exact ⟨bm,ns,nm,qn,bs,hd,sn,sub,ab,col,dd,k0,k1,k2,k3,k5,_,X _ _ lk,.of_isNs (PySem.W.isNs_of_in X hok),ns_of X (.of_isNs (PySem.W.isNs_of_in X hok)) hi,PySem.W.tail_of_in X ht⟩
end
end L2
namespace L2
open PySem PySem.Spec PyProof.Rows
section
variable {prog:Program} {w:World} {A:Around} {E:Value->Shared->Prop} {s:Shared} {env:Env}
variable {nm q:Str} {C N:Addr} {bs bm bmB:List Value} {hdct:Bool} {sn:List Str} {sub:List Value} {ab:Bool} {col:Option Bool} {dd:Option Addr} {k0 k1 k2 k3 k5:Option Value} {B newId initId:String}
theorem Raise_call_initT (F:ExcBaseFacts B newId initId bmB) {mN:Str->Option Value} {fI:Addr} {oI:Obj} {x:Str} {np cpos pos:Pos} {args:List Expr} {Q:Flow->Shared->Prop}
  (hbase:bm.contains (.type "BaseException")=true) (hh:A.handled=none) (hplain:(backTo cpos (starEach args env)).any (·.1)=false) (hi:mN "__init__"=some (.ref fI)) (hfc:oI.cls=.type "function")
  (h:wpAny (model prog w) A (eval (.Name x np) env) (λ f s₁=>f=.ref C/\wpAny (model prog w) A (evalArgs (.ref C) true (backTo cpos (starEach args env)) [])
   (λ a s₂=>a.kw=[]/\a.pos.length<=sizeLine/\s₂.heap.get? C=some (excClassObj nm q C N bs bm hdct sn sub ab col dd k0 k1 k2 k3 k5 newId)/\s₂.heap.Ns N mN/\OwnTail s₂.heap bmB bm/\s₂.heap.get? fI=some oI/\
    ∀ h' e,Heap.MadeExcOf s₂.heap h' e (.ref C) a.pos->wpAny (model prog w) (A.under (.builtin "type.__call__" ⟨.ref C::a.pos,[]⟩)) (call (.ref fI) (.ref e::a.pos))
     (λ r s'=>r=.none/\(∃ t de,s'.heap.get? C=some (excClassObj nm q C N bs bm hdct sn sub ab col dd k0 k1 k2 k3 k5 newId)/\s'.heap.get? e=some ⟨.ref C,de,.fields #[.ref t,.none,.none,.none,.bool false,.none],#[]⟩)/\E (.ref e) s') E { s₂ with heap:=h' }) E s₁) E s) :
  wpAny (model prog w) A (exec (.Raise (some (.Call (.Name x np) args [] cpos)) none pos) env) Q E s:=by
 rw [arm_exec_Raise]
 first
  | refine fH (ir (eL (C:=C) (nm:=nm) (q:=q) (N:=N) (bs:=bs) (bm:=bm) (hdct:=hdct) (sn:=sn) (sub:=sub) (ab:=ab) (col:=col) (dd:=dd) (k0:=k0) (k1:=k1) (k2:=k2) (k3:=k3) (k5:=k5) (newId:=newId) hbase hh (fH (gD (wpAny_Call_ofName (gD h (λ f s₁ h₁=>?_) λ _ _ x=>x)) (λ v s₃ h₃=>fH (ir (fS h₃))) λ _ _ x=>x))))
  | (simp only [evalOpt,Option.map];refine fH (ir (eL (C:=C) (nm:=nm) (q:=q) (N:=N) (bs:=bs) (bm:=bm) (hdct:=hdct) (sn:=sn) (sub:=sub) (ab:=ab) (col:=col) (dd:=dd) (k0:=k0) (k1:=k1) (k2:=k2) (k3:=k3) (k5:=k5) (newId:=newId) hbase hh (fH (gD (wpAny_Call_ofName (gD h (λ f s₁ h₁=>?_) λ _ _ x=>x)) (λ v s₃ h₃=>fH (ir (fS h₃))) λ _ _ x=>x)))))
  | (refine fH (ir (eL (C:=C) (nm:=nm) (q:=q) (N:=N) (bs:=bs) (bm:=bm) (hdct:=hdct) (sn:=sn) (sub:=sub) (ab:=ab) (col:=col) (dd:=dd) (k0:=k0) (k1:=k1) (k2:=k2) (k3:=k3) (k5:=k5) (newId:=newId) hbase hh ?_));refine fH (gD (wpAny_Call_ofName (gD h (λ f s₁ h₁=>?_) λ _ _ x=>x)) (λ v s₃ h₃=>fH (ir (fS h₃))) λ _ _ x=>x))
 obtain ⟨rfl,h₁⟩:=h₁;unfold callWith;refine fH (iq (gD h₁ (λ a s₂ h₂=>fH (ir ?_)) λ _ _ x=>x));obtain ⟨apos,akw⟩:=a;obtain ⟨hkw,hlen,hC,hn,T,hf,h₂⟩:=h₂;obtain rfl:akw=[]:=hkw;obtain ⟨hp,g,d,tk,os⟩:=s₂;simp only [hplain];refine fH (wpAny_keeperOf_exc hC ?_);refine fH (call_initT (hrest:=hlen) F T hC hn hi hf hfc λ h' e hm=>gD (h₂ h' e hm) (λ r s' z=>?_) λ _ _ z=>z);obtain ⟨rfl,⟨t,de,g1,g2⟩,z⟩:=z;exact ⟨rfl,fH (iq (wpAny_point (fS ⟨e,t,de,rfl,g1,g2,z⟩)))⟩
end
noncomputable def XI (e C:Addr) (d:Option Addr):HO:=.ext λ h=>∃ t,h.get? e=some ⟨.ref C,d,.fields #[.ref t,.none,.none,.none,.bool false,.none],#[]⟩
noncomputable def del (H:Hp) (e:Addr):Hp:=λ b=>if b=e then none else H b
section
variable {X:Cx} {pins:List (Addr × Obj)} {σ:St} {H:Hp} {s:Shared} {x:Addr}
theorem XI.ok {P:Program} {w:World} {h:Heap} {C t:Addr} {d:Option Addr} (e:h.get? x=some ⟨.ref C,d,.fields #[.ref t,.none,.none,.none,.bool false,.none],#[]⟩):ObjOk P w H h x (XI x C d):=
 ⟨⟨t,e⟩,⟨_,e⟩,λ _ _ ⟨t',e'⟩ k=>⟨t',k _ e'⟩⟩
theorem Inv.forget {φ:Heap->Prop} (I:Inv X pins σ H s) (hx:H x=some (.ext φ)):Inv X pins σ (del H x) s:=by
 have nn:∀ b,H b=none->del H x b=none:=λ b e=>by unfold del;split;rfl;exact e
 have st:∀ b u,H b=some u->(∀ φ,u≠.ext φ)->del H x b=some u:=λ b u e ne=>by
  unfold del;rw [if_neg]
  ·exact e
  ·rintro rfl;rw [hx] at e
   cases e;exact ne _ rfl
 refine ⟨I.ok,I.os,I.bare,⟨I.base.keep,I.base.slot,λ b u e n hx=>nn b (I.base.free b u e n hx),I.base.there,λ b xs e=>st b _ (I.base.tups b xs e) (by nofun),λ b u v e=>st b _ (I.base.frzs b u v e) (by nofun),λ b ps e=>?_⟩,
  I.loc,I.cell,nn _ I.free,λ y c e=>nn _ (I.freeC y c e),λ p hp=>?_,λ b u e=>?_,I.len⟩
 ·obtain ⟨more,q⟩:=I.base.tbls b ps e;exact ⟨more,st b _ q (by nofun)⟩
 ·obtain ⟨e,n,r⟩:=I.pin p hp;exact ⟨e,nn _ n,r⟩
 ·have e':H b=some u:=by
   unfold del at e
   split at e
   ·cases e
   ·exact e
  exact (I.hok b u e').stay (λ _ _ _ q=>q) (λ c q=>st c _ q (by nofun)) λ c xs q=>st c _ q (by nofun)
end
end L2
namespace L2
open PySem PySem.Spec PyProof.Rows
noncomputable def XiB (P:Program) (w:World) (K:W.Frag) (mg:Str->Option Value) (base:Heap) (C:Addr) (k:Nat) (ps:List Str) (sp:Sp):Prop:=
 ∃ f fd,excFI K C bmV "ValueError.__new__"=some f/\PySem.W.typeIn K (.ref f)=some (.type "function")/\Binds K fd ps []/\FnOk P w K mg base CX0 k f fd ps sp
section
variable {X:Cx} {E:XK}
noncomputable def tRaiseI (C:Addr) (sp:Sp) (E:XK) (t:TA):TS:=λ _ σ H=>t σ H λ vs H1=>vs.length<=sizeLine/\
 ∀ e,H1 e=none->sp ((.ref e::vs)++[]) (upd H1 e (XI e C none)) (λ v H2=>v=.non/\∃ d,H2 e=some (XI e C d)/\E (.ref C) d (del H2 e)) E0
theorem ps_raiseI {C:Addr} {x:Str} {np cpos pos:Pos} {e:Expr} {es:List Expr} {t:TA} {k j:Nat} {ps:List Str} {sp:Sp} (hxe:XOut X E) (hex:X.ex=[]) (hr:Room j X.A) (hg:Gl X x) (hm:X.mg x=some (.ref C))
  (O:XiB X.prog X.w X.K X.mg X.base C k ps sp) (ha:PA X (e::es) t) (hj:k+1<=j:=by decide) (he:starEach (e::es) X.env=(false,eval e X.env)::starEach es X.env:=by rfl) (hpl:(backTo cpos (starEach es X.env)).any (·.1)=false:=by rfl)
  (hd:(x == ("__debug__":Str))=false:=by decide):PS X (.Raise (some (.Call (.Name x np) (e::es) [] cpos)) none pos) (tRaiseI C sp E t):=by
 intro pins s σ H D I h;obtain ⟨f,fd,hfi,hft,hb,F⟩:=O;obtain ⟨bm,N,nm,qn,bs,hd',sn,sub,ab,col,dd,k0,k1,k2,k3,k5,mN,hC,hN,hi,T⟩:=exc_objI I.ok.mod.kin hfi;obtain ⟨oI,hoI,hcI⟩:=gW.mp hft
 refine Raise_call_initT (C:=C) (nm:=nm) (q:=qn) (N:=N) (bs:=bs) (bm:=bm) (hdct:=hd') (sn:=sn) (sub:=sub) (ab:=ab) (col:=col) (dd:=dd) (k0:=k0) (k1:=k1) (k2:=k2) (k3:=k3) (k5:=k5)
  PySem.F.excBase_ValueError (mN:=mN) (fI:=f) (oI:=oI) (T.hasType rfl) hr.hd (by rw [he];show (false || (backTo cpos (starEach es X.env)).any (·.1))=false;rw [hpl];rfl) hi hcI (cu I hg hm ⟨rfl,?_⟩ hd)
 have ha':=ha cpos pins s σ H _ I h;rw [he] at ha' ⊢;refine Calls.evalArgs_plain (thn ha' λ us s1 ⟨vs,H1,I1,r,hl,q⟩=>⟨rfl,by rw [<- r.length];exact hl,I1.bk _ _ hC,hN.keeps I1.bk,T.keeps I1.bk,I1.bk _ _ (I.ok.mod.kin _ _ hoI),λ h' y hy=>?_⟩);obtain ⟨t',g1,_,_⟩:=hy.there;have ny:=I1.hok.noObj hy.new;have J:Inv X pins σ (upd H1 y (XI y C none)) { s1 with heap:=h' }:=(I1.kept (t':=s1.toks) hy.keeps).track ny (I1.off hex hy.new) (XI.ok g1);have hq:=q y ny;have r2:Vals ((V.ref y::vs)++[]) ((Value.ref y::us)++[]):=Vals.append (.cons rfl r) .nil;have hl2:((Value.ref y::us)++[]).length=ps.length:=by rw [<- r2.length];exact F.len _ _ _ _ hq
 refine wpAny_call (codeAny_mono (F.run _ X.stack _ _ ⟨Value.ref y::us,[]⟩ _ _ _ E0 ((hr.mono hj).make C us []) (J.env0.make C us []) (hb _ (Value.ref y::us) J.kIn hl2) r2 hq) λ r s' hq'=>?_)
 cases r with
 | error e=>exact False.elim hq'
 | ok fl=>
  cases fl with
  | ret u=>
   obtain ⟨v,H',I3,rv,ev,d,hx,q3⟩:=J.after hq';subst ev;obtain ⟨⟨t2,g2⟩,_⟩:=(show ObjOk X.prog X.w H' s'.heap y (XI y C d) from I3.hok y _ hx);refine ⟨rv,⟨t2,d,I3.bk _ _ hC,g2⟩,?_⟩;refine hxe pins σ _ _ ⟨y,.ref C,d,del H' y,rfl,I3.forget hx,⟨by unfold del;rw [if_pos rfl],I1.off hex hy.new,_,_,none,g2,rfl,λ T z=>by cases z⟩,q3⟩
  | next=>exact False.elim hq'
  | brk=>exact False.elim hq'
  | cont=>exact False.elim hq'
end
end L2
namespace L2
open PySem PySem.Spec PyProof.Rows
section
variable {X:Cx} {e e1 e2 value:Expr} {es:List Expr} {pos apos np pos':Pos} {t:TA} {ta tv t1 t2:TE} {x f:Str} {G:Addr}
theorem upd_id {H:Hp} {a:Addr} {o:HO} (h:H a=some o):upd H a o=H:=by
 funext b
 by_cases hb:b=a
 ·subst hb;rw [ae,h]
 ·rw [ai hb]
noncomputable def tBI (K:W.Frag) (t:TA):TE:=λ σ H Q=>t σ H λ vs H1=>∃ e C d rest f,vs=.ref e::rest/\H1 e=some (XI e C d)/\excFI K C bmV "ValueError.__new__"=some f/\rest.length<=sizeLine/\Q .non H1
theorem pe_binit {pl:Sem Bool} (cr:ClsRd X.K G) (hf:PySem.W.findCls X.K (.ref G) (.type "type") "__init__"=some (.val (.builtin "ValueError.__init__"))) (hm:X.mg x=some (.ref G)) (ha:PA X (e::es) t) (hg:Gl X x:=by rfl) (hdb:(x == ("__debug__":Str))=false:=by decide)
  (hst:starEach (e::es) X.env=(false,eval e X.env)::starEach es X.env:=by rfl) (hpl:(backTo pos (starEach es X.env)).any (·.1)=false:=by rfl)
  (ht:eval (.Call (.Attribute (.Name x np) "__init__" apos) (e::es) [] pos) X.env=(do
   let ov <- eval (.Name x np) X.env
   standAt apos.atName
   let (f,first) <- holding [ov] (getMethod ov "__init__" pl)
   callWith pos f first (backTo pos (starEach (e::es) X.env)) (backToKw pos (keywordEach [] X.env))):=by rfl):PE X (.Call (.Attribute (.Name x np) "__init__" apos) (e::es) [] pos) (tBI X.K t):=by
 intro pins s σ H Q I h;refine ik (pl:=pl) (cu I hg hm ?_ hdb) ht;refine PySem.W.method_cls I.kIn cr.sg (PySem.W.cls_value I.kIn cr.rd hf (by decide +kernel) ?_);have I1:=I.tok (s.toks+1);refine PyProof.Rows.callWith_builtin1 (thn (ha pos pins _ σ H _ I1 h) λ us s1 ⟨vs,H1,I2,r1,q1⟩=>?_) hst hpl;obtain ⟨y,C,d,rest,fi,rfl,hy,hfi,hl,q⟩:=q1
 cases r1 with
 | cons r2 r3=>
  cases r2;obtain ⟨bm,N,nm,qn,bs,hd',sn,sub,ab,col,dd,k0,k1,k2,k3,k5,mN,hC,hN,hi,T⟩:=exc_objI I2.kIn hfi;obtain ⟨⟨t0,g0⟩,_⟩:=(show ObjOk X.prog X.w H1 s1.heap y (XI y C d) from I2.hok y _ hy);refine exc_base_init PySem.F.excBase_ValueError T hC g0 (λ h' t1 g1 kp=>?_) (by rw [<- r3.length];exact hl);have J:=I2.write (t':=s1.toks) (x:=y) (e:=y) (o:=XI y C d) (by rw [hy];exact True.intro) (.inl rfl) kp ⟨_,g1⟩ (XI.ok g1);rw [upd_id hy] at J;exact ⟨.non,H1,J,rfl,q⟩
noncomputable def tJ2 (t1 t2:TE):TE:=λ σ H Q=>t1 σ H λ x H1=>∃ a,x=.str a/\a.length<=sizeLine/\t2 σ H1 λ y H2=>∃ b,y=.str b/\a.length+b.length<=sizeLine/\Q (.str (a++b)) H2
theorem pe_j2 (h1:PE X e1 t1) (h2:PE X e2 t2):PE X (.JoinedStr [e1,e2] pos) (tJ2 t1 t2):=by
 intro pins s σ H Q I h;refine JoinedStr_many (joinParts_cons (thn (h1 pins s σ H _ I h) λ u s1 ⟨x,H1,I1,rx,a,ex,ha,q⟩=>?_));subst ex;obtain ⟨t,rfl⟩:=rx;refine ⟨by rw [Str.empty_append];exact ha,joinParts_cons (thn (h2 pins s1 σ H1 _ I1 q) λ u s2 ⟨y,H2,I2,ry,b,ey,hb,q2⟩=>?_)⟩;subst ey;obtain ⟨t',rfl⟩:=ry;have hl:((Str.empty++a)++b).length<=sizeLine:=by rw [Str.empty_append,strLen_append];exact hb
 refine ⟨hl,joinParts_nil ?_ hl⟩;rw [Str.empty_append];exact ⟨.str _,H2,I2.tok _,⟨_,rfl⟩,q2⟩
noncomputable def tFv (tv:TE):TE:=λ σ H Q=>tv σ H λ x H1=>∃ z,x=.str z/\z.length<=sizeLine/\Q (.str z) H1
theorem pe_fv (h:PE X value tv):PE X (.FormattedValue value (-1) none pos) (tFv tv):=by
 intro pins s σ H Q I hq;refine FormattedValue_plain (thn (h pins s σ H _ I hq) λ u s1 ⟨x,H1,I1,rx,z,ex,hz,q⟩=>?_);subst ex;obtain ⟨t,rfl⟩:=rx;exact formatField_str (λ t' tk=>⟨.str z,H1,I1.tok tk,⟨_,rfl⟩,q⟩) hz
noncomputable def sXf (K:W.Frag) (ta tv:TE) (f:Str):TS:=λ D σ H=>tv σ H λ y H1=>ta σ H1 λ x H2=>∃ a C,x=.ref a/\H2 a=some (XI a C none)/\ExI K C/\NoAttr K C f/\
 ∀ dx,H2 dx=none->D.nx σ (upd (upd H2 a (XI a C (some dx))) dx (.xd [(f,y)]))
theorem ps_xfld {o:Expr} (ha:PE X o ta) (hv:PE X value tv) (hs:swapsWith value (some (.Attribute o f pos')) pos.line X.env=pure false) (hex:X.ex=[]:=by rfl):PS X (.Assign [.Attribute o f pos'] value pos) (sXf X.K ta tv f):=by
 intro pins s σ H D I h;refine plainObj_wpAny_Assign_Attribute (thn (hv pins s σ H _ I h) λ u s1 ⟨y,H1,I1,ry,q⟩=>thn (ha pins s1 σ H1 _ I1 q) λ ov s2 ⟨x,H2,I2,rx,a,C,ex,ea,c,n,q2⟩=>?_) hs;subst ex;obtain rfl:ov=Value.ref a:=rx;obtain ⟨⟨t0,g0⟩,_⟩:=(show ObjOk X.prog X.w H2 s2.heap a (XI a C none) from I2.hok a _ ea);refine exc_set0 I2.kIn c n g0 rfl (by nofun) rfl λ h' tk' g1 ns kp=>?_;have nd:H2 s2.heap.objs.size=none:=I2.hok.fresh (fM _);have ne:s2.heap.objs.size≠a:=λ z=>by rw [z,ea] at nd;cases nd
 have J:=I2.write (t':=tk') (x:=a) (e:=a) (o:=XI a C (some s2.heap.objs.size)) (by rw [ea];exact True.intro) (.inl rfl) kp ⟨_,g1⟩ (XI.ok g1);have J2:=J.track (x:=s2.heap.objs.size) (o:=.xd [(f,y)]) (by rw [ai ne];exact nd) (I2.off hex (hZ (fM _))) ⟨_,ns,λ g=>?_⟩
 ·exact ⟨σ,_,J2,q2 _ nd⟩
 ·show RelO (List.lookup g [(f,y)]) (if g=f then some u else none);rw [g8];by_cases h:g=f
  ·rw [if_pos h,show (g == f)=true from beq_iff_eq.mpr h];exact ry
  ·rw [if_neg h,show (g == f)=false from gZ.mpr h];exact True.intro
noncomputable def tXf (K:W.Frag) (ta:TE) (f:Str):TE:=λ σ H Q=>ta σ H λ x H1=>∃ a C dx fs v,x=.ref a/\H1 a=some (XO a C (some dx))/\H1 dx=some (.xd fs)/\ExA K C/\PySem.W.hasDictIn K C=true/\PySem.W.findIn K (.ref C) f=some none/\fs.lookup f=some v/\Q v H1
theorem pe_xfld (he:PE X e ta) (hb:attributeBase e f X.env (eval e X.env)=eval e X.env):PE X (.Attribute e f pos) (tXf X.K ta f):=by
 intro pins s σ H Q I h;refine attr_of hb (thn (he pins s σ H _ I h) λ u s1 ⟨x,H1,I1,rx,a,C,dx,fs,v,ex,ea,ed,c,hd,nf,l,q⟩=>?_);subst ex;obtain rfl:u=Value.ref a:=rx;obtain ⟨⟨vs,sl,g0⟩,_⟩:=(show ObjOk X.prog X.w H1 s1.heap a (XO a C (some dx)) from I1.hok a _ ea);obtain ⟨mA,ns,rel⟩:=(show ObjOk X.prog X.w H1 s1.heap dx (.xd fs) from I1.hok dx _ ed);obtain ⟨od,ho,hl⟩:=lookIn_ns ns;obtain ⟨u,hu,ru⟩:=RelO.some_of (v:=v) (o:=mA f) (by rw [<- l];exact rel f);have J:PySem.W.InstAt s1.heap a ⟨.ref C,some dx,.fields vs,sl⟩ C (some od):=⟨g0,rfl,rfl,ho⟩;have hfo:PySem.W.findObj X.K C (some od) f=some (.value u):=PySem.W.findObj_own hd nf rfl (by rw [hl,hu]);obtain ⟨hh,gg,dd,tt,os⟩:=s1;unfold getAttr;refine fH (wpAny_mkText ?_);exact exc_by (s:=⟨hh,gg,dd,tt+1,os⟩) c I1.kIn J (handed_of ru) (λ A R q=>exc_call_val (s:=⟨hh,gg,dd,tt+1,os⟩) c I1.kIn J hfo q) ⟨v,H1,I1.tok _,ru,q⟩
noncomputable def XAtD (H:Hp) (x C:Addr) (fs:List (Str × V)):Prop:=∃ dx,H x=some (XO x C (some dx))/\H dx=some (.xd fs)
end
end L2
namespace L2
open PySem PySem.Spec PyProof.Rows
section
variable {P:Program} {w:World} {K:W.Frag} {mg:Str->Option Value} {base:Heap} {qual:Str} {C:Addr} {st:Stmt} {N ps:List Str} {k:Nat} {sp:Sp}
noncomputable def XiDe (K:W.Frag) (C:Addr) (qual:Str) (st:Stmt) (ps:List Str):Prop:=∃ f fd,FunG K "__init__" qual st f fd/\excFI K C bmV "ValueError.__new__"=some f/\PySem.W.typeIn K (.ref f)=some (.type "function")/\Binds K fd ps []
theorem XiDe.ok (F:XiDe K C qual st ps) (S:FnScope N ps (ah st)) (len:∀ vs H Q E,sp vs H Q E->vs.length=ps.length) (hbody:dv P w K mg base qual st N k sp):XiB P w K mg base C (k+1) ps sp:=
 let ⟨f,fd,a,b,c,d⟩:=F
 ⟨f,fd,b,c,d,a.ok S len (hbody f)⟩
theorem XiDe.fi (F:XiDe K C qual st ps):∃ f,excFI K C bmV "ValueError.__new__"=some f:=by
 obtain ⟨f,_,_,b,_⟩:=F
 exact ⟨f,b⟩
end
end L2
namespace L2
open PySem PySem.Spec PyProof.Rows
open Builtin Builtin.ObjectAttr
section
variable {prog:Program} {w:World} {A:Around} {E:Value->Shared->Prop} {s:Shared} {K:W.Frag} {x C D:Addr} {o:Obj} {name:Str} {v:Value} {m:Str->Option Value} {ns:List Str}
theorem exc_set1 {Q:Unit->Shared->Prop} (X:K.In s.heap) (F:ExI K C) (n:NoAttr K C name) (hx:s.heap.get? x=some o) (hc:o.cls=.ref C) (hnc:∀ c,o.data≠.cls c) (hdn:o.dict=some D) (hD:s.heap.Ns1 D m) (hW:Within m ns) (hl:ns.length<100) (hxD:x≠D)
  (hq:∀ h' tk',h'.get? x=some o->h'.Ns1 D (λ y=>if y=name then some v else m y)->(∀ b ob,b≠D->s.heap.get? b=some ob->h'.get? b=some ob)->Q () { s with heap:=h',toks:=tk' }) :
  wpAny (model prog w) A (setAttr (.ref x) name v) Q E s:=by
 have hno:PySem.W.notCls o=true:=by
  unfold PySem.W.notCls
  split
  ·rename_i c e;exact absurd e (hnc c)
  ·rfl
 obtain ⟨od,esd,epd,hod,_⟩:=id hD;have I:PySem.W.InstAt s.heap x o C (some od):=⟨hx,hc,hno,by rw [hdn];exact hod⟩;refine PySem.W.set_plain X I F.sa (exc_open (s:={ s with toks:=s.toks+1 }) X I F n λ b=>?_);obtain ⟨cd,tl,hcl,hm,hd⟩:=F.cl;obtain ⟨h,g,d,t,os⟩:=s;dsimp only at hx X hq hD hod;unfold storeInOwnDict ownDictForStores instanceDict;refine fH (fS (fH (fH (wpAny_loadPart hx ?_))));rw [hc];refine fH ((PySem.W.looks_clsIn X hcl).at ?_);rw [hd,hdn];simp only [Bool.not_true,g4,if_false];refine fS ?_;show wpAny _ _ (storeInDict D (.str name t) name v) _ _ _;unfold storeInDict newKeyGuard;refine fH (fS (fH (wpAny_nsSet1 hD λ h' hn' hs=>?_)));obtain ⟨oD,esD,epD,hoD,hdD,hcD⟩:=hn'.count (Within.cons name v hW);refine fH (wpAny_lookBehind hoD (by rw [hdD];exact pastItsLine_dict (fO hcD (by rw [gG,iy];omega))) ?_);exact fS (hq h' _ ((hs.2 x hxD).trans hx) hn' λ b ob hb e=>(hs.2 b hb).trans e)
end
section
variable {X:Cx} {o value:Expr} {pos pos':Pos} {ta tv:TE} {f:Str}
noncomputable def XDm (dx:Addr) (fs:List (Str × V)):HO:=.ext λ h=>∃ mA,h.Ns1 dx mA/\∀ g,RelO (fs.lookup g) (mA g)
theorem XDm.ok {P:Program} {w:World} {H:Hp} {h:Heap} {dx:Addr} {fs:List (Str × V)} {mA:Str->Option Value} (n:h.Ns1 dx mA) (r:∀ g,RelO (fs.lookup g) (mA g)):ObjOk P w H h dx (XDm dx fs):=
 ⟨⟨mA,n,r⟩,(let ⟨o,_,_,e,_⟩:=n;⟨o,e⟩),λ _ _ ⟨mB,n',r'⟩ k=>⟨mB,n'.at λ o e=>k o e,r'⟩⟩
theorem rel_cons {fs:List (Str × V)} {f:Str} {y:V} {u:Value} {mA:Str->Option Value} (ry:RelV y u) (rel:∀ g,RelO (fs.lookup g) (mA g)) (g:Str):RelO (List.lookup g ((f,y)::fs)) (if g=f then some u else mA g):=by
 rw [g8];by_cases h:g=f
 ·rw [if_pos h,show (g == f)=true from beq_iff_eq.mpr h];exact ry
 ·rw [if_neg h,show (g == f)=false from gZ.mpr h];exact rel g
noncomputable def sXf0 (K:W.Frag) (ta tv:TE) (f:Str):TS:=λ D σ H=>tv σ H λ y H1=>ta σ H1 λ x H2=>∃ a C,x=.ref a/\H2 a=some (XI a C none)/\ExI K C/\NoAttr K C f/\
 ∀ dx,H2 dx=none->D.nx σ (upd (upd H2 a (XI a C (some dx))) dx (XDm dx [(f,y)]))
theorem ps_xfld0 (ha:PE X o ta) (hv:PE X value tv) (hs:swapsWith value (some (.Attribute o f pos')) pos.line X.env=pure false) (hex:X.ex=[]:=by rfl):PS X (.Assign [.Attribute o f pos'] value pos) (sXf0 X.K ta tv f):=by
 intro pins s σ H D I h;refine plainObj_wpAny_Assign_Attribute (thn (hv pins s σ H _ I h) λ u s1 ⟨y,H1,I1,ry,q⟩=>thn (ha pins s1 σ H1 _ I1 q) λ ov s2 ⟨x,H2,I2,rx,a,C,ex,ea,c,n,q2⟩=>?_) hs;subst ex;obtain rfl:ov=Value.ref a:=rx;obtain ⟨⟨t0,g0⟩,_⟩:=(show ObjOk X.prog X.w H2 s2.heap a (XI a C none) from I2.hok a _ ea);refine exc_set0 I2.kIn c n g0 rfl (by nofun) rfl λ h' tk' g1 ns kp=>?_;have nd:H2 s2.heap.objs.size=none:=I2.hok.fresh (fM _);have ne:s2.heap.objs.size≠a:=λ z=>by rw [z,ea] at nd;cases nd
 have J:=I2.write (t':=tk') (x:=a) (e:=a) (o:=XI a C (some s2.heap.objs.size)) (by rw [ea];exact True.intro) (.inl rfl) kp ⟨_,g1⟩ (XI.ok g1);have J2:=J.track (x:=s2.heap.objs.size) (o:=XDm s2.heap.objs.size [(f,y)]) (by rw [ai ne];exact nd) (I2.off hex (hZ (fM _))) (XDm.ok ns (rel_cons ry λ g=>True.intro));exact ⟨σ,_,J2,q2 _ nd⟩
noncomputable def sXf1 (K:W.Frag) (ta tv:TE) (f:Str):TS:=λ D σ H=>tv σ H λ y H1=>ta σ H1 λ x H2=>∃ a C dx fs,x=.ref a/\H2 a=some (XI a C (some dx))/\H2 dx=some (XDm dx fs)/\a≠dx/\fs.length<=10/\ExI K C/\NoAttr K C f/\D.nx σ (upd H2 dx (.xd ((f,y)::fs)))
theorem ps_xfld1 (ha:PE X o ta) (hv:PE X value tv) (hs:swapsWith value (some (.Attribute o f pos')) pos.line X.env=pure false):PS X (.Assign [.Attribute o f pos'] value pos) (sXf1 X.K ta tv f):=by
 intro pins s σ H D I h;refine plainObj_wpAny_Assign_Attribute (thn (hv pins s σ H _ I h) λ u s1 ⟨y,H1,I1,ry,q⟩=>thn (ha pins s1 σ H1 _ I1 q) λ ov s2 ⟨x,H2,I2,rx,a,C,dx,fs,ex,ea,ed,ne,hl,c,n,q2⟩=>?_) hs;subst ex;obtain rfl:ov=Value.ref a:=rx;obtain ⟨⟨t0,g0⟩,_⟩:=(show ObjOk X.prog X.w H2 s2.heap a (XI a C (some dx)) from I2.hok a _ ea);obtain ⟨⟨mA,nsA,rel⟩,_⟩:=(show ObjOk X.prog X.w H2 s2.heap dx (XDm dx fs) from I2.hok dx _ ed)
 have W:Within mA (fs.map (·.1)):=λ g hg=>by
  have r:=rel g
  cases e:fs.lookup g with
  | none=>
   rw [e] at r
   cases e2:mA g with
   | none=>exact absurd e2 hg
   | some v=>rw [e2] at r;exact r.elim
  | some v=>exact fQ.mpr ⟨(g,v),gO e,rfl⟩
 refine exc_set1 I2.kIn c n g0 rfl (by nofun) rfl nsA W (by rw [fG];omega) ne λ h' tk' g1 ns' kp=>?_;have J:=I2.write (t':=tk') (x:=dx) (e:=dx) (o:=.xd ((f,y)::fs)) (by rw [ed];exact True.intro) (.inl rfl) kp (let ⟨o,_,_,e,_⟩:=ns';⟨o,e⟩) ⟨_,ns',rel_cons ry rel⟩;exact ⟨σ,_,J,q2⟩
end
end L2
namespace L2
open PySem PySem.Spec PyProof.Rows
section
variable {X:Cx}
theorem pe_gi {x:Str} {i:Int} {pos:Pos} (h:∃ tk,X.mg x=some (.int i tk)) (hg:Gl X x:=by rfl) (hd:(x == ("__debug__":Str))=false:=by decide):PE X (.Name x pos) (tC (.int i)):=by
 obtain ⟨tk,h⟩:=h;exact pe_glob hg h ⟨tk,rfl⟩ hd
inductive IrEqN (K:W.Frag) (x:V) (y:V) (H:Hp) (Q:VK):Prop
 | mk (p:_) (q:_) (xs:_) (h1:x=.ref p) (h2:y=.ref q) (h3:SqL K H p xs) (h4:SqL K H q []) (h5:Q (.bl xs.isEmpty) H):IrEqN K x y H Q
inductive IrNeN (K:W.Frag) (x:V) (y:V) (H:Hp) (Q:VK):Prop
 | mk (p:_) (q:_) (xs:_) (h1:x=.ref p) (h2:y=.ref q) (h3:SqL K H p xs) (h4:SqL K H q []) (h5:Q (.bl (!xs.isEmpty)) H):IrNeN K x y H Q
noncomputable def rNeN (K:W.Frag):R2:=λ x y H Q=>IrNeN K x y H Q
theorem op_neN (hu:X.A.units<cLine):OpR X (compareOp .NotEq) (rNeN X.K):=by
 intro pins s σ H x y v u Q I rx ry h;obtain ⟨p,q,xs,rfl,rfl,hp,hq,k⟩:=h
 cases rx
 cases ry;obtain ⟨us,r,pl,hz⟩:=I.list hp;obtain ⟨ws,r',pl',hz'⟩:=I.list hq
 cases r'
 cases r with
 | nil=>exact SeqAt.RcNeAt.lists (e:=λ _=>true) pl.isList pl'.isList rfl hu (λ j h1 _=>absurd h1 (by simp)) X.prog X.w X.xe _ ⟨.bl false,H,I,rfl,k⟩
 | cons=>exact SeqAt.RcNeAt.lists_lengths pl.isList pl'.isList (by simp) hu X.prog X.w X.xe _ ⟨.bl true,H,I,rfl,k⟩
theorem pe_fldK {K:W.Frag} {o:Expr} {f:Str} {pos:Pos} {ta:TE} (hK:X.K=K) (h:PE X o ta) (hb:attributeBase o f X.env (eval o X.env)=eval o X.env):PE X (.Attribute o f pos) (tFld K ta f):=by
 subst hK;exact aX h hb
end
end L2
namespace L2
open PySem PySem.Spec PyProof.Rows
section
variable {κ:Type} [DecidableEq κ]
noncomputable def bu (kvs:List (κ × V)) (k:κ):Option V:=(kvs.find? λ kv=>decide (kv.1=k)).map (·.2)
noncomputable def bW (kvs:List (κ × V)) (k:κ) (v:V):List (κ × V):=
 if (kvs.any λ kv=>decide (kv.1=k))=true then kvs.map (λ kv=>if kv.1=k then (kv.1,v) else kv) else kvs++[(k,v)]
noncomputable def dropK (kvs:List (κ × V)) (k:κ):List (κ × V):=kvs.filter λ kv=>decide (kv.1≠k)
theorem bf {p:κ × V} {r:List (κ × V)} {k:κ} (e:p.1=k):bu (p::r) k=some p.2:=by simp [bu,List.find?_cons,e]
theorem bg {p:κ × V} {r:List (κ × V)} {k:κ} (e:¬ p.1=k):bu (p::r) k=bu r k:=by simp [bu,List.find?_cons,e]
theorem cc (k:κ):∀ kvs:List (κ × V),(kvs.any λ kv=>decide (kv.1=k))=(bu kvs k).isSome
 | []=>rfl
 | p::r=>by
  rw [List.any_cons];by_cases e:p.1=k
  ·simp only [bf e,fV e,Bool.true_or,Option.isSome_some]
  ·rw [bg e,fU e,Bool.false_or];exact cc k r
theorem valV_map (k j:κ) (y:V):∀ kvs:List (κ × V),bu (kvs.map λ kv=>if kv.1=k then (kv.1,y) else kv) j=(bu kvs j).map λ x=>if j=k then y else x
 | []=>rfl
 | p::r=>by
  have ih:=valV_map k j y r;rw [gN];by_cases h:p.1=k
  ·rw [if_pos h];by_cases e:p.1=j
   ·rw [bf (p:=(p.1,y)) e,bf e,gJ,if_pos (e.symm.trans h)]
   ·rw [bg (p:=(p.1,y)) e,bg e,ih]
  ·rw [if_neg h];by_cases e:p.1=j
   ·rw [bf (p:=p) e,bf e,gJ,if_neg (λ z=>h (e.trans z))]
   ·rw [bg (p:=p) e,bg e,ih]
theorem valV_snoc (k j:κ) (y:V):∀ kvs:List (κ × V),bu kvs k=none->bu (kvs++[(k,y)]) j=if j=k then some y else bu kvs j
 | [],_=>by
  by_cases e:k=j
  ·rw [if_pos e.symm];exact bf (p:=(k,y)) e
  ·rw [if_neg (λ z=>e z.symm)];exact bg (p:=(k,y)) e
 | p::r,hn=>by
  rw [List.cons_append];have hk:¬ p.1=k:=λ z=>by rw [bf z] at hn;cases hn
  rw [bg hk] at hn;have ih:=valV_snoc k j y r hn;by_cases e:p.1=j
  ·rw [bf e,bf e,if_neg (λ z=>hk (e.trans z))]
  ·rw [bg e,bg e,ih]
theorem valV_put (kvs:List (κ × V)) (k j:κ) (y:V):bu (bW kvs k y) j=if j=k then some y else bu kvs j:=by
 unfold bW;by_cases a:(kvs.any λ kv=>decide (kv.1=k))=true
 ·rw [if_pos a,valV_map];rw [cc] at a;by_cases e:j=k
  ·obtain ⟨x,hx⟩:=Option.isSome_iff_exists.mp a;rw [if_pos e,e,hx,gJ,if_pos rfl]
  ·rw [if_neg e]
   cases bu kvs j with
   | none=>rfl
   | some x=>rw [gJ,if_neg e]
 ·rw [if_neg a];refine valV_snoc k j y kvs ?_;rw [cc] at a
  cases q:bu kvs k with
  | none=>rfl
  | some x=>rw [q] at a;exact (a rfl).elim
theorem dZ (kvs:List (κ × V)) (k:κ) (v:V):(bW kvs k v).length<=kvs.length+1:=by
 unfold bW
 split
 ·rw [fG];omega
 ·rw [fX,gG,List.length_nil];omega
theorem putK_new {kvs:List (κ × V)} {k:κ} (v:V) (h:bu kvs k=none):bW kvs k v=kvs++[(k,v)]:=by
 unfold bW;rw [cc,h];exact if_neg (by decide)
theorem RelO.isSome_eq {o:Option V} {u:Option Value} (r:RelO o u):o.isSome=u.isSome:=by
 cases o with
 | none=>cases u with
  | none=>rfl
  | some _=>exact (show False from r).elim
 | some _=>cases u with
  | none=>exact (show False from r).elim
  | some _=>rfl
theorem RelO.getD {o:Option V} {u:Option Value} {d:V} {d':Value} (r:RelO o u) (rd:RelV d d'):RelV (o.getD d) (u.getD d'):=by
 cases o with
 | none=>cases u with
  | none=>exact rd
  | some _=>exact (show False from r).elim
 | some _=>cases u with
  | none=>exact (show False from r).elim
  | some _=>exact r
theorem KV.val {kvs:List (κ × V)} {vs:List (κ × Value)} (r:KV kvs vs) (k:κ):RelO (bu kvs k) (valueAt vs k):=by
 unfold KV at r
 induction r with
 | nil=>exact True.intro
 | @cons p q ps qs h t ih=>
  obtain ⟨h1,h2⟩:=h;by_cases e:p.1=k
  ·have e':q.1=k:=h1.symm.trans e;have b:valueAt (q::qs) k=some q.2:=by simp [valueAt,List.find?_cons,e']
   rw [bf e,b];exact h2
  ·have e':¬ q.1=k:=λ z=>e (h1.trans z);have b:valueAt (q::qs) k=valueAt qs k:=by simp [valueAt,List.find?_cons,e']
   rw [bg e,b];exact ih
theorem KV.any {kvs:List (κ × V)} {vs:List (κ × Value)} (r:KV kvs vs) (k:κ):(kvs.any λ kv=>decide (kv.1=k))=vs.any λ kv=>decide (kv.1=k):=by
 unfold KV at r
 induction r with
 | nil=>rfl
 | cons h t ih=>rw [List.any_cons,List.any_cons,ih,h.1]
theorem KV.repl {kvs:List (κ × V)} {vs:List (κ × Value)} (r:KV kvs vs) (k:κ) {y:V} {u:Value} (ry:RelV y u) :
  KV (kvs.map λ kv=>if kv.1=k then (kv.1,y) else kv) (vs.map λ kv=>if kv.1=k then (kv.1,u) else kv):=by
 unfold KV at r ⊢
 induction r with
 | nil=>exact .nil
 | @cons p q ps qs h t ih=>
  rw [gN,gN];refine .cons ?_ ih;obtain ⟨h1,h2⟩:=h;by_cases e:p.1=k
  ·rw [if_pos e,if_pos (h1.symm.trans e)];exact ⟨h1,ry⟩
  ·rw [if_neg e,if_neg (λ z=>e (h1.trans z))];exact ⟨h1,h2⟩
theorem KV.put {kvs:List (κ × V)} {vs:List (κ × Value)} (r:KV kvs vs) (k:κ) {y:V} {u:Value} (ry:RelV y u):KV (bW kvs k y) (stored vs k u):=by
 unfold bW stored;rw [r.any k];by_cases e:(vs.any λ kv=>decide (kv.1=k))=true
 ·rw [if_pos e,if_pos e];exact r.repl k ry
 ·rw [if_neg e,if_neg e];exact Paired.snoc r ⟨rfl,ry⟩
theorem KV.length {kvs:List (κ × V)} {vs:List (κ × Value)} (r:KV kvs vs):kvs.length=vs.length:=Paired.length r
end
theorem kV_is {P:Program} {w:World} {k:Key} {u:Value} (r:RelV (kV k) u):(aQ P w).is k u=true:=by
 cases k with
 | inl i=>obtain ⟨t,e⟩:=(show ∃ t,u=Value.int i t from r);subst e;exact mixKind_int P w i t
 | inr x=>obtain ⟨t,e⟩:=(show ∃ t,u=Value.str x t from r);subst e;exact mixKind_str P w x t
theorem kV_inj {a b:Key} (e:kV a=kV b):a=b:=by
 cases a with
 | inl i=>cases b with
  | inl j=>have e':V.int i=V.int j:=e;injection e' with e';rw [e']
  | inr y=>exact nomatch (show V.int i=V.str y from e)
 | inr x=>cases b with
  | inl j=>exact nomatch (show V.str x=V.int j from e)
  | inr y=>have e':V.str x=V.str y:=e;injection e' with e';rw [e']
theorem items_are {P:Program} {w:World}:∀ {ks:List Key} {us:List Value},Vals (ks.map kV) us->ItemsAre (aQ P w) ks us
 | [],_,r=>by rw [List.map_nil] at r;cases r;exact .nil
 | k::ks,_,r=>by
  rw [gN] at r
  cases r with
  | cons h t=>exact .cons (kV_is h) (items_are t)
noncomputable abbrev KT (H:Hp):List (List Key × V)->List (List Key × Addr × Value)->Prop:=Paired λ p q=>p.1=q.1/\H q.2.1=some (.tup (p.1.map kV))/\RelV p.2 q.2.2
theorem KT.val {H:Hp} {kvs:List (List Key × V)} {xs:List (List Key × Addr × Value)} (r:KT H kvs xs) (k:List Key):RelO (bu kvs k) ((atKey xs k).map (·.2)):=by
 induction r with
 | nil=>exact True.intro
 | @cons p q ps qs h t ih=>
  obtain ⟨h1,_,h2⟩:=h;by_cases e:p.1=k
  ·have e':q.1=k:=h1.symm.trans e;have b:atKey (q::qs) k=some q.2:=by simp [atKey,List.find?_cons,e']
   rw [bf e,b];exact h2
  ·have e':¬ q.1=k:=λ z=>e (h1.trans z);have b:atKey (q::qs) k=atKey qs k:=by simp [atKey,List.find?_cons,e']
   rw [bg e,b];exact ih
theorem KT.repl {H:Hp} {kvs:List (List Key × V)} {xs:List (List Key × Addr × Value)} (r:KT H kvs xs) (k:List Key) {y:V} {u:Value} (ry:RelV y u) :
  KT H (kvs.map λ kv=>if kv.1=k then (kv.1,y) else kv) (xs.map (putAt k u)):=by
 induction r with
 | nil=>exact .nil
 | @cons p q ps qs h t ih=>
  rw [gN,gN];refine .cons ?_ ih;obtain ⟨h1,h2,h3⟩:=h;unfold putAt;by_cases e:p.1=k
  ·rw [if_pos e,if_pos (h1.symm.trans e)];exact ⟨h1,h2,ry⟩
  ·rw [if_neg e,if_neg (λ z=>e (h1.trans z))];exact ⟨h1,h2,h3⟩
theorem KT.put {H:Hp} {kvs:List (List Key × V)} {xs:List (List Key × Addr × Value)} (r:KT H kvs xs) (k:List Key) {b:Addr} {y:V} {u:Value} (hb:H b=some (.tup (k.map kV))) (ry:RelV y u) :
  KT H (bW kvs k y) (storedH xs k b u):=by
 have e:(kvs.any λ kv=>decide (kv.1=k))=(atKey xs k).isSome:=by
  rw [cc,(r.val k).isSome_eq,Option.isSome_map]
 unfold bW storedH;rw [e];by_cases q:(atKey xs k).isSome=true
 ·rw [if_pos q,if_pos q];exact r.repl k ry
 ·rw [if_neg q,if_neg q];exact Paired.snoc r ⟨rfl,hb,ry⟩
theorem KT.keeps {H H':Hp} {kvs:List (List Key × V)} {xs:List (List Key × Addr × Value)} (r:KT H kvs xs) (ht:∀ b ys,H b=some (.tup ys)->H' b=some (.tup ys)):KT H' kvs xs:=
 Paired.mapP r λ _ _ z=>⟨z.1,ht _ _ z.2.1,z.2.2⟩
section
variable {P:Program} {w:World} {H:Hp} {h:Heap} {a:Addr}
theorem rd_of {u:HO} (ok:HOk P w H h) (e:Rd H a u):ObjOk P w H h a u:=e.ok ok
theorem d0 {kvs:List (Key × V)} (ok:HOk P w H h) (e:Rd H a (.dK kvs)):kvs.length<=sizeLine/\(a == sysModules)=false/\∃ vs,KV kvs vs/\h.DictOf (aQ P w) a vs:=
 show ObjOk P w H h a (.dK kvs) from rd_of ok e
theorem dk_of {kvs:List (Key × V)} (ok:HOk P w H h) (e:H a=some (.dK kvs)):kvs.length<=sizeLine/\(a == sysModules)=false/\∃ vs,KV kvs vs/\h.DictOf (aQ P w) a vs:=d0 ok (.inl e)
theorem key_of {ks:List Key} (ok:HOk P w H h) (e:H a=some (.tup (ks.map kV))):(tupleKind (aQ P w)).is h ks a:=by
 obtain ⟨_,its,r,o,h1,h2,n,h3⟩:=(show ObjOk P w H h a (.tup (ks.map kV)) from ok a _ e);exact ⟨o,its.toArray,n,h1,h2,h3,by simpa using items_are r⟩
theorem dt_rd {kvs:List (List Key × V)} (ok:HOk P w H h) (e:Rd H a (.dT kvs)):kvs.length<=sizeLine/\(a == sysModules)=false/\
  ∃ xs,KT H kvs xs/\h.DictOfH (tupleKind (aQ P w)) a xs:=by
 obtain ⟨z,y,xs,r,o,es,ep,h1,h2,h3,h4,h5⟩:=(show ObjOk P w H h a (.dT kvs) from rd_of ok e);refine ⟨z,y,xs,r,o,es,ep,h1,h2,h3,h4,λ x hx=>?_,h5⟩
 have all:∀ {l:List (List Key × V)} {m:List (List Key × Addr × Value)},KT H l m->∀ x∈m,(tupleKind (aQ P w)).is h x.1 x.2.1:=by
  intro l m q
  induction q with
  | nil=>intro x hx;exact nomatch hx
  | @cons p q ps qs hq t ih=>
   intro x hx;rcases gw.mp hx with e | hx
   ·subst e;exact key_of ok (by rw [<- hq.1];exact hq.2.1)
   ·exact ih x hx
 exact all r x hx
theorem dt_of {kvs:List (List Key × V)} (ok:HOk P w H h) (e:H a=some (.dT kvs)):kvs.length<=sizeLine/\(a == sysModules)=false/\
  ∃ xs,KT H kvs xs/\h.DictOfH (tupleKind (aQ P w)) a xs:=dt_rd ok (.inl e)
end
noncomputable def DGet (H:Hp) (a:Addr) (y:V) (r:Option V):Prop:=
 (∃ kvs k,Rd H a (.dK kvs)/\y=kV k/\r=bu kvs k)∨∃ kvs k b,Rd H a (.dT kvs)/\y=.ref b/\H b=some (.tup (k.map kV))/\r=bu kvs k
noncomputable def DPut (H:Hp) (a:Addr) (y v:V) (H':Hp):Prop:=
 (∃ kvs k,H a=some (.dK kvs)/\y=kV k/\kvs.length<sizeLine/\H'=upd H a (.dK (bW kvs k v)))∨
 ∃ kvs k b,H a=some (.dT kvs)/\y=.ref b/\H b=some (.tup (k.map kV))/\kvs.length<sizeLine/\H'=upd H a (.dT (bW kvs k v))
theorem DGet.k {H:Hp} {a:Addr} {kvs:List (Key × V)} {k:Key} (e:H a=some (.dK kvs)):DGet H a (kV k) (bu kvs k):=.inl ⟨kvs,k,.inl e,rfl,rfl⟩
theorem DPut.k {H:Hp} {a:Addr} {kvs:List (Key × V)} {k:Key} {v:V} (e:H a=some (.dK kvs)) (hl:kvs.length<sizeLine):DPut H a (kV k) v (upd H a (.dK (bW kvs k v))):=.inl ⟨kvs,k,e,rfl,hl,rfl⟩
section
variable {X:Cx} {pins:List (Addr × Obj)} {σ:St} {H:Hp} {s:Shared} {a:Addr} {y v:V} {u r:Value} {o:Option V} {A:Around} {E:Value->Shared->Prop}
theorem Inv.big (I:Inv X pins σ H s):sysModules<s.heap.objs.size:=by
 have h:mainGlobals<s.heap.objs.size:=(I.mod.glob.keeps I.bk).lt;exact Nat.lt_trans (by decide) h
theorem d_getItem {Q:Value->Shared->Prop} (hu:A.units+1<cLine) (I:Inv X pins σ H s) (g:DGet H a y (some v)) (ry:RelV y u) (h:∀ w' s',Inv X pins σ H s'->RelV v w'->Q w' s') :
  wpAny (model X.prog X.w) A (getItem (.ref a) u) Q E s:=by
 rcases g with ⟨kvs,k,e,ey,l⟩ | ⟨kvs,k,b,e,ey,eb,l⟩
 ·subst ey;obtain ⟨z,hd,vs,rel,dd⟩:=d0 I.hok e;obtain ⟨w',hw,rw'⟩:=RelO.some_of (v:=v) (o:=valueAt vs k) (by rw [l];exact rel.val k);exact wpAny_getItem_of (kV_is ry) dd.mapOf hw (h w' _ (I.tok _) rw')
 ·subst ey
  cases (show u=Value.ref b from ry);obtain ⟨z,hd,xs,rel,dd⟩:=dt_rd I.hok e;obtain ⟨w',hw,rw'⟩:=RelO.some_of (v:=v) (o:=(atKey xs k).map (·.2)) (by rw [l];exact rel.val k);obtain ⟨p,hp,hp2⟩:=gW.mp hw;refine wpAny_getItem_heap (tupleKind_room_in1 hu) (key_of I.hok eb) dd hp ?_;rw [hp2];exact h w' _ (I.tok _) rw'
theorem d_in {Q:Value->Shared->Prop} (hu:A.units+1<cLine) (I:Inv X pins σ H s) (g:DGet H a y o) (ry:RelV y u) (h:∀ s',Inv X pins σ H s'->Q (.bool o.isSome) s') :
  wpAny (model X.prog X.w) A (compareOp .In u (.ref a)) Q E s:=by
 rcases g with ⟨kvs,k,e,ey,l⟩ | ⟨kvs,k,b,e,ey,eb,l⟩
 ·subst ey;obtain ⟨z,hd,vs,rel,dd⟩:=d0 I.hok e;refine wpAny_in_of (kV_is ry) hd dd.mapOf ?_;rw [<- (rel.val k).isSome_eq,<- l];exact h _ (I.tok _)
 ·subst ey
  cases (show u=Value.ref b from ry);obtain ⟨z,hd,xs,rel,dd⟩:=dt_rd I.hok e;refine wpAny_in_heap (tupleKind_room_in1 hu) (key_of I.hok eb) hd dd ?_;have q:=(rel.val k).isSome_eq;rw [Option.isSome_map] at q;rw [<- q,<- l];exact h _ (I.tok _)
theorem d_notIn {Q:Value->Shared->Prop} (hu:A.units+1<cLine) (I:Inv X pins σ H s) (g:DGet H a y o) (ry:RelV y u) (h:∀ s',Inv X pins σ H s'->Q (.bool (!o.isSome)) s') :
  wpAny (model X.prog X.w) A (compareOp .NotIn u (.ref a)) Q E s:=by
 rcases g with ⟨kvs,k,e,ey,l⟩ | ⟨kvs,k,b,e,ey,eb,l⟩
 ·subst ey;obtain ⟨z,hd,vs,rel,dd⟩:=d0 I.hok e;refine wpAny_notIn_of (kV_is ry) hd dd.mapOf ?_;rw [<- (rel.val k).isSome_eq,<- l];exact h _ (I.tok _)
 ·subst ey
  cases (show u=Value.ref b from ry);obtain ⟨z,hd,xs,rel,dd⟩:=dt_rd I.hok e;refine wpAny_notIn_heap (tupleKind_room_in1 hu) (key_of I.hok eb) hd dd ?_;have q:=(rel.val k).isSome_eq;rw [Option.isSome_map] at q;rw [<- q,<- l];exact h _ (I.tok _)
theorem d_write {h':Heap} {t':Nat} {ob:HO} (I:Inv X pins σ H s) (mu:Mut (H a)) (hs:Heap.SameBut a s.heap h') (he:∃ q,h'.get? a=some q) (new:ObjOk X.prog X.w (upd H a ob) h' a ob) :
  Inv X pins σ (upd H a ob) { s with heap:=h',toks:=t' }:=
 I.write (x:=a) (e:=a) mu (.inl rfl) (λ b q hb z=>(hs.2 b hb).trans z) he new
theorem dk_new {P:Program} {w:World} {H':Hp} {h':Heap} {kvs:List (Key × V)} {vs:List (Key × Value)} (z:kvs.length<=sizeLine) (hd:(a == sysModules)=false) (rel:KV kvs vs) (dd:h'.DictOf (aQ P w) a vs) :
  ObjOk P w H' h' a (.dK kvs):=⟨z,hd,vs,rel,dd⟩
theorem d_setItem {H':Hp} {Q:Unit->Shared->Prop} (hu:A.units+1<cLine) (I:Inv X pins σ H s) (g:DPut H a y v H') (ry:RelV y u) (rv:RelV v r) (h:∀ s',Inv X pins σ H' s'->Q () s') :
  wpAny (model X.prog X.w) A (setItem (.ref a) u r) Q E s:=by
 rcases g with ⟨kvs,k,e,ey,l,eH⟩ | ⟨kvs,k,b,e,ey,eb,l,eH⟩
 ·subst ey eH;obtain ⟨z,hd,vs,rel,dd⟩:=dk_of I.hok e;have hz:vs.length<=sizeLine:=by rw [<- rel.length];exact z
  have hl:(bW kvs k v).length<=sizeLine:=by have:=dZ kvs k v;omega
  refine wpAny_setItem_pairs (hsz:=hz) (kV_is ry) dd λ h' dd' hs=>h _ ?_;have he:∃ q,h'.get? a=some q:=let ⟨q,_,_,hq,_⟩:=dd';⟨q,hq⟩
  exact d_write I (by rw [e];exact True.intro) hs he (dk_new hl hd (rel.put k rv) dd')
 ·subst ey eH
  cases (show u=Value.ref b from ry);obtain ⟨z,hd,xs,rel,dd⟩:=dt_of I.hok e;have hz:xs.length<=sizeLine:=by rw [<- Paired.length rel];exact z
  have hl:(bW kvs k v).length<=sizeLine:=by have:=dZ kvs k v;omega
  refine wpAny_setItem_heap (hsz:=hz) (tupleKind_room_in1 hu) (key_of I.hok eb) dd λ h' dd' hs=>h _ ?_;obtain ⟨q,es,ep,hq,h2,h3,h4,_,h5⟩:=dd';refine d_write I (by rw [e];exact True.intro) hs ⟨q,hq⟩ ⟨hl,hd,_,(rel.put k eb rv).keeps λ c ys ec=>?_,q,es,ep,hq,h2,h3,h4,h5⟩;rw [ai (bS ec e (λ z=>nomatch z))];exact ec
end
section
variable {X:Cx} {pins:List (Addr × Obj)} {σ:St} {H:Hp} {s:Shared} {a:Addr} {kvs:List (Key × V)} {k:Key} {u:Value} {A:Around} {E:Value->Shared->Prop}
theorem d_len {Q:Value->Shared->Prop} (I:Inv X pins σ H s) (e:Rd H a (.dK kvs)) (h:∀ t s',Inv X pins σ H s'->Q (.int kvs.length t) s'):wpAny (model X.prog X.w) A (call (.builtin "len") [.ref a]) Q E s:=by
 obtain ⟨z,hd,vs,rel,dd⟩:=d0 I.hok e;refine call_len_dict hd dd (by rw [<- rel.length];rw [iy] at z;omega) ?_;rw [<- rel.length];exact h _ _ (I.tok _)
end
noncomputable def NoSl (i:Expr):Prop:=∀ ov iv,subscripted i false ov iv=operate [ov,iv] (getItem ov iv)
theorem subD_of {prog:Program} {w:World} {A:Around} {E:Value->Shared->Prop} {s:Shared} {env:Env} {value slice:Expr} {pos:Pos} {T id:String} {Q:Value->Shared->Prop}
  (hl:typeLookup (.type T) "__getitem__"=pure (some (.builtin id))) (hs:NoSl slice)
  (h:wpAny (model prog w) A (eval value env) (λ o s₁=>wpAny (model prog w) A (eval slice env) (λ i s₂=>s₂.TypeIs o T/\wpAny (model prog w) A (getItem o i) Q E s₂) E s₁) E s) :
  wpAny (model prog w) A (eval (.Subscript value slice pos) env) Q E s:=by
 refine Subscript_ (gD h (λ o s₁ h₁=>gD h₁ (λ i s₂ h₂=>?_) λ _ _ x=>x) λ _ _ x=>x);obtain ⟨hT,h₂⟩:=h₂;unfold subscriptTail;refine fH ?_;rw [getitemInPython_of_ne hT.not_modules];refine fH (wpAny_specialOf hT hl ?_)
 have fin:wpAny (model prog w) A (subscripted slice false o i) (λ r s₃=>wpAny (model prog w) A (letTemporaryGo value o r >>= λ _=>pure r) Q E s₃) E s₂:=by
  rw [hs o i];exact wpAny_operating (gD h₂ (λ r s₃ h₃=>fH (wpAny_letTemporaryGo (fS h₃))) λ _ _ x=>x)
 first
  | exact fS (fH fin)
  | exact fH (fS (fH fin))
  | exact fH fin
theorem dict_typeIs {X:Cx} {pins:List (Addr × Obj)} {σ:St} {H:Hp} {s:Shared} {a:Addr} {y:V} {o:Option V} (I:Inv X pins σ H s) (g:DGet H a y o):s.TypeIs (.ref a) "dict":=by
 rcases g with ⟨kvs,k,e,_,_⟩ | ⟨kvs,k,b,e,_,_,_⟩
 ·obtain ⟨_,_,vs,_,dd⟩:=d0 I.hok e;exact dd.typeIs
 ·obtain ⟨_,_,xs,_,dd⟩:=dt_rd I.hok e;exact dd.typeIs
inductive ItDGet (Q:VK) (x:V) (y:V) (H2:Hp):Prop
 | mk (a:_) (v:_) (h1:x=.ref a) (h2:DGet H2 a y (some v)) (h3:Q v H2):ItDGet Q x y H2
noncomputable def tDGet (td ty:TE):TE:=λ σ H Q=>td σ H λ x H1=>ty σ H1 λ y H2=>ItDGet Q x y H2
noncomputable def tDIn (ty td:TE):TE:=λ σ H Q=>ty σ H λ y H1=>td σ H1 λ x H2=>∃ a o,x=.ref a/\DGet H2 a y o/\Q (.bl o.isSome) H2
noncomputable def tDNotIn (ty td:TE):TE:=λ σ H Q=>ty σ H λ y H1=>td σ H1 λ x H2=>∃ a o,x=.ref a/\DGet H2 a y o/\Q (.bl (!o.isSome)) H2
noncomputable def sDPut (td ty tv:TE):TS:=λ D σ H=>tv σ H λ v H1=>td σ H1 λ x H2=>ty σ H2 λ y H3=>∃ a H4,x=.ref a/\DPut H3 a y v H4/\D.nx σ H4
section
variable {X:Cx} {o i e value:Expr} {pos pos' tpos:Pos} {td ty tv:TE}
theorem cL (hu:X.A.units+1<cLine) (ho:PE X o td) (hi:PE X i ty) (hs:NoSl i):PE X (.Subscript o i pos) (tDGet td ty):=by
 intro pins s σ H Q I h;refine subD_of PySem.F.slot_dict_getitem.lookup hs (thn (ho pins s σ H _ I h) λ u s1 ⟨x,H1,I1,rx,q1⟩=>thn (hi pins s1 σ H1 _ I1 q1) λ iv s2 ⟨y,H2,I2,ry,a,v,ex,g,q2⟩=>?_);subst ex;obtain rfl:u=Value.ref a:=rx;exact ⟨dict_typeIs I2 g,d_getItem hu I2 g ry λ w' s3 I3 rw'=>⟨v,H2,I3,rw',q2⟩⟩
theorem pc_din (hu:X.A.units+1<cLine) (hi:PE X i ty) (ho:PE X o td):PC X .In i o (tDIn ty td):=by
 intro pins s σ H Q I h;refine thn (hi pins s σ H _ I h) λ iv s1 ⟨y,H1,I1,ry,q1⟩=>thn (ho pins s1 σ H1 _ I1 q1) λ u s2 ⟨x,H2,I2,rx,a,ov,ex,g,q2⟩=>?_;subst ex;obtain rfl:u=Value.ref a:=rx;exact d_in hu I2 g ry λ s3 I3=>⟨.bl ov.isSome,H2,I3,rfl,q2⟩
theorem c8 (hu:X.A.units+1<cLine) (hi:PE X i ty) (ho:PE X o td):PC X .NotIn i o (tDNotIn ty td):=by
 intro pins s σ H Q I h;refine thn (hi pins s σ H _ I h) λ iv s1 ⟨y,H1,I1,ry,q1⟩=>thn (ho pins s1 σ H1 _ I1 q1) λ u s2 ⟨x,H2,I2,rx,a,ov,ex,g,q2⟩=>?_;subst ex;obtain rfl:u=Value.ref a:=rx;exact d_notIn hu I2 g ry λ s3 I3=>⟨.bl (!ov.isSome),H2,I3,rfl,q2⟩
theorem dl (hu:X.A.units+1<cLine) (ho:PE X o td) (hi:PE X i ty) (hv:PE X value tv) (hs:swapsWith value (some (.Subscript o i pos')) pos.line X.env=pure false) :
  PS X (.Assign [.Subscript o i pos'] value pos) (sDPut td ty tv):=by
 intro pins s σ H D I h;refine wpAny_Assign_Subscript (thn (hv pins s σ H _ I h) λ r s1 ⟨v,H1,I1,rv,q1⟩=>thn (ho pins s1 σ H1 _ I1 q1) λ u s2 ⟨x,H2,I2,rx,q2⟩=>thn (hi pins s2 σ H2 _ I2 q2) λ iv s3 ⟨y,H3,I3,ry,a,H4,ex,g,q3⟩=>?_) hs;subst ex;obtain rfl:u=Value.ref a:=rx;exact d_setItem hu I3 g ry rv λ s4 I4=>⟨σ,H4,I4,q3⟩
end
theorem dk_empty {P:Program} {w:World} {H:Hp} (h:Heap) (hb:sysModules<h.objs.size):ObjOk P w H (h.push { cls:=.type "dict",data:=.dict #[] }) h.objs.size (.dK []):=
 ⟨fY _,gZ.mpr (ib (gF hb)),[],.nil,Heap.DictOf.new h⟩
noncomputable def tDNewK:TE:=λ _ H Q=>∀ p,H p=none->Q (.ref p) (upd H p (.dK []))
section
variable {X:Cx} {pos:Pos}
theorem dW:PE X (.Dict [] [] pos) tDNewK:=λ pins s σ H Q I h=>
 wpAny_Dict_empty ⟨.ref s.heap.objs.size,_,I.laid (a:=s.heap.objs.size) (o:=.dK []) (t':=s.toks) (λ _ _ q=>fJ _ q) (fM _) (dk_empty s.heap I.big),rfl,h _ (I.hok.fresh (fM _))⟩
end
noncomputable def tPairs:List (TE × TE)->St->Hp->(List (V × V)->Hp->Prop)->Prop
 | [],_,H,Q=>Q [] H
 | (tk,tv)::r,σ,H,Q=>tk σ H λ x H1=>tv σ H1 λ y H2=>tPairs r σ H2 λ ps H3=>Q ((x,y)::ps) H3
noncomputable abbrev VV:List (V × V)->List (Value × Value)->Prop:=Paired λ p q=>RelV p.1 q.1/\RelV p.2 q.2
noncomputable def mergeK (kvs more:List (Key × V)):List (Key × V):=more.foldl (λ acc kv=>bW acc kv.1 kv.2) kvs
structure M1 (X:Cx) (o:Expr) (m:Str) (apos:Pos) (e:Expr) (cpos:Pos):Prop where
 base:attributeBase o m X.env (eval o X.env)=eval o X.env
 few:((backTo cpos (starEach [e] X.env)).all (λ x=>!x.1) && (backToKw cpos (keywordEach [] X.env)).all (λ x=>x.1.isSome)
  && decide (([e]:List Expr).length+([]:List Keyword).length+(if ([]:List Keyword).isEmpty then 0 else 1)<30))=true
 line:(apos.endLine == cpos.line)=true
 trees:backTo cpos (starEach [e] X.env)=[(false,eval e X.env)]
structure M2 (X:Cx) (o:Expr) (m:Str) (apos:Pos) (e f:Expr) (cpos:Pos):Prop where
 base:attributeBase o m X.env (eval o X.env)=eval o X.env
 few:((backTo cpos (starEach [e,f] X.env)).all (λ x=>!x.1) && (backToKw cpos (keywordEach [] X.env)).all (λ x=>x.1.isSome)
  && decide (([e,f]:List Expr).length+([]:List Keyword).length+(if ([]:List Keyword).isEmpty then 0 else 1)<30))=true
 line:(apos.endLine == cpos.line)=true
 trees:backTo cpos (starEach [e,f] X.env)=[(false,eval e X.env),(false,eval f X.env)]
noncomputable def IsD (H:Hp) (a:Addr):Prop:=(∃ kvs,Rd H a (.dK kvs))∨∃ kvs,Rd H a (.dT kvs)
theorem isD_at {X:Cx} {pins:List (Addr × Obj)} {σ:St} {H:Hp} {s:Shared} {a:Addr} (I:Inv X pins σ H s) (d:IsD H a) :
  s.TypeIs (.ref a) "dict"/\(∀ b,Value.ref a=.ref b->∃ ob,s.heap.get? b=some ob/\ob.dict=none)/\(a == sysModules)=false:=by
 rcases d with ⟨kvs,e⟩ | ⟨kvs,e⟩
 ·obtain ⟨_,hd,vs,_,dd⟩:=d0 I.hok e;refine ⟨dd.typeIs,λ b q=>?_,hd⟩
  cases q;obtain ⟨ob,_,_,h1,h2,_⟩:=dd;exact ⟨ob,h1,h2.2.1⟩
 ·obtain ⟨_,hd,xs,_,dd⟩:=dt_rd I.hok e;refine ⟨dd.typeIs,λ b q=>?_,hd⟩
  cases q;obtain ⟨ob,_,_,h1,h2,_⟩:=dd;exact ⟨ob,h1,h2.2.1⟩
section
variable {X:Cx} {pins:List (Addr × Obj)} {σ:St} {H:Hp} {s:Shared} {a:Addr} {y d:V} {u r:Value} {o:Option V} {A:Around} {E:Value->Shared->Prop}
theorem d_get2 {Q:Value->Shared->Prop} (hu:A.units+1<cLine) (I:Inv X pins σ H s) (g:DGet H a y o) (ry:RelV y u) (rd:RelV d r) (h:∀ w' s',Inv X pins σ H s'->RelV (o.getD d) w'->Q w' s') :
  wpAny (model X.prog X.w) A (call (.builtin "dict.get") [.ref a,u,r]) Q E s:=by
 rcases g with ⟨kvs,k,e,ey,l⟩ | ⟨kvs,k,b,e,ey,eb,l⟩
 ·subst ey;obtain ⟨z,hd,vs,rel,dd⟩:=d0 I.hok e;refine call_meetsIn PySem.F.slot_dict_get dd.typeIs PySem.F.entry_dict_get (PySem.F.args_dict_get_3 _ _ _) (meets_dict_get_default (aQ X.prog X.w) a (kV_is ry) hd r) ⟨_,dd.mapOf,h _ _ (I.tok _) ?_⟩;rw [l];exact (rel.val k).getD rd
 ·subst ey
  cases (show u=Value.ref b from ry);obtain ⟨z,hd,xs,rel,dd⟩:=dt_rd I.hok e;refine call_meetsIn PySem.F.slot_dict_get dd.typeIs PySem.F.entry_dict_get (PySem.F.args_dict_get_3 _ _ _) (meetsH_dict_get_default (tupleKind (aQ X.prog X.w)) a b hd r) ⟨tupleKind_room_in1 hu,k,xs,key_of I.hok eb,dd,h _ _ (I.tok _) ?_⟩;rw [l];exact (rel.val k).getD rd
end
noncomputable def tDGet2 (td ty tx:TE):TE:=λ σ H Q=>td σ H λ x H1=>∃ a,x=.ref a/\IsD H1 a/\ty σ H1 λ y H2=>tx σ H2 λ z H3=>∃ o,DGet H3 a y o/\Q (o.getD z) H3
section
variable {X:Cx} {o e f:Expr} {apos cpos:Pos} {td ty tx:TE}
theorem pe_dget2 (hu:X.A.units+1<cLine) (ho:PE X o td) (he:PE X e ty) (hf:PE X f tx) (m:M2 X o "get" apos e f cpos):PE X (.Call (.Attribute o "get" apos) [e,f] [] cpos) (tDGet2 td ty tx):=by
 intro pins s σ H Q I h;refine wpAny_Call_method m.base m.few m.line PySem.F.plainAttrs_dict PySem.F.slot_dict_get PySem.F.type_dict_get (thn (ho pins s σ H _ I h) λ u s1 ⟨x,H1,I1,rx,a,ex,d,q1⟩=>?_);subst ex;obtain rfl:u=Value.ref a:=rx;obtain ⟨t1,t2,_⟩:=isD_at I1 d;refine ⟨t1,t2,?_⟩;rw [m.trees]
 refine Calls.callWith_builtin rfl (Calls.evalArgs_plain (Calls.spliced_cons (thn (he pins s1 σ H1 _ I1 q1) λ iv s2 ⟨y,H2,I2,ry,q2⟩=>
  Calls.spliced_cons (thn (hf pins s2 σ H2 _ I2 q2) λ fv s3 ⟨z,H3,I3,rz,ov,g,q3⟩=>Calls.spliced_nil ?_))))
 exact d_get2 hu I3 g ry rz λ w' s4 I4 rw'=>⟨_,H3,I4,rw',q3⟩
end
section
variable {X:Cx} {pins:List (Addr × Obj)} {σ:St} {H:Hp} {s:Shared} {a:Addr} {kvs:List (Key × V)} {A:Around} {E:Value->Shared->Prop}
end
section
variable {X:Cx} {pins:List (Addr × Obj)} {σ:St} {H:Hp} {s:Shared} {a:Addr} {y:V} {u:Value} {A:Around} {E:Value->Shared->Prop}
end
end L2
namespace L2
open PySem PySem.Spec PyProof.Rows
section
variable {X:Cx}
theorem call_lenD:d9 X (.builtin "len") (λ xs H Q=>∃ a kvs,xs=[V.ref a]/\H a=some (.dK kvs)/\Q (.int kvs.length) H):=by
 intro pins s σ H xs us Q I r h;obtain ⟨a,kvs,rfl,ha,q⟩:=h;obtain ⟨u,rfl,ru⟩:=vals1 r
 cases ru;exact d_len I (.inl ha) λ t s' I'=>⟨.int kvs.length,H,I',⟨t,rfl⟩,q⟩
end
end L2
namespace L2
open PySem PySem.Spec PyProof.Rows
section
variable {κ:Type} [DecidableEq κ]
theorem valV_not {kvs:List (κ × V)} {k:κ} (h:bu kvs k=none):¬ k∈kvs.map (·.1):=by
 intro m;obtain ⟨p,hp,e⟩:=fQ.mp m;have q:(kvs.any λ kv=>decide (kv.1=k))=true:=List.any_eq_true.mpr ⟨p,hp,fV e⟩;rw [cc,h] at q;exact absurd q (by simp)
theorem valV_in {kvs:List (κ × V)} {k:κ} {v:V} (h:bu kvs k=some v):k∈kvs.map (·.1):=by
 have q:(kvs.any λ kv=>decide (kv.1=k))=true:=by
  rw [cc,h]
  all_goals rfl
 obtain ⟨p,hp,e⟩:=List.any_eq_true.mp q;exact fQ.mpr ⟨p,hp,ie e⟩
theorem dropK_pos {p:κ × V} {r:List (κ × V)} {k:κ} (e:p.1=k):dropK (p::r) k=dropK r k:=by
 unfold dropK;rw [List.filter_cons,if_neg (by simp [e])]
theorem dropK_neg {p:κ × V} {r:List (κ × V)} {k:κ} (e:¬ p.1=k):dropK (p::r) k=p::dropK r k:=by
 unfold dropK;rw [List.filter_cons,if_pos (by simp [e])]
theorem dropK_no:∀ {kvs:List (κ × V)} {k:κ},¬ k∈kvs.map (·.1)->dropK kvs k=kvs
 | [],_,_=>rfl
 | p::r,k,h=>by
  have h':¬ k∈r.map (·.1):=λ m=>by
   obtain ⟨q,hq,e⟩:=fQ.mp m;exact h (fQ.mpr ⟨q,gw.mpr (Or.inr hq),e⟩)
  rw [dropK_neg λ e=>h (fQ.mpr ⟨p,gw.mpr (Or.inl rfl),e⟩),dropK_no h']
theorem dropK_mem {kvs:List (κ × V)} {k:κ} {p:κ × V} (h:p∈dropK kvs k):p∈kvs:=(List.mem_filter.mp h).1
end
end L2
namespace L2
open PySem PySem.Spec PyProof.Rows
section
variable {X:Cx}
noncomputable def PTs (X:Cx) (ifs:List Expr) (t:TT):Prop:=
 ∀ (pins:List (Addr × Obj)) (s:Shared) (σ:St) (H:Hp) (Q:Bool->Hp->Prop),Inv X pins σ H s->t σ H Q->
  wpAny (model X.prog X.w) X.A (forIn ifs true λ c r=>if r=true then do let ok <- isTrue c X.env (eval c X.env);pure (ForInStep.yield ok) else pure (ForInStep.yield r)) (TP X pins σ Q) X.xe s
noncomputable def tYes:TT:=λ _ H Q=>Q true H
theorem bH:PTs X [] tYes:=λ pins s σ H Q I h=>wpAny_tests_nil ⟨H,I,h⟩
theorem pts_one {c:Expr} {t:TT} (h:PT X c t):PTs X [c] t:=λ pins s σ H Q I q=>wpAny_tests_one (h pins s σ H Q I q)
noncomputable def ClSub (X:Cx):List (Str × Addr)->Prop
 | []=>True
 | p::r=>X.env.cells.lookup p.1=some p.2/\ClSub X r
theorem ClSub.at:∀ {cl:List (Str × Addr)},ClSub X cl->∀ y c,cl.lookup y=some c->X.env.cells.lookup y=some c
 | [],_,y,c,e=>by simp at e
 | (z,d)::r,h,y,c,e=>by
  by_cases q:y=z
  ·subst q;simp at e;subst e;exact h.1
  ·rw [g8,gZ.mpr q] at e;exact ClSub.at h.2 y c e
theorem lookup_has {cl:List (Str × Addr)} {y:Str}:y∈cl.map (·.1)->∃ c,cl.lookup y=some c:=by
 induction cl with
 | nil=>intro h;simp at h
 | cons p r ih=>
  intro h;by_cases q:y=p.1
  ·subst q;exact ⟨p.2,by cases p;simp⟩
  ·obtain ⟨c,e⟩:=ih (by
    rcases gw.mp h with z | z
    ·exact absurd z q
    ·exact z)
   exact ⟨c,by rw [g8,gZ.mpr q];exact e⟩
theorem eK {scope:Scope} {env:Env} {z:Str} {k:NameKind} (h:(z,k)∈(relabel scope env).names) (hk:k=.cell∨k=.free):(z,NameKind.cell)∈scope.names∨(z,NameKind.free)∈scope.names:=by
 unfold relabel at h;obtain ⟨⟨n,k'⟩,hm,e⟩:=fQ.mp h;dsimp only at e
 split at e
 ·rename_i c
  cases e
  have:k'=.free:=by
   have:=(Bool.and_eq_true_iff.mp (Bool.and_eq_true_iff.mp c).1).1
   simpa using this
  subst this;exact .inr hm
 ·cases e;rcases hk with rfl | rfl
  ·exact .inl hm
  ·exact .inr hm
theorem Clos.many {scope:Scope} {cl:List (Str × Addr)} {ys:List Str} (h:closureFor scope X.env=pure cl) (hs:ClSub X cl) (hy:cl.map (·.1)=ys)
  (hr:∀ p∈scope.names,(p.2=.cell∨p.2=.free)->p.1∈ys):Clos X scope cl:=by
 refine ⟨h,λ y c e=>hs.at y c e,λ y hz=>lookup_has ?_⟩;rw [hy];rcases hz with q | q
 ·rcases eK (gO q) (.inl rfl) with m | m
  ·exact hr _ m (.inl rfl)
  ·exact hr _ m (.inr rfl)
 ·rcases eK (gO q) (.inr rfl) with m | m
  ·exact hr _ m (.inl rfl)
  ·exact hr _ m (.inr rfl)
noncomputable def RdAll (X:Cx) (scope:Scope):List Str->List Nat->Prop
 | [],[]=>True
 | y::ys,j::js=>(X.N[j]?=some y/\X.env.scope.names.lookup y=some .cell/\(relabel scope X.env).names.lookup y=some .cell)/\RdAll X scope ys js
 | _,_=>False
theorem RdAll.len {scope:Scope}:∀ {ys:List Str} {js:List Nat},RdAll X scope ys js->js.length=ys.length
 | [],[],_=>rfl
 | y::ys,j::js,h=>by rw [gG,gG,RdAll.len h.2]
theorem RdAll.at {scope:Scope}:∀ {ys:List Str} {js:List Nat},RdAll X scope ys js->∀ (i:Nat) (y:Str) (j:Nat),ys[i]?=some y->js[i]?=some j->X.N[j]?=some y/\X.env.scope.names.lookup y=some .cell/\(relabel scope X.env).names.lookup y=some .cell
 | [],[],_,i,y,j,e,_=>by simp at e
 | y'::ys,j'::js,h,0,y,j,e1,e2=>by
  simp at e1 e2;subst e1 e2;exact h.1
 | y'::ys,j'::js,h,i+1,y,j,e1,e2=>RdAll.at h.2 i y j (by simpa using e1) (by simpa using e2)
theorem Reads.many {scope:Scope} {ys:List Str} {js:List Nat} (h:RdAll X scope ys js):Reads X scope ys (λ σ=>js.map λ j=>σ.getD j Option.none):=by
 refine λ σ=>⟨by rw [fG,h.len],λ i y v e1 e2=>?_⟩;rw [fN] at e2
 cases q:js[i]? with
 | none=>rw [q] at e2;cases e2
 | some j=>
  rw [q] at e2;obtain ⟨h1,h2,h3⟩:=h.at i y j e1 q;refine ⟨j,h1,?_,h2,h3⟩;have e3:σ.getD j Option.none=some v:=f9 e2;rw [fP] at e3
  cases z:σ[j]? with
  | none=>rw [z] at e3;cases e3
  | some o=>rw [z] at e3;exact gK some e3
noncomputable def tCompG (k:Nat) (wi:TI) (g:TG) (tc:TT) (te:TE) (sel:St->St):TE:=λ σ H Q=>wi σ H λ J H1=>∀ l,H1 l=none->∃ W:Nat->Nat->Hp->Prop,(∃ m,W 0 m (upd H1 l (.lst [])))/\∀ i m H,W i m H->
 (J.stop i H/\Q (.ref l) H)∨(J.go i H/\∀ x H',J.yld i H x H'->∀ zs:St,zs.length=k->g x (zs++sel σ) H' λ σ2 H2=>(∃ zs':St,zs'.length=k/\σ2=zs'++sel σ)/\tc σ2 H2 λ b H3=>if b=true then te σ2 H3 λ y H4=>∃ ys,H4 l=some (.lst ys)/\ys.length<sizeLine/\∃ m',m'<m/\W (i+1) m' (upd H4 l (.lst (ys++[y]))) else ∃ m',m'<m/\W (i+1) m' H3)
theorem dJ {prog:Program} {w:World} {A:Around} {R:Result->Shared->Prop} {s:Shared} {elt target iter:Expr} {ifs:List Expr} {scope:Scope} {pos:Pos} {it acc:Value} {env:Env} (I:Nat->Shared->Prop)
  (turn:∀ n s,I n s->wpAny (model prog w) A (pyNext it) (λ r s₁=>match r with
   | none=>R (.ok .next) s₁
   | some v=>wpAny (model prog w) A (letOwnedTupleGo target it v) (λ _ s₁'=>wpAny (model prog w) A (assign target env v) (λ _ s₂=>
     wpAny (model prog w) A (forIn ifs true λ c r=>if r=true then do let ok <- isTrue c env (eval c env);pure (ForInStep.yield ok) else pure (ForInStep.yield r)) (λ ok s₃=>if ok=true then wpAny (model prog w) A (eval elt env) (λ x s₄=>
      wpAny (model prog w) A (call (.builtin "list.append") [acc,x]) (λ _ s₅=>∃ m,m<n/\I m s₅) (λ _ _=>False) s₄) (λ _ _=>False) s₃ else ∃ m,m<n/\I m s₃) (λ _ _=>False) s₂) (λ _ _=>False) s₁') (λ _ _=>False) s₁) (λ _ _=>False) s)
  (n:Nat) (h:I n s) :
  codeAny (model prog w) A (.compLoop (.ListComp elt [⟨target,iter,ifs,0⟩] scope pos) 0 it acc env) R s:=by
 refine codeAny_loop rfl I (λ n s hI=>?_) n h;show wpAny _ _ ((compTurn (.ListComp elt [⟨target,iter,ifs,0⟩] scope pos) 0 it acc env).onRaise (λ x=>do noteFrame x env;theTreesLotGoes x)) _ _ s;refine wpAny_noted ?_;rw [compTurn_list];refine fH (ir (fH (gD (turn n s hI) (λ r s₁ h₁=>?_) λ _ _ h'=>h'.elim)))
 cases r with
 | none=>exact fS h₁
 | some v=>
  refine fH (gD h₁ (λ _ s₁' h₁'=>?_) λ _ _ h'=>h'.elim);refine fH (gD h₁' (λ _ s₂ h₂=>fH (gD h₂ (λ ok s₃ h₃=>?_) λ _ _ h'=>h'.elim)) λ _ _ h'=>h'.elim)
  cases ok with
  | false=>exact fS ⟨rfl,h₃⟩
  | true=>exact fH (fH (gD h₃ (λ x s₄ h₄=>fH (gD h₄ (λ _ s₅ h₅=>fS (fS ⟨rfl,h₅⟩)) λ _ _ h'=>h'.elim)) λ _ _ h'=>h'.elim))
theorem comp_blockG {elt iter tg:Expr} {ifs:List Expr} {xs:List Str} {pos:Pos} {scope:Scope} {cl:List (Str × Addr)} {rest:List Str} {sel:St->St} {g:TG} {tc:TT} {te:TE} {pins:List (Addr × Obj)} {σ:St} {H:Hp} {s:Shared} {Q:VK}
  {it:Addr} {fp:List Addr} {tn:Nat->Heap->Prop} {J:It} {RR:Value->Addr->Result->Shared->Prop} {E:Value->Shared->Prop}
  (hcalm:X.calm=true) (hkind:scope.kind=.function) (hcell:∀ z∈scope.names,z.2≠.cell) (hc:Clos X scope cl) (hr:Reads X scope rest sel)
  (hg:∀ (C:Addr) (s:Shared) (H:Hp),PG (bw X pins (xs++rest) scope cl C fp s H) tg g) (ht:∀ (C:Addr) (s:Shared) (H:Hp),PTs (bw X pins (xs++rest) scope cl C fp s H) ifs tc)
  (he:∀ (C:Addr) (s:Shared) (H:Hp),PE (bw X pins (xs++rest) scope cl C fp s H) elt te)
  (I:Inv X pins σ H s) (T:Turn X.prog X.w X.K tg J fp it tn) (t0:tn 0 s.heap) (hf:∀ b∈fp,FpOk X pins H b)
  (h:∀ l,H l=none->∃ W:Nat->Nat->Hp->Prop,(∃ m,W 0 m (upd H l (.lst [])))/\∀ i m H,W i m H->
   (J.stop i H/\Q (.ref l) H)∨(J.go i H/\∀ x H',J.yld i H x H'->∀ zs:St,zs.length=xs.length->g x (zs++sel σ) H' λ σ2 H2=>(∃ zs':St,zs'.length=xs.length/\σ2=zs'++sel σ)/\tc σ2 H2 λ b H3=>if b=true then te σ2 H3 λ y H4=>∃ ys,H4 l=some (.lst ys)/\ys.length<sizeLine/\∃ m',m'<m/\W (i+1) m' (upd H4 l (.lst (ys++[y]))) else ∃ m',m'<m/\W (i+1) m' H3))
  (hRR:∀ (D C:Addr) (H':Hp) (s':Shared),Inv X pins σ H' s'->FpOk X pins H' C->(∃ m,s'.heap.Ns C m)->Q (.ref D) H'->RR (.ref D) C (.ok .next) s') :
  wpAny (model X.prog X.w) X.A (newList []) (λ acc s₃=>wpAny (model X.prog X.w) X.A (newFunctionEnv scope X.env.globals cl [] X.env.qual none .none (some X.env)) (λ cenv s₄=>
   codeAny (model X.prog X.w) X.A (.compStart (.ListComp elt [⟨tg,iter,ifs,0⟩] scope pos) 0 (.ref it) acc { cenv with scope:=relabel scope X.env }) (RR acc cenv.locals) s₄) E s₃) E s:=by
 have hD:H s.heap.objs.size=none:=I.hok.fresh (fM _);obtain ⟨W,⟨m0,w0⟩,turn⟩:=h _ hD;refine wpAny_newObj_type ?_
 have I3:Inv X pins σ (upd H s.heap.objs.size (.lst [])) { s with heap:=s.heap.push { cls:=.type "list",dict:=none,data:=.seq ([]:List Value).toArray } }:=
  I.laid (t':=s.toks) (λ b u e=>fJ _ e) (fM _) ⟨fY _,[],0,.nil,gm _ rfl⟩
 generalize hs3:({ s with heap:=s.heap.push { cls:=.type "list",dict:=none,data:=.seq ([]:List Value).toArray } }:Shared)=s3 at I3 ⊢;have old3:∀ b o,s.heap.get? b=some o->s3.heap.get? b=some o:=λ b o e=>by rw [<- hs3];exact fJ _ e
 refine wpAny_newFunctionEnv hcell (by intro y hy;simp at hy) (λ h1 hns1 hsb1=>?_) hkind;have old4:∀ b o,s3.heap.get? b=some o->h1.get? b=some o:=λ b o e=>hsb1.extBut b o (gF (fT e)) (fJ _ e)
 have fD:∀ b∈fp,b≠s.heap.objs.size:=λ b hb z=>by
  obtain ⟨o,e,_⟩:=T.obj 0 _ t0 b hb;exact absurd (fT e) (by rw [z];exact gY _)
 have hf3:∀ b∈fp,FpOk X pins (upd H s.heap.objs.size (.lst [])) b:=λ b hb=>⟨by rw [ai (fD b hb)];exact (hf b hb).1,(hf b hb).2⟩
 have fC:∀ b∈fp,b≠s3.heap.objs.size:=λ b hb z=>by
  obtain ⟨o,e,_⟩:=T.obj 0 _ t0 b hb;exact absurd (fT (old3 b o e)) (by rw [z];exact gY _)
 have cC:∀ y c,cl.lookup y=some c->c≠s3.heap.objs.size:=λ y c e z=>by
  obtain ⟨v,q⟩:=I3.cell y c (hc.sub y c e);exact absurd q.lt (by rw [z];exact gY _)
 have fstk:∀ b∈fp,b ∉ frs X.stack:=λ b hb z=>(gw.mp (I3.stkSub b z)).elim (hf b hb).2.1 (hf b hb).2.2.1
 have ok:(bw X pins (xs++rest) scope cl s3.heap.objs.size fp s3 (upd H s.heap.objs.size (.lst []))).Ok:=by
  refine ⟨I.ok.mod,hkind,I.ok.glob,I.ok.blt,fM _,λ y z c e1 e2=>I.ok.inj y z c (hc.sub y c e1) (hc.sub z c e2),λ y hy=>hc.has y hy,λ y c e=>(nomatch e),I.ok.hd,I.ok.frames,.inl rfl,λ b hb=>⟨fC b hb,λ y c e=>(hf b hb).2.2.2.2.1 y c (hc.sub y c e)⟩,
   I3.bs,fO I.ok.bsz I3.sz,λ b o e hb=>?_,fstk,I3.stack,I3.stkFree⟩
  rcases (hf b hb).2.2.2.1 with z | z
  ·exact I.ok.noex b o e z
  ·exact absurd (gi (fT e) I.ok.bsz) (Nat.not_lt.mpr z)
 have I4:Inv (bw X pins (xs++rest) scope cl s3.heap.objs.size fp s3 (upd H s.heap.objs.size (.lst []))) [] (xs.map (λ _=>none)++sel σ) (upd H s.heap.objs.size (.lst [])) { s3 with heap:=h1,toks:=s3.toks+([]:List (Str × Value)).length }:=by
  refine ⟨ok,rfl,I3.bare,Un.kept old4,⟨_,hns1,λ i y v e1 e2 e3=>?_⟩,λ y c e=>?_,I3.hok.fresh (fM _),λ y c e=>I3.freeC y c (hc.sub y c e),λ p hp=>?_,I3.hok.kept old4,?_⟩
  ·have hge:xs.length<=i:=by
    apply Classical.byContradiction
    intro hlt;rw [gQ (by rw [fG];omega),fN] at e2
    cases q:xs[i]? with
    | none=>rw [q] at e2;cases e2
    | some z=>rw [q] at e2;cases e2
   have e1':rest[i-xs.length]?=some y:=by
    have e1:(xs++rest)[i]?=some y:=e1;rw [gE hge] at e1;exact e1
   have e2':(sel σ)[i-xs.length]?=some (some v):=by
    rw [gE (by rw [fG];exact hge),fG] at e2;exact e2
   obtain ⟨j,q1,q2,q3,q4⟩:=(hr σ).2 _ y v e1' e2';obtain ⟨m,hn,hl⟩:=I3.loc;obtain ⟨u,r,l⟩:=hl j y v q1 q2 (.inr (.inl q3));refine ⟨u,r,.inr ⟨.inl q4,?_⟩⟩;obtain ⟨c,ec⟩:=hc.has y (.inl q4);refine ⟨c,ec,?_⟩;rcases l with ⟨k,_⟩ | ⟨_,c',e',z⟩
   ·have k':X.env.scope.names.lookup y=some .local:=k;rw [q3] at k';cases k'
   ·rw [hc.sub y c ec] at e'
    cases e';obtain ⟨o,ho,hd⟩:=z;exact ⟨o,old4 c o ho,hd⟩
  ·obtain ⟨v,o,ho,hd⟩:=I3.cell y c (hc.sub y c e);exact ⟨v,o,old4 c o ho,hd⟩
  ·have hp':p∈X.pn++pins:=by simpa [bw] using hp
   obtain ⟨e,n,ne,nf,d⟩:=I3.pin p hp';exact ⟨old4 _ _ e,n,gF (fT e),λ z=>(gw.mp (I3.stkSub _ z)).elim ne nf,d⟩
  ·show (xs.map (λ _=>none)++sel σ).length=(xs++rest).length;rw [fX,fX,fG,(hr σ).1]
 have stat:∀ {H':Hp},(∀ b∈fp,H' b=none)->∀ b∈fp,FpOk (bw X pins (xs++rest) scope cl s3.heap.objs.size fp s3 (upd H s.heap.objs.size (.lst []))) [] H' b:=λ hn b hb=>
  ⟨hn b hb,fC b hb,fstk b hb,.inl hb,λ y c e=>(hf b hb).2.2.2.2.1 y c (hc.sub y c e),λ p hp=>(hf b hb).2.2.2.2.2 p (by simpa [bw] using hp)⟩
 have t4:tn 0 h1:=T.keep _ _ _ t0 λ b hb o e=>old4 b o (old3 b o e)
 have loop:∀ s4:Shared,s4 = { s3 with heap:=h1,toks:=s3.toks+([]:List (Str × Value)).length }->
   codeAny (model X.prog X.w) X.A (.compLoop (.ListComp elt [⟨tg,iter,ifs,0⟩] scope pos) 0 (.ref it) (.ref s.heap.objs.size) (compEnvC scope cl s3.heap.objs.size X.env)) (RR (.ref s.heap.objs.size) s3.heap.objs.size) s4:=by
  rintro s4 rfl
  refine dJ (λ n s'=>∃ i zs H',zs.length=xs.length/\Inv (bw X pins (xs++rest) scope cl s3.heap.objs.size fp s3 (upd H s.heap.objs.size (.lst []))) [] (zs++sel σ) H' s'/\tn i s'.heap/\(∀ b∈fp,H' b=none)/\W i n H') ?_ m0
   ⟨0,_,_,fG _,I4,t4,λ b hb=>(hf3 b hb).1,w0⟩
  rintro n s5 ⟨i,zs,H5,hzs,I5,t5,f5,w5⟩;rcases turn i n H5 w5 with ⟨stop,qn⟩ | ⟨go,step⟩
  ·refine thn (T.done (bw X pins (xs++rest) scope cl s3.heap.objs.size fp s3 (upd H s.heap.objs.size (.lst []))) rfl rfl rfl hcalm i [] s5 _ H5 _ I5 (stat f5) t5 stop) λ r s6 ⟨er,I6⟩=>?_;subst er;have J6:Inv X pins σ H5 s6:=I3.call' (ch:=fp) I6.os I6.base I6.hok I6.bare λ b hb=>⟨(hf b hb).2.2.2.1,(hf b hb).2.1,(hf b hb).2.2.2.2.1,(hf b hb).2.2.2.2.2⟩;exact hRR _ _ H5 s6 J6 (I3.fpOk (fM _) I6.free) (let ⟨m,hn,_⟩:=I6.loc;⟨m,hn⟩) qn
  ·refine thn (T.item (bw X pins (xs++rest) scope cl s3.heap.objs.size fp s3 (upd H s.heap.objs.size (.lst []))) rfl rfl rfl hcalm i [] s5 _ H5 _ I5 (stat f5) t5 go) λ r s6 ⟨u,er,h6⟩=>?_;subst er;refine thn h6 λ _ s7 ⟨y,H7,I7,r7,y7,t7,f7⟩=>?_;have I7':=I7.pinned (stat f7) (T.obj _ _ t7);refine thn (hg _ _ _ _ s7 _ H7 y u _ I7' r7 (step y H7 y7 zs hzs)) λ _ s8 ⟨σ8,H8,I8,⟨zs',hz',e8⟩,q8⟩=>?_;subst e8;refine thn (ht _ _ _ _ s8 _ H8 _ I8 q8) λ b s9 ⟨H9,I9,q9⟩=>?_
   cases b with
   | false=>
    rw [if_neg fW] at q9 ⊢;obtain ⟨m',hm,w9⟩:=q9;refine ⟨m',hm,i+1,zs',_,hz',I9.unpinned,T.keep _ _ _ t7 λ b hb o e=>(I9.pin (b,o) (gq _ (gq _ (b7 hb e)))).1,λ b hb=>?_,w9⟩;obtain ⟨o,e,d⟩:=T.obj _ _ t7 b hb;exact (I9.pin (b,o) (gq _ (gq _ (b7 hb e)))).2.1
   | true=>
    rw [if_pos rfl] at q9 ⊢;refine thn (he _ _ _ _ s9 _ H9 _ I9 q9) λ z s9 ⟨yv,H9,I9,r9,ys,hl,hz,m',hm,w9⟩=>?_
    refine thn (et (X:=bw X pins (xs++rest) scope cl s3.heap.objs.size fp s3 (upd H s.heap.objs.size (.lst []))) _ s9 _ H9 (.ref s.heap.objs.size) [yv] (.ref s.heap.objs.size) [z]
     (λ v H'=>H'=upd H9 s.heap.objs.size (.lst (ys++[yv]))) I9 rfl (.cons r9 .nil) ⟨_,ys,yv,rfl,rfl,hl,hz,rfl⟩) λ _ s10 ⟨v10,H10,I10,_,e10⟩=>?_
    subst e10;refine ⟨m',hm,i+1,zs',_,hz',I10.unpinned,T.keep _ _ _ t7 λ b hb o e=>(I10.pin (b,o) (gq _ (gq _ (b7 hb e)))).1,λ b hb=>?_,w9⟩;obtain ⟨o,e,d⟩:=T.obj _ _ t7 b hb;exact (I10.pin (b,o) (gq _ (gq _ (b7 hb e)))).2.1
 exact codeAny_compStart_list (loop _ rfl) (T.self _ 0 _ _ _ t4 (loop _ rfl))
theorem c7 {elt iter tg:Expr} {ifs:List Expr} {xs:List Str} {pos:Pos} {scope:Scope} {cl:List (Str × Addr)} {rest:List Str} {sel:St->St} {g:TG} {tc:TT} {te:TE} {wi:TI}
  (hcalm:X.calm=true) (hi:PI X tg iter wi) (hg:∀ (pins:List (Addr × Obj)) (fp:List Addr) (C:Addr) (s:Shared) (H:Hp),PG (bw X pins (xs++rest) scope cl C fp s H) tg g) (ht:∀ (pins:List (Addr × Obj)) (fp:List Addr) (C:Addr) (s:Shared) (H:Hp),PTs (bw X pins (xs++rest) scope cl C fp s H) ifs tc)
  (he:∀ (pins:List (Addr × Obj)) (fp:List Addr) (C:Addr) (s:Shared) (H:Hp),PE (bw X pins (xs++rest) scope cl C fp s H) elt te)
  (hc:Clos X scope cl) (hr:Reads X scope rest sel) (hkind:scope.kind=.function:=by rfl) (hcell:∀ z∈scope.names,z.2≠.cell:=by decide +kernel) (hnames:∀ z∈scope.names,z.2=.local->scope.names.lookup z.1=some .local:=by decide +kernel)
  (hs:∀ x,foldedSetIterable iter X.env x=pure x:=by intro _;rfl) :
  PE X (.ListComp elt [⟨tg,iter,ifs,0⟩] scope pos) (tCompG xs.length wi g tc te sel):=by
 intro pins s σ H Q I h;rw [eval_ListComp];refine wpAny_comprehension_free (use:=none) rfl hs hc.clos hkind hnames (thn (hi pins s σ H _ I h) λ v s1 h1=>thn h1 λ itv s2 h2=>?_);obtain ⟨it,fp,tn,J,H2,rfl,I2,T,t2,f2,q2⟩:=h2;refine comp_blockG (RR:=λ acc C=>compPost (model X.prog X.w) X.A X.xe none (EP X pins σ Q) acc C) hcalm hkind hcell hc hr (hg pins fp) (ht pins fp) (he pins fp) I2 T t2 f2 q2 λ D C H' s' I' fC ⟨m,hn⟩ q=>?_;exact ⟨m,hn,λ h' sb=>⟨.ref D,H',I'.turned (t':=s'.toks) (λ b o hb e=>(sb.2 b hb).trans e) fC.1 fC.2.1 fC.2.2.2.1 fC.2.2.2.2.1 fC.2.2.2.2.2,rfl,q⟩⟩
theorem cD {i:Nat} {y:Str} {py spos:Pos} {elt iter tg:Expr} {ifs:List Expr} {xs:List Str} {pos:Pos} {scope:Scope} {cl:List (Str × Addr)} {rest:List Str} {sel:St->St} {g:TG} {tc:TT} {te:TE} {wi:TI}
  (hNX:X.N.Nodup) (hi':X.N[i]?=some y) (hy:X.env.scope.names.lookup y=some .local)
  (hcalm:X.calm=true) (hi:PI X tg iter wi) (hg:∀ (pins:List (Addr × Obj)) (fp:List Addr) (C:Addr) (s:Shared) (H:Hp),PG (bw X pins (xs++rest) scope cl C fp s H) tg g) (ht:∀ (pins:List (Addr × Obj)) (fp:List Addr) (C:Addr) (s:Shared) (H:Hp),PTs (bw X pins (xs++rest) scope cl C fp s H) ifs tc)
  (he:∀ (pins:List (Addr × Obj)) (fp:List Addr) (C:Addr) (s:Shared) (H:Hp),PE (bw X pins (xs++rest) scope cl C fp s H) elt te)
  (hc:Clos X scope cl) (hr:Reads X scope rest sel) (hkind:scope.kind=.function:=by rfl) (hcell:∀ z∈scope.names,z.2≠.cell:=by decide +kernel) (hnames:∀ z∈scope.names,z.2=.local->scope.names.lookup z.1=some .local:=by decide +kernel)
  (hs:∀ x,foldedSetIterable iter X.env x=pure x:=by intro _;rfl)
  (hsw:swapsWith (.ListComp elt [⟨tg,iter,ifs,0⟩] scope pos) (some (.Name y py)) spos.line X.env=pure true:=by rfl) :
  PS X (.Assign [.Name y py] (.ListComp elt [⟨tg,iter,ifs,0⟩] scope pos) spos) (tAsg (tCompG xs.length wi g tc te sel) (gName i)):=by
 intro pins s σ H D I h;rw [exec_Assign_Name_used _ _ _ _ hsw];refine fH (ir (fH ?_));show wpAny _ X.A (do let _ <- comprehension (.ListComp elt [⟨tg,iter,ifs,0⟩] scope pos) scope X.env _ (newList []) false (eval iter X.env) (some (assign (.Name y py) X.env))) _ _ s
 refine fH (gD (wpAny_comprehension_free (use:=some (assign (.Name y py) X.env)) (Q:=λ _ s'=>SP X pins D .next s') rfl hs hc.clos hkind hnames
  (thn (hi pins s σ H _ I h) λ v s1 h1=>thn h1 λ itv s2 h2=>?_)) (λ _ s' hq=>fS (fS hq)) λ _ _ e=>e)
 obtain ⟨it,fp,tn,J,H2,rfl,I2,T,t2,f2,q2⟩:=h2;refine comp_blockG (Q:=λ x H1=>gName i x σ H1 D.nx) (RR:=λ acc C=>compPost (model X.prog X.w) X.A X.xe (some (assign (.Name y py) X.env)) (λ _ s'=>SP X pins D .next s') acc C) hcalm hkind hcell hc hr (hg pins fp) (ht pins fp) (he pins fp) I2 T t2 f2 q2 λ L C H' s' I' fC ⟨m,hn⟩ q=>?_;show wpAny _ X.A (assign (.Name y py) X.env (.ref L)) _ _ _;refine wpAny_assign_Name (store_ok2 I' hNX hi' (.inl hy) (v:=.ref L) rfl (λ s2 I2' ⟨a,sb,ha⟩=>?_) (.inr hy))
 have hCa:C≠a:=λ z=>by
  rcases ha with z' | z'
  ·exact fC.2.1 (z.trans z')
  ·exact fC.2.2.2.2.1 y a z' z.symm
 exact ⟨m,hn.sameBut sb hCa,λ h' sb'=>⟨_,H',I2'.turned (t':=s2.toks) (λ b o hb e=>(sb'.2 b hb).trans e) fC.1 fC.2.1 fC.2.2.2.1 fC.2.2.2.2.1 fC.2.2.2.2.2,q⟩⟩
end
end L2
namespace L2
open PySem PySem.Spec PyProof.Rows
noncomputable def TrailF (h:Heap) (e:Addr) (vs:Array Value) (T:Addr):Prop:=
 vs[1]?=some (.ref T)/\T≠e/\∃ oT ts,h.get? T=some oT/\oT.data=.fields ts/\3<ts.size
section
variable {M:Model} {A:Around} {E:Value->Shared->Prop} {s:Shared} {base:Heap} {env:Env} {outer:List Env} {L e:Addr} {oe:Obj} {vs:Array Value} {Q:Unit->Shared->Prop}
end
section
variable {X:Cx} {pins:List (Addr × Obj)} {σ:St} {H H':Hp} {s s':Shared} {h':Heap}
noncomputable def XFlyF (X:Cx) (pins:List (Addr × Obj)) (H:Hp) (h:Heap) (x:Addr) (cls:Value) (d:Option Addr):Prop:=
 H x=none/\Off X pins x/\∃ vs sl T,h.get? x=some ⟨cls,d,.fields vs,sl⟩/\TrailF h x vs T/\H T=none/\Off X pins T
noncomputable def XPF (X:Cx) (pins:List (Addr × Obj)) (σ:St) (E:XK) (e:Value) (s':Shared):Prop:=∃ x cls d H',e=.ref x/\Inv X pins σ H' s'/\XFlyF X pins H' s'.heap x cls d/\E cls d H'
end
section
variable {P:Program} {w:World} {K:W.Frag} {mg:Str->Option Value} {base:Heap} {N:List Str} {qual:Str} {scope:Scope} {f:Addr} {cd:Value} {A:Around} {outer:List Env} {s₀:Shared} {H₀:Hp} {E:XK}
end
section
variable {X:Cx} {E:XK}
noncomputable def CXC (P:Program) (w:World) (stack:List Env) (fp:List Addr) (C:Addr) (H₃:Hp) (s₃:Shared) (E:XK) (e:Value) (s':Shared):Prop:=
 ∃ x cls d H' vs sl tr,e=.ref x/\s'.os=s₃.os/\AllBare s'.gens/\Un (frs stack) fp H₃ H' s₃.heap s'.heap/\HOk P w H' s'.heap/\H' x=none/\s₃.heap.get? x=none/\x≠C/\
  s'.heap.get? x=some ⟨cls,d,.fields vs,sl⟩/\Trail s'.heap x vs tr/\(∀ T,tr=some T->s₃.heap.get? T=none/\H' T=none/\T≠C)/\(∃ m,s'.heap.Ns C m)/\H' C=none/\E cls d H'
theorem px_or {e:Expr} {t u:XK->TE} (h1:PX X e t) (h2:PX X e u):PX X e (λ E σ H Q=>t E σ H Q∨u E σ H Q):=
 λ pins s σ H Q E I q=>q.elim (h1 pins s σ H Q E I) (h2 pins s σ H Q E I)
end
end L2
namespace L2
open PySem PySem.Spec PyProof.Rows
section
variable {X:Cx} {pins:List (Addr × Obj)} {σ:St} {H:Hp} {s:Shared} {a:Addr} {o:Obj} {u:HO}
theorem Inv.freeze (I:Inv X pins σ H s) (ha:H a=some u) (mu:Mut (some u)) (ho:s.heap.get? a=some o):Inv X pins σ (upd H a (.frz o u)) s:=by
 have mu':Mut (H a):=by rw [ha];exact mu
 have nown:∀ c y,H c=some (.own y)->c≠a:=λ c y r z=>by subst z;rw [r] at mu';exact mu'
 have ntup:∀ c xs,H c=some (.tup xs)->c≠a:=λ c xs r z=>by subst z;rw [r] at mu';exact mu'
 refine I.un (t':=s.toks) (Un.write (x:=a) (e:=a) mu' (.inl rfl) (λ _ _ _ q=>q) ⟨o,ho⟩) (I.hok.write (x:=a) (e:=a) mu' (.inl rfl) (λ _ _ _ q=>q) ⟨o,ho⟩ ⟨ho,?_⟩);exact (I.hok a u ha).stay (λ _ _ _ q=>q) (λ c r=>by rw [ai (nown c a r)];exact r) λ c xs r=>by rw [ai (ntup c xs r)];exact r
theorem Inv.thaw (I:Inv X pins σ H s) (ha:H a=some (.frz o u)) (h0:∀ o' u',X.H₀ a≠some (.frz o' u')):Inv X pins σ (upd H a u) s:=by
 have nown:∀ c y,H c=some (.own y)->c≠a:=λ c y r z=>by subst z;rw [r] at ha;cases ha
 have ntup:∀ c xs,H c=some (.tup xs)->c≠a:=λ c xs r z=>by subst z;rw [r] at ha;cases ha
 have nn:∀ c,H c=none->c≠a:=λ c r z=>by subst z;rw [r] at ha;cases ha
 have up:∀ c,H c=none->upd H a u c=none:=λ c r=>by rw [ai (nn c r)];exact r
 refine ⟨I.ok,I.os,I.bare,⟨I.base.keep,I.base.slot,λ b ob e n hx=>up b (I.base.free b ob e n hx),I.base.there,λ b xs e=>?_,λ b ob z e=>?_,λ b ps e=>?_⟩,I.loc,I.cell,up _ I.free,λ x c e=>up _ (I.freeC x c e),λ p hp=>?_,λ b ob e=>?_,I.len⟩
 ·have q:=I.base.tups b xs e;rw [ai (ntup b xs q)];exact q
 ·have q:=I.base.frzs b ob z e;have nb:b≠a:=λ z'=>by subst z';exact h0 _ _ e
  rw [ai nb];exact q
 ·obtain ⟨m,q⟩:=I.base.tbls b ps e;have nb:b≠a:=λ z'=>by subst z';rw [q] at ha;cases ha
  exact ⟨m,by rw [ai nb];exact q⟩
 ·obtain ⟨e,n,r⟩:=I.pin p hp;exact ⟨e,up _ n,r⟩
 ·by_cases hb:b=a
  ·subst hb;rw [ae] at e
   cases e;obtain ⟨_,q⟩:=I.hok b _ ha;exact q.stay (λ _ _ _ q=>q) (λ c r=>by rw [ai (nown c b r)];exact r) λ c xs r=>by rw [ai (ntup c xs r)];exact r
  ·rw [ai hb] at e;exact (I.hok b ob e).stay (λ _ _ _ q=>q) (λ c r=>by rw [ai (nown c b r)];exact r) λ c xs r=>by rw [ai (ntup c xs r)];exact r
theorem Inv.nofrz (I:Inv X pins σ H s) (ha:H a=some u) (nu:∀ o' u',u≠.frz o' u'):∀ o' u',X.H₀ a≠some (.frz o' u'):=λ o' u' e=>by
 have q:=I.base.frzs a o' u' e;rw [ha] at q;exact nu _ _ (f9 q)
noncomputable def tThaw (t:TE):TE:=λ σ H Q=>∃ a u,H a=some u/\(∀ o' u',u≠.frz o' u')/\t σ H λ v H'=>∃ o,H' a=some (.frz o u)/\Q v (upd H' a u)
theorem pe_thaw {e:Expr} {t:TE} (h:PE X e t):PE X e (tThaw t):=by
 intro pins s σ H Q I q;obtain ⟨a,u,ha,nu,q⟩:=q;exact thn (h pins s σ H _ I q) λ v s1 ⟨x,H1,I1,r1,o,e1,q1⟩=>⟨x,_,I1.thaw e1 (I.nofrz ha nu),r1,q1⟩
noncomputable def tThawS (t:TS):TS:=λ D σ H=>∃ a u,H a=some u/\(∀ o' u',u≠.frz o' u')/\t { D with nx:=λ σ' H'=>∃ o,H' a=some (.frz o u)/\D.nx σ' (upd H' a u),rt:=λ v H'=>∃ o,H' a=some (.frz o u)/\D.rt v (upd H' a u),ct:=λ σ' H'=>∃ o,H' a=some (.frz o u)/\D.ct σ' (upd H' a u),bk:=λ σ' H'=>∃ o,H' a=some (.frz o u)/\D.bk σ' (upd H' a u) } σ H
theorem ps_thaw {st:Stmt} {t:TS} (h:PS X st t):PS X st (tThawS t):=by
 intro pins s σ H D I q;obtain ⟨a,u,ha,nu,q⟩:=q;have hn:=I.nofrz ha nu;refine thn (h pins s σ H _ I q) λ f s1 q1=>?_
 cases f with
 | next=>obtain ⟨σ1,H1,I1,o,e1,q2⟩:=q1;exact ⟨σ1,_,I1.thaw e1 hn,q2⟩
 | cont=>obtain ⟨σ1,H1,I1,o,e1,q2⟩:=q1;exact ⟨σ1,_,I1.thaw e1 hn,q2⟩
 | brk=>obtain ⟨σ1,H1,I1,o,e1,q2⟩:=q1;exact ⟨σ1,_,I1.thaw e1 hn,q2⟩
 | ret v=>obtain ⟨x,σ1,H1,I1,r1,o,e1,q2⟩:=q1;exact ⟨x,σ1,_,I1.thaw e1 hn,r1,q2⟩
noncomputable def Itd (a:Addr) (o:Obj) (kvs:List (Key × V)):It:=
 ⟨λ i H=>H a=some (.frz o (.dK kvs))/\i<kvs.length,λ i H x H'=>H'=H/\∃ kv,kvs[i]?=some kv/\x=kV kv.1,λ i H=>H a=some (.frz o (.dK kvs))/\kvs.length<=i⟩
theorem KV.get {κ:Type}:∀ {kvs:List (κ × V)} {vs:List (κ × Value)} {i:Nat} {kv:κ × V},KV kvs vs->kvs[i]?=some kv->∃ v,vs[i]?=some (kv.1,v)/\RelV kv.2 v
 | _,_,_,_,.nil,e=>by simp at e
 | _,_,0,kv,.cons (b:=b) r t,e=>by
  simp at e;subst e;exact ⟨b.2,by simp [r.1],r.2⟩
 | _,_,i+1,kv,.cons r t,e=>by
  obtain ⟨v,e',r'⟩:=KV.get (i:=i) t (by simpa using e);exact ⟨v,by simpa using e',r'⟩
theorem is_kV {P:Program} {w:World} {k:Key} {u:Value} (h:(aQ P w).is k u=true):RelV (kV k) u:=by
 rcases a7 (show keyIs k u=true from h) with ⟨i,t,rfl,rfl⟩ | ⟨x,t,rfl,rfl⟩
 ·exact ⟨t,rfl⟩
 ·exact ⟨t,rfl⟩
theorem turn_dict {P:Program} {w:World} {K:W.Frag} {tg:Expr} (a it:Addr) (o:Obj) (kvs:List (Key × V)) {es:Array DictEntry} {ep:Nat} (hd:o.data=.dict es ep):Turn P w K tg (Itd a o kvs) [it] it (λ i h=>h.IsKeyIter it a i kvs.length ep) where
 mem:=by simp
 obj:=λ i h st b hb=>by
  have e:b=it:=by simpa using hb
  subst e;obtain ⟨o,e,c,d⟩:=st;exact ⟨o,e,λ v z=>by rw [d] at z;cases z⟩
 keep:=λ i h h' st k=>st.at λ o e=>k it (by simp) o e
 item:=by
  intro X hP hw hK hc i pins s σ H E I hf st hg;subst hP hw hK;obtain ⟨ha,hi⟩:=hg;obtain ⟨ho,hz,hs,vs,r,o',es',ep',e1,e2,e3,e4,e5,e6⟩:=I.hok a _ ha;rw [ho] at e1;cases e1;rw [hd] at e3;cases e3;have hx:kvs[i]?=some kvs[i]:=fF hi;obtain ⟨v,hv,rv⟩:=KV.get r hx;obtain ⟨f0,f1,f2,f3,f4,f5⟩:=hf it (by simp);have st0:s.heap.IsKeyIter it a i vs.length ep:=by rw [<- r.length];exact st
  refine wpAny_pyNext_dict_item st0 ⟨o,es,ho,e2,hd,e4,e5,e6⟩ hv λ key h' hk st' sb=>?_;rw [<- r.length] at st';have I1:Inv X pins σ H { s with heap:=h' }:=I.turned (t':=s.toks) (λ b o hb e=>(sb.2 b hb).trans e) f0 f1 f3 f4 f5;obtain ⟨oi,e,c,d⟩:=id st';exact ⟨key,rfl,go_of (s:={ s with heap:=h' }) e c d (by decide) ⟨kV (kvs[i]).1,H,I1,is_kV hk,⟨rfl,_,hx,rfl⟩,st',λ b hb=>(hf b hb).1⟩⟩
 done:=by
  intro X hP hw hK hc i pins s σ H E I hf st hg;subst hP hw hK;obtain ⟨ha,hi⟩:=hg;obtain ⟨ho,hz,hs,vs,r,o',es',ep',e1,e2,e3,e4,e5,e6⟩:=I.hok a _ ha;rw [ho] at e1;cases e1;rw [hd] at e3;cases e3;obtain ⟨f0,f1,f2,f3,f4,f5⟩:=hf it (by simp);have st0:s.heap.IsKeyIter it a i vs.length ep:=by rw [<- r.length];exact st
  exact wpAny_pyNext_dict_end (I.ok.hd hc) st0 ⟨o,es,ho,e2,hd,e4,e5,e6⟩ (List.getElem?_eq_none (by rw [<- r.length];exact hi)) λ h' eb=>⟨rfl,I.turned (t':=s.toks) (λ b o hb e=>eb b o hb e) f0 f1 f3 f4 f5⟩
 self:=λ _ _ _ _ _ st h=>wpAny_pyIter_keyiter st h
noncomputable def iDic (tl:TE):TI:=λ σ H R=>tl σ H λ x H1=>∃ a kvs,x=.ref a/\H1 a=some (.dK kvs)/\∀ o,R (Itd a o kvs) (upd H1 a (.frz o (.dK kvs)))
theorem pi_dict {tg l:Expr} {tl:TE} (hl:PE X l tl):PI X tg l (iDic tl):=by
 intro pins s σ H R I h;refine thn (hl pins s σ H _ I h) λ v s1 ⟨x,H1,I1,r1,q1⟩=>?_;obtain ⟨a,kvs,e,ha,q⟩:=q1;subst e
 cases r1;obtain ⟨hz,hs,vs,r,o,es,ep,e1,e2,e3,e4,e5,e6⟩:=dk_of I1.hok ha;have I2:Inv X pins σ (upd H1 a (.frz o (.dK kvs))) s1:=I1.freeze ha True.intro e1;refine wpAny_pyIter_dict hs ⟨o,es,e1,e2,e3,e4,e5,e6⟩ ?_;refine ⟨s1.heap.objs.size,[s1.heap.objs.size],_,_,_,rfl,I2.kept (t':=s1.toks) λ b o e=>fJ _ e,turn_dict a _ o kvs e3,⟨_,gm _ rfl,rfl,by rw [r.length];rfl⟩,λ b hb=>?_,q o⟩;have e:b=s1.heap.objs.size:=by simpa using hb
 subst e;exact I2.fpOk (fM _) (I2.hok.fresh (fM _))
end
theorem for_dict {a:Addr} {o:Obj} {kvs:List (Key × V)} {g:TG} {tb:TS} {D:Ends} {σ:St} {H:Hp} (Pv:Nat->St->Hp->Prop) (h0:Pv 0 σ H) (hl:∀ i σ H,i<=kvs.length->Pv i σ H->H a=some (.frz o (.dK kvs)))
  (hs:∀ i kv σ H,kvs[i]?=some kv->Pv i σ H->g (kV kv.1) σ H λ σ2 H2=>tb { D with nx:=Pv (i+1),ct:=Pv (i+1),bk:=D.nx } σ2 H2) (hd:∀ σ H,Pv kvs.length σ H->D.nx σ H) :
  ∃ W:Nat->Nat->St->Hp->Prop,(∃ m,W 0 m σ H)/\∀ i m σ H,W i m σ H->
   ((Itd a o kvs).stop i H/\D.nx σ H)∨((Itd a o kvs).go i H/\∃ N:St->Hp->Prop,(∀ σ' H',N σ' H'->∃ m',m'<m/\W (i+1) m' σ' H')/\∀ x H',(Itd a o kvs).yld i H x H'->g x σ H' λ σ2 H2=>tb { D with nx:=N,ct:=N,bk:=D.nx } σ2 H2):=by
 refine ⟨λ i m σ H=>m=kvs.length-i/\i<=kvs.length/\Pv i σ H,⟨kvs.length,by simp,fY _,h0⟩,?_⟩;rintro i m σ H ⟨rfl,hi,p⟩;have q:=hl i σ H hi p;by_cases hlt:i<kvs.length
 ·refine .inr ⟨⟨q,hlt⟩,Pv (i+1),λ σ' H' p'=>⟨kvs.length-(i+1),by omega,rfl,hlt,p'⟩,λ x H' y=>?_⟩;obtain ⟨e,kv,hkv,ex⟩:=y;subst e ex;exact hs i kv σ _ hkv p
 ·have e:i=kvs.length:=by omega
  subst e;exact .inl ⟨⟨q,fM _⟩,hd σ H p⟩
end L2
namespace L2
open PySem PySem.Spec PyProof.Rows
noncomputable def d8 (n:Nat) (Pv:Nat->Hp->Prop) (i:Nat) (H:Hp):Prop:=∃ m',m'<n-i/\m'=n-(i+1)/\i+1<=n/\Pv (i+1) H
theorem cP {n i:Nat} {Pv:Nat->Hp->Prop} {H:Hp} (hi:i<n) (h:Pv (i+1) H):d8 n Pv i H:=⟨n-(i+1),by omega,rfl,hi,h⟩
section
variable {l:Addr} {k:Nat} {g:TG} {tc:TT} {te:TE} {ρ:St} {R:Hp->Prop} {H₀:Hp}
theorem fB {J:It} {n:Nat} (Pv:Nat->Hp->Prop) (h0:Pv 0 (upd H₀ l (.lst []))) (hgo:∀ i H,i<n->Pv i H->J.go i H) (hst:∀ H,Pv n H->J.stop n H)
  (hs:∀ i x H H',i<n->J.yld i H x H'->Pv i H->∀ zs:St,zs.length=k->g x (zs ++ ρ) H' λ σ2 H2=>(∃ zs':St,zs'.length=k/\σ2=zs' ++ ρ)/\tc σ2 H2 λ b H3=>if b=true then te σ2 H3 λ y H4=>∃ ys,H4 l=some (.lst ys)/\ys.length<sizeLine/\d8 n Pv i (upd H4 l (.lst (ys++[y]))) else d8 n Pv i H3)
  (hd:∀ H,Pv n H->R H) :
  ∃ W:Nat->Nat->Hp->Prop,(∃ m,W 0 m (upd H₀ l (.lst [])))/\∀ i m H,W i m H->
   (J.stop i H/\R H)∨(J.go i H/\∀ x H',J.yld i H x H'->∀ zs:St,zs.length=k->g x (zs ++ ρ) H' λ σ2 H2=>(∃ zs':St,zs'.length=k/\σ2=zs' ++ ρ)/\tc σ2 H2 λ b H3=>if b=true then te σ2 H3 λ y H4=>∃ ys,H4 l=some (.lst ys)/\ys.length<sizeLine/\∃ m',m'<m/\W (i+1) m' (upd H4 l (.lst (ys++[y]))) else ∃ m',m'<m/\W (i+1) m' H3):=by
 refine ⟨λ i m H=>m=n-i/\i<=n/\Pv i H,⟨n,by simp,fY _,h0⟩,?_⟩;rintro i m H ⟨rfl,hi,p⟩;by_cases hlt:i<n
 ·exact .inr ⟨hgo i H hlt p,λ x H' y=>hs i x H H' hlt y p⟩
 ·have e:i=n:=by omega
  subst e;exact .inl ⟨hst H p,hd H p⟩
theorem compG_list {K:W.Frag} {a:Addr} {xs:List V} (Pv:Nat->Hp->Prop) (h0:Pv 0 (upd H₀ l (.lst []))) (hl:∀ i H,Pv i H->SqL K H a xs)
  (hs:∀ i x H,xs[i]?=some x->Pv i H->∀ zs:St,zs.length=k->g x (zs ++ ρ) H λ σ2 H2=>(∃ zs':St,zs'.length=k/\σ2=zs' ++ ρ)/\tc σ2 H2 λ b H3=>if b=true then te σ2 H3 λ y H4=>∃ ys,H4 l=some (.lst ys)/\ys.length<sizeLine/\d8 xs.length Pv i (upd H4 l (.lst (ys++[y]))) else d8 xs.length Pv i H3)
  (hd:∀ H,Pv xs.length H->R H) :
  ∃ W:Nat->Nat->Hp->Prop,(∃ m,W 0 m (upd H₀ l (.lst [])))/\∀ i m H,W i m H->
   ((Itl K a).stop i H/\R H)∨((Itl K a).go i H/\∀ x H',(Itl K a).yld i H x H'->∀ zs:St,zs.length=k->g x (zs ++ ρ) H' λ σ2 H2=>(∃ zs':St,zs'.length=k/\σ2=zs' ++ ρ)/\tc σ2 H2 λ b H3=>if b=true then te σ2 H3 λ y H4=>∃ ys,H4 l=some (.lst ys)/\ys.length<sizeLine/\∃ m',m'<m/\W (i+1) m' (upd H4 l (.lst (ys++[y]))) else ∃ m',m'<m/\W (i+1) m' H3):=
 fB (n:=xs.length) Pv h0 (λ i H hi p=>⟨xs,xs[i],hl i H p,fF hi⟩) (λ H p=>⟨xs,hl _ H p,fM _⟩) (λ i x H H' hi y p=>by
  obtain ⟨e,y⟩:=y;subst e;exact hs i x _ (y xs (hl i _ p)) p) hd
theorem a8 {lo:Int} {n:Nat} (Pv:Nat->Hp->Prop) (h0:Pv 0 (upd H₀ l (.lst [])))
  (hs:∀ i H,i<n->Pv i H->∀ zs:St,zs.length=k->g (.int (lo+i)) (zs ++ ρ) H λ σ2 H2=>(∃ zs':St,zs'.length=k/\σ2=zs' ++ ρ)/\tc σ2 H2 λ b H3=>if b=true then te σ2 H3 λ y H4=>∃ ys,H4 l=some (.lst ys)/\ys.length<sizeLine/\d8 n Pv i (upd H4 l (.lst (ys++[y]))) else d8 n Pv i H3)
  (hd:∀ H,Pv n H->R H) :
  ∃ W:Nat->Nat->Hp->Prop,(∃ m,W 0 m (upd H₀ l (.lst [])))/\∀ i m H,W i m H->
   ((Itr lo n).stop i H/\R H)∨((Itr lo n).go i H/\∀ x H',(Itr lo n).yld i H x H'->∀ zs:St,zs.length=k->g x (zs ++ ρ) H' λ σ2 H2=>(∃ zs':St,zs'.length=k/\σ2=zs' ++ ρ)/\tc σ2 H2 λ b H3=>if b=true then te σ2 H3 λ y H4=>∃ ys,H4 l=some (.lst ys)/\ys.length<sizeLine/\∃ m',m'<m/\W (i+1) m' (upd H4 l (.lst (ys++[y]))) else ∃ m',m'<m/\W (i+1) m' H3):=
 fB (n:=n) Pv h0 (λ i H hi p=>hi) (λ H p=>fM _) (λ i x H H' hi y p=>by
  obtain ⟨e,y⟩:=y;subst e y;exact hs i _ hi p) hd
theorem compG_dict {a:Addr} {o:Obj} {kvs:List (Key × V)} (Pv:Nat->Hp->Prop) (h0:Pv 0 (upd H₀ l (.lst []))) (hl:∀ i H,Pv i H->H a=some (.frz o (.dK kvs)))
  (hs:∀ i kv H,kvs[i]?=some kv->Pv i H->∀ zs:St,zs.length=k->g (kV kv.1) (zs ++ ρ) H λ σ2 H2=>(∃ zs':St,zs'.length=k/\σ2=zs' ++ ρ)/\tc σ2 H2 λ b H3=>if b=true then te σ2 H3 λ y H4=>∃ ys,H4 l=some (.lst ys)/\ys.length<sizeLine/\d8 kvs.length Pv i (upd H4 l (.lst (ys++[y]))) else d8 kvs.length Pv i H3)
  (hd:∀ H,Pv kvs.length H->R H) :
  ∃ W:Nat->Nat->Hp->Prop,(∃ m,W 0 m (upd H₀ l (.lst [])))/\∀ i m H,W i m H->
   ((Itd a o kvs).stop i H/\R H)∨((Itd a o kvs).go i H/\∀ x H',(Itd a o kvs).yld i H x H'->∀ zs:St,zs.length=k->g x (zs ++ ρ) H' λ σ2 H2=>(∃ zs':St,zs'.length=k/\σ2=zs' ++ ρ)/\tc σ2 H2 λ b H3=>if b=true then te σ2 H3 λ y H4=>∃ ys,H4 l=some (.lst ys)/\ys.length<sizeLine/\∃ m',m'<m/\W (i+1) m' (upd H4 l (.lst (ys++[y]))) else ∃ m',m'<m/\W (i+1) m' H3):=
 fB (n:=kvs.length) Pv h0 (λ i H hi p=>⟨hl i H p,hi⟩) (λ H p=>⟨hl _ H p,fM _⟩) (λ i x H H' hi y p=>by
  obtain ⟨e,kv,hkv,ex⟩:=y;subst e ex;exact hs i kv _ hkv p) hd
end
theorem g1 {v:V} {ρ:St} {H:Hp} {Q:St->Hp->Prop} (h:Q (some v :: ρ) H):∀ zs:St,zs.length=1->gName 0 v (zs ++ ρ) H Q:=λ zs hz=>by
 match zs,hz with
 | [z],_=>exact h
theorem yes {σ:St} {H:Hp} {A B:Hp->Prop} (h:A H):tYes σ H (λ b H3=>if b=true then A H3 else B H3):=by
 show if true=true then A H else B H
 rw [if_pos rfl];exact h
end L2
namespace L2
open PySem PySem.Spec PyProof.Rows
section
variable {X:Cx}
noncomputable def Iti (a:Addr) (o:Obj) (kvs:List (Key × V)):It:=
 ⟨λ i H=>H a=some (.frz o (.dK kvs))/\i<kvs.length,λ i H x H'=>∃ kv t,kvs[i]?=some kv/\H t=none/\x=.ref t/\H'=upd H t (.tup [kV kv.1,kv.2]),λ i H=>H a=some (.frz o (.dK kvs))/\kvs.length<=i⟩
theorem eE:entryFor table "dict_itemiterator.__iter__"=some Builtin.«dict_keyiterator.__iter__»:=entryFor_alias (id':="dict_keyiterator.__iter__") (by kernel_rfl) rfl (by decide +kernel) (by kernel_rfl)
theorem Inv.trackI {pins:List (Addr × Obj)} {σ:St} {H:Hp} {s:Shared} {t:Addr} {o:HO} (I:Inv X pins σ H s) (h0:X.s₀.heap.objs.size<=t) (hn:H t=none) (hL:t≠X.env.locals) (hc:∀ x c,X.env.cells.lookup x=some c->c≠t) (hp:∀ p∈X.pn++pins,p.1≠t) (hok:HOk X.prog X.w (upd H t o) s.heap):Inv X pins σ (upd H t o) s:=by
 have up:∀ c,c≠t->H c=none->upd H t o c=none:=λ c n r=>by rw [ai n];exact r
 refine ⟨I.ok,I.os,I.bare,⟨I.base.keep,I.base.slot,λ b ob e n hx=>up b (gF (gi (fT e) h0)) (I.base.free b ob e n hx),I.base.there,λ b xs e=>?_,λ b ob z e=>?_,λ b ps e=>?_⟩,I.loc,I.cell,up _ hL.symm I.free,λ x c e=>up _ (hc x c e) (I.freeC x c e),λ p hp'=>?_,hok,I.len⟩
 ·have q:=I.base.tups b xs e;rw [ai (av q hn)];exact q
 ·have q:=I.base.frzs b ob z e;rw [ai (av q hn)];exact q
 ·obtain ⟨m,q⟩:=I.base.tbls b ps e;exact ⟨m,by rw [ai (av q hn)];exact q⟩
 ·obtain ⟨e,n,r⟩:=I.pin p hp';exact ⟨e,up _ (hp p hp') n,r⟩
theorem turn_items {P:Program} {w:World} {K:W.Frag} {elts:List Expr} {x1} {tpos:Pos} (a it:Addr) (o:Obj) (kvs:List (Key × V)) {es:Array DictEntry} {ep:Nat} (hd:o.data=.dict es ep) :
  Turn P w K (.Tuple elts x1 tpos) (Iti a o kvs) [it] it (λ i h=>∃ ok ov,IsItemIter h it a i kvs.length ep ok ov) where
 mem:=by simp
 obj:=λ i h st b hb=>by
  have e:b=it:=by simpa using hb
  subst e;obtain ⟨ok,ov,e⟩:=st
  exact ⟨_,e,λ v z=>by
   have z':Data.fields _=Data.cell v:=z
   cases z'⟩
 keep:=λ i h h' st k=>let ⟨ok,ov,e⟩:=st;⟨ok,ov,k it (by simp) _ e⟩
 item:=by
  intro X hP hw hK hc i pins s σ H E I hf st hg;subst hP hw hK;obtain ⟨ha,hi⟩:=hg;obtain ⟨ho,hz,hs,vs,r,o',es',ep',e1,e2,e3,e4,e5,e6⟩:=I.hok a _ ha;rw [ho] at e1;cases e1;rw [hd] at e3;cases e3;have hx:kvs[i]?=some kvs[i]:=fF hi;obtain ⟨v,hv,rv⟩:=KV.get r hx;obtain ⟨f0,f1,f2,f3,f4,f5⟩:=hf it (by simp);obtain ⟨ok,ov,st⟩:=st;have st0:IsItemIter s.heap it a i vs.length ep ok ov:=by rw [<- r.length];exact st
  refine wpAny_pyNext_items_item st0 ⟨o,es,ho,e2,hd,e4,e5,e6⟩ hv λ key h' hk st' ht hz' kk=>?_;rw [<- r.length] at st';refine ⟨_,rfl,?_⟩;refine wpAny_letOwnedTupleGo_items (s:={ s with heap:=h' }) st' λ h2 st2 sb=>?_;have nt:s.heap.objs.size≠it:=Nat.ne_of_gt (fT st0);have I1:Inv X pins σ H { s with heap:=h2,toks:=s.toks }:=I.turned (t':=s.toks) (λ b o hb e=>(sb.2 b hb).trans (kk b o hb e)) f0 f1 f3 f4 f5;have hn:H s.heap.objs.size=none:=I.hok.fresh (fM _);have ht2:h2.get? s.heap.objs.size=some { cls:=.type "tuple",data:=.seq #[key,v] }:=(sb.2 _ nt).trans ht
  have hok:HOk X.prog X.w (upd H s.heap.objs.size (.tup [kV (kvs[i]).1,(kvs[i]).2])) h2:=λ b u e=>by
   by_cases hb:b=s.heap.objs.size
   ·subst hb;rw [ae] at e
    cases e;exact ⟨zL2,[key,v],.cons (is_kV hk) (.cons rv .nil),_,ht2,rfl,_,rfl⟩
   ·rw [ai hb] at e;exact (I1.hok b u e).stay (λ _ _ _ q=>q) (λ c q=>by rw [ai (av q hn)];exact q) λ c xs q=>by rw [ai (av q hn)];exact q
  have I2:=I1.trackI (t:=s.heap.objs.size) I.sz hn (Nat.ne_of_gt I.lt) (λ x c e z=>by
   obtain ⟨v,q⟩:=I.cell x c e;exact absurd q.lt (by rw [z];exact gY _)) (λ p hp z=>absurd (fT (I.pin p hp).1) (by rw [z];exact gY _)) hok
  refine ⟨.ref s.heap.objs.size,_,I2,rfl,⟨_,_,hx,hn,rfl,rfl⟩,⟨_,_,st2⟩,λ b hb=>?_⟩;have e:b=it:=by simpa using hb
  subst e;rw [ai nt.symm];exact f0
 done:=by
  intro X hP hw hK hc i pins s σ H E I hf st hg;subst hP hw hK;obtain ⟨ha,hi⟩:=hg;obtain ⟨ho,hz,hs,vs,r,o',es',ep',e1,e2,e3,e4,e5,e6⟩:=I.hok a _ ha;rw [ho] at e1;cases e1;rw [hd] at e3;cases e3;obtain ⟨f0,f1,f2,f3,f4,f5⟩:=hf it (by simp);obtain ⟨ok,ov,st⟩:=st;have st0:IsItemIter s.heap it a i vs.length ep ok ov:=by rw [<- r.length];exact st
  exact wpAny_pyNext_items_end (I.ok.hd hc) st0 ⟨o,es,ho,e2,hd,e4,e5,e6⟩ (List.getElem?_eq_none (by rw [<- r.length];exact hi)) λ h' eb=>⟨rfl,I.turned (t':=s.toks) (λ b o hb e=>eb b o hb e) f0 f1 f3 f4 f5⟩
 self:=λ _ _ _ _ _ st h=>by
  obtain ⟨ok,ov,st⟩:=st;have hT:Shared.TypeIs _ (.ref it) "dict_itemiterator":=⟨_,st,rfl⟩;refine wpAny_pyIter_slot hT F.slot_dict_itemiterator_iter (wpAny_call_entry F.slot_dict_itemiterator_iter hT eE ?_ (F.args_dict_itemiterator_iter_1 _));show wpAny _ _ (ret (.ref it)) _ _ _;exact fS ⟨_,rfl,"dict_itemiterator",_,hT,F.slot_dict_itemiterator_next.lookup,h⟩
noncomputable def iItems (to:TE):TI:=λ σ H R=>to σ H λ x H1=>∃ a kvs,x=.ref a/\H1 a=some (.dK kvs)/\∀ o,R (Iti a o kvs) (upd H1 a (.frz o (.dK kvs)))
theorem pi_items {elts:List Expr} {x1} {tpos apos cpos:Pos} {o:Expr} {to:TE} (ho:PE X o to) (hbase:attributeBase o "items" X.env (eval o X.env)=eval o X.env:=by rfl) (hline:(apos.endLine == cpos.line)=true:=by rfl) :
  PI X (.Tuple elts x1 tpos) (.Call (.Attribute o "items" apos) [] [] cpos) (iItems to):=by
 intro pins s σ H R I h;refine wpAny_Call_method0_late hbase hline (thn (ho pins s σ H _ I h) λ v s1 ⟨x,H1,I1,r1,a,kvs,e,ha,q⟩=>?_);subst e
 cases r1;obtain ⟨hz,hs,vs,r,o,es,ep,e1,e2,e3,e4,e5,e6⟩:=dk_of I1.hok ha;have hm:s1.heap.DictOf (aQ X.prog X.w) a vs:=⟨o,es,ep,e1,e2,e3,e4,e5,e6⟩;obtain ⟨h1,h2⟩:=tyV_is (T:="dict") I1 (x:=.ref a) rfl (.inr (.inr (.inl ⟨rfl,.inl ⟨kvs,ha⟩⟩)));refine ⟨"dict","dict.items",F.plainAttrs_dict,F.slot_dict_items,F.type_dict_items,h1,h2,?_⟩;have I2:Inv X pins σ (upd H1 a (.frz o (.dK kvs))) s1:=I1.freeze ha True.intro e1;refine method_meetsIn F.slot_dict_items F.entry_dict_items rfl (PySem.evalArgs_none ⟨rfl,hm.typeIs,F.args_dict_items_1 _,_,meets_dict_items (aQ X.prog X.w) a hs,⟨vs,hm⟩,?_⟩);have I3:Inv X pins σ (upd H1 a (.frz o (.dK kvs))) { s1 with heap:=s1.heap.push { cls:=.type "dict_items",data:=.fields #[.ref a] } }:=I2.kept (t':=s1.toks) λ b o e=>fJ _ e;refine wpAny_pyIter_items (knd:=aQ X.prog X.w) (d:=a) (kvs:=vs) (ep:=ep) ⟨_,gm _ rfl,rfl,rfl⟩ ⟨o,es,fJ _ e1,e2,e3,e4,e5,e6⟩ ?_;refine ⟨_,[_],_,_,_,rfl,I3.kept (t':=s1.toks) λ b o e=>fJ _ e,turn_items a _ o kvs e3,⟨.none,.none,?_⟩,λ b hb=>?_,q o⟩
 ·rw [r.length];exact gm _ rfl
 ·have e:=List.mem_singleton.mp hb;subst e;exact I3.fpOk (fM _) (I3.hok.fresh (fM _))
end
end L2
namespace L2
open PySem PySem.Spec PyProof.Rows
theorem vals_idx:∀ {xs:List V} {us:List Value},xs.length=us.length->(∀ (j:Nat) (x:V) (u:Value),xs[j]?=some x->us[j]?=some u->RelV x u)->Vals xs us
 | [],[],_,_=>.nil
 | [],_::_,h,_=>by cases h
 | _::_,[],h,_=>by cases h
 | x::xs,u::us,h,k=>.cons (k 0 x u rfl rfl) (vals_idx (Nat.succ.inj h) λ j y w a b=>k (j+1) y w (by simpa using a) (by simpa using b))
section
variable {X:Cx}
theorem call_list_dict (hh:X.A.handled=none):d9 X (.type "list") (λ xs H Q=>∃ p kvs,xs=[.ref p]/\Rd H p (.dK kvs)/\∀ l,H l=none->Q (.ref l) (upd H l (.lst (kvs.map λ kv=>kV kv.1)))):=by
 intro pins s σ H xs us Q I r h;obtain ⟨p,kvs,rfl,hp,q⟩:=h;obtain ⟨u,rfl,rx⟩:=vals1 r
 cases rx;obtain ⟨hz,hs,vs,kv,hD⟩:=d0 I.hok hp;obtain ⟨ep,hat⟩:=hD.dictAt;have el:=kv.length;refine PySem.W.kdl_call (PySem.W.kdl_dict (knd:=aQ X.prog X.w) (kvs:=vs) (ep:=ep) hs) hh hat (by rw [<- el];exact hz) λ h' tk acc c hk hD' hacc=>?_;obtain ⟨e1,e2⟩:=hacc;refine ⟨.ref s.heap.objs.size,_,I.laid (t':=tk) hk (fM _) (show ObjOk X.prog X.w _ h' _ (.lst (kvs.map λ kv=>kV kv.1)) from ⟨by rw [fG];exact hz,acc.toList,c,vals_idx (by rw [fG,el,<- e1];simp) λ j x w a b=>?_,by simpa using hD'⟩),rfl,q _ (I.hok.fresh (fM _))⟩;rw [fN] at a
 cases e:kvs[j]? with
 | none=>rw [e] at a;cases a
 | some z=>
  rw [e] at a
  cases a;obtain ⟨v,hv,_⟩:=KV.get kv e;obtain ⟨k,y,hk,hi⟩:=e2 j w (by simpa using b);rw [hv] at hk
  cases hk;exact is_kV hi
noncomputable def ViewO (v d:Addr):HO:=.ext λ h=>h.IsValuesView v d
noncomputable def rValues:V->List V->Hp->VK->Prop:=λ x vs H Q=>∃ a kvs,x=.ref a/\vs=[]/\Rd H a (.dK kvs)/\∀ v,H v=none->Q (.ref v) (upd H v (ViewO v a))
theorem mt_values:MtM X "dict.values" rValues:=by
 intro pins s σ H x vs v us Q I rx rv h;obtain ⟨a,kvs,rfl,rfl,ha,q⟩:=h
 cases rx
 cases rv;obtain ⟨hz,hs,ws,kv,hD⟩:=d0 I.hok ha;refine call_meetsIn PySem.F.slot_dict_values hD.typeIs PySem.F.entry_dict_values (PySem.F.args_dict_values_1 _) (meets_dict_values (aQ X.prog X.w) a hs) ⟨⟨ws,hD⟩,?_⟩;have e:(s.heap.push { cls:=.type "dict_values",data:=.fields #[.ref a] }).get? s.heap.objs.size=some { cls:=.type "dict_values",data:=.fields #[.ref a] }:=gm _ rfl;refine ⟨.ref s.heap.objs.size,_,I.laid (t':=s.toks) (λ b o e=>fJ _ e) (fM _) (show ObjOk X.prog X.w _ _ _ (ViewO _ a) from ⟨⟨_,e,rfl,rfl⟩,⟨_,e⟩,λ h1 h2 z k=>?_⟩),rfl,q _ (I.hok.fresh (fM _))⟩;obtain ⟨o,ho,c⟩:=z;exact ⟨o,k _ ho,c⟩
theorem call_list_vals (hh:X.A.handled=none):d9 X (.type "list") (λ xs H Q=>∃ v a kvs,xs=[.ref v]/\H v=some (ViewO v a)/\Rd H a (.dK kvs)/\∀ l,H l=none->Q (.ref l) (upd H l (.lst (kvs.map (·.2))))):=by
 intro pins s σ H xs us Q I r h;obtain ⟨v,p,kvs,rfl,hv,hp,q⟩:=h;obtain ⟨u,rfl,rx⟩:=vals1 r
 cases rx;obtain ⟨hz,hs,vs,kv,hD⟩:=d0 I.hok hp;obtain ⟨ep,hat⟩:=hD.dictAt;obtain ⟨hview,_⟩:=(show ObjOk X.prog X.w H s.heap v (ViewO v p) from I.hok v _ hv);have el:=kv.length;refine PySem.W.kdl_call (PySem.W.kdl_values (knd:=aQ X.prog X.w) (kvs:=vs) (ep:=ep)) hh ⟨hview,hat⟩ (by rw [<- el];exact hz) λ h' tk acc c hk hD' hacc=>?_;obtain ⟨e1,e2⟩:=hacc;refine ⟨.ref s.heap.objs.size,_,I.laid (t':=tk) hk (fM _) (show ObjOk X.prog X.w _ h' _ (.lst (kvs.map (·.2))) from ⟨by rw [fG];exact hz,acc.toList,c,vals_idx (by rw [fG,el,<- e1];simp) λ j x w a b=>?_,by simpa using hD'⟩),rfl,q _ (I.hok.fresh (fM _))⟩;rw [fN] at a
 cases e:kvs[j]? with
 | none=>rw [e] at a;cases a
 | some z=>
  rw [e] at a
  cases a;obtain ⟨y,hy,ry⟩:=KV.get kv e;obtain ⟨k,hk⟩:=e2 j w (by simpa using b);rw [hy] at hk
  cases hk;exact ry
end
end L2
namespace L2
open PySem PySem.Spec PyProof.Rows
section
variable {X:Cx}
end
section
variable {l:Addr} {k:Nat} {g:TG} {tc:TT} {te:TE} {ρ:St} {R:Hp->Prop} {H₀:Hp}
theorem compG_items {a:Addr} {o:Obj} {kvs:List (Key × V)} (Pv:Nat->Hp->Prop) (h0:Pv 0 (upd H₀ l (.lst []))) (hl:∀ i H,Pv i H->H a=some (.frz o (.dK kvs)))
  (hs:∀ i kv t H,kvs[i]?=some kv->H t=none->Pv i H->∀ zs:St,zs.length=k->g (.ref t) (zs ++ ρ) (upd H t (.tup [kV kv.1,kv.2])) λ σ2 H2=>(∃ zs':St,zs'.length=k/\σ2=zs' ++ ρ)/\tc σ2 H2 λ b H3=>if b=true then te σ2 H3 λ y H4=>∃ ys,H4 l=some (.lst ys)/\ys.length<sizeLine/\d8 kvs.length Pv i (upd H4 l (.lst (ys++[y]))) else d8 kvs.length Pv i H3)
  (hd:∀ H,Pv kvs.length H->R H) :
  ∃ W:Nat->Nat->Hp->Prop,(∃ m,W 0 m (upd H₀ l (.lst [])))/\∀ i m H,W i m H->
   ((Iti a o kvs).stop i H/\R H)∨((Iti a o kvs).go i H/\∀ x H',(Iti a o kvs).yld i H x H'->∀ zs:St,zs.length=k->g x (zs ++ ρ) H' λ σ2 H2=>(∃ zs':St,zs'.length=k/\σ2=zs' ++ ρ)/\tc σ2 H2 λ b H3=>if b=true then te σ2 H3 λ y H4=>∃ ys,H4 l=some (.lst ys)/\ys.length<sizeLine/\∃ m',m'<m/\W (i+1) m' (upd H4 l (.lst (ys++[y]))) else ∃ m',m'<m/\W (i+1) m' H3):=
 fB (n:=kvs.length) Pv h0 (λ i H hi p=>⟨hl i H p,hi⟩) (λ H p=>⟨hl _ H p,fM _⟩) (λ i x H H' hi y p=>by
  obtain ⟨kv,t,hkv,ht,ex,eh⟩:=y;subst ex eh;exact hs i kv t _ hkv ht p) hd
end
section
variable {X:Cx} {CX:CXT} {j:Nat} {E:XK} {m:Str} {pos apos:Pos} {e o:Expr} {es:List Expr} {ta:TE} {t:TA}
theorem pe_mtDK {pl:Sem Bool} {P:Program} {w:World} {K:W.Frag} {mg:Str->Option Value} {base:Heap} (hP:X.prog=P) (hw:X.w=w) (hK:X.K=K) (hmg:X.mg=mg) (hb:X.base=base) (he:PE X o ta) (hr:Room j X.A) (hx:bM CX X E) (ha:PA X (e::es) t)
  (hst:starEach (e::es) X.env=(false,eval e X.env)::starEach es X.env:=by rfl) (hpl:(backTo pos (starEach es X.env)).any (·.1)=false:=by rfl)
  (ht:eval (.Call (.Attribute o m apos) (e::es) [] pos) X.env=(do
   let ov <- eval o X.env
   standAt apos.atName
   let (f,first) <- holding [ov] (getMethod ov m pl)
   callWith pos f first (backTo pos (starEach (e::es) X.env)) (backToKw pos (keywordEach [] X.env))):=by rfl):PE X (.Call (.Attribute o m apos) (e::es) [] pos) (tMethD P w K mg base CX m j E ta t):=by
 subst hP hw hK hmg hb;exact pe_mtD he hr hx ha hst hpl ht
theorem pg_tupK {K:W.Frag} {es:List Expr} {k:Nat} {t:TGs} {n:Nat} (hK:X.K=K) (hc:X.calm=true) (h:PGs X es t)
  (hn:(assignEach es X.env).length=n:=by rfl) (hst:(assignEach es X.env).findIdx? (·.1)=none:=by rfl):PG X (.Tuple es k pos) (gTup K n t):=by
 subst hK;exact pg_tup hc h hn hst
end
section
variable {X:Cx}
end
end L2
namespace L2
open PySem PySem.Spec PyProof.Rows
theorem eqV_str (x y:Str):eqV (.str x) (.str y)=decide (x=y):=by
 unfold eqV;by_cases h:x=y
 ·subst h;simp
 ·simp [h]
theorem flat_strs (ts:List Str):(ts.map V.str).all cj=true:=by
 rw [List.all_eq_true];intro v hv;obtain ⟨t,_,rfl⟩:=fQ.mp hv;rfl
theorem ne_idx {y:Str}:∀ {ts:List Str} {m:Nat},m<ts.idxOf y->ts[m]?≠some y
 | [],_,_=>by simp
 | t::ts,m,h=>by
  rw [List.idxOf_cons] at h;by_cases e:t=y
  ·simp [e] at h
  ·have hb:(t == y)=false:=by simpa using e
   rw [hb] at h
   cases m with
   | zero=>simpa using e
   | succ m=>simpa using ne_idx (ts:=ts) (m:=m) (by simpa using h)
section
variable {X:Cx}
noncomputable def rIndexT (K:W.Frag):V->List V->Hp->VK->Prop:=λ x vs H Q=>∃ (l:Addr) (ts:List Str) (y:Str),x=.ref l/\vs=[.str y]/\SqL K H l (ts.map V.str)/\y∈ts/\Q (.int (ts.idxOf y:Nat)) H
theorem mt_indexT:MtM X "list.index" (rIndexT X.K):=by
 intro pins s σ H x vs v us Q I rx rv h;obtain ⟨l,ts,y,rfl,rfl,hq,hy,q⟩:=h
 cases rx;obtain ⟨u,rfl,ru⟩:=rv.one;obtain ⟨its,r,pl,hz⟩:=I.list hq;have el:=r.length;rw [fG] at el hz;obtain ⟨⟨cls,dd,data,sl⟩,ho,hc,n,hd⟩:=pl.isList;simp only at hc hd;subst hc hd;have hj:ts.idxOf y<ts.length:=List.idxOf_lt_length_iff.mpr hy;have hzz:=gc
 have key:∀ (m:Nat) (hm:m<its.length),eqU (.str y) its[m]=decide (ts[m]'(by omega)=y):=λ m hm=>by
  have g1:(ts.map V.str)[m]?=some (.str (ts[m]'(by omega))):=by rw [fN,fF (by omega)];rfl
  rw [eqU_of (ck r g1 (fF hm)) rfl,eqV_str]
 refine call_meets F.slot_list_index ⟨_,ho,rfl⟩ F.entry_list_index (F.args_list_index_2 _ _) (SeqAt.list_indexAt l its.toArray n dd sl u (eqU (.str y)) (ts.idxOf y) (by rw [fR];omega) (by omega) ?_ ?_) ⟨ho,λ w hw=>fw ru rfl r (flat_strs ts) w (by simpa using hw),?_⟩
 ·rw [g5,key _ (by omega)];exact fV (List.getElem_idxOf hj)
 ·intro m hm hlt;rw [fR] at hm;rw [g5,key _ hm];refine fU λ e=>?_;exact ne_idx hlt (by rw [fF (by omega),e])
 ·exact ⟨.int _,H,I.tok _,⟨_,rfl⟩,q⟩
end
section
variable {prog:Program} {w:World} {A:Around}
variable {E:Value->Shared->Prop} {s:Shared}
end
section
variable {X:Cx}
inductive IrNeL (K:W.Frag) (x:V) (y:V) (H:Hp) (Q:VK):Prop
 | mk (p:_) (q:_) (xs:_) (ys:_) (h1:x=.ref p) (h2:y=.ref q) (h3:SqL K H p xs) (h4:SqL K H q ys) (h5:xs.all cj=true) (h6:ys.all cj=true) (h7:Q (.bl (!eqVs xs ys)) H):IrNeL K x y H Q
end
end L2
namespace L2
open PySem PySem.Spec PyProof.Rows
section
variable {X:Cx}
end
end L2
namespace L2
open PySem PySem.Spec PyProof.Rows
structure RoomH (k:Nat) (A:Around):Prop where
 dp:A.depth+3*k+5<recursionLimit
 un:A.units+16*k+200<cLine
structure FnOkH (P:Program) (w:World) (K:W.Frag) (mg:Str->Option Value) (base:Heap) (CX:CXT) (k:Nat) (f:Addr) (fd:FuncData) (ps:List Str) (sp:Sp):Prop where
 len:∀ vs H Q E,sp vs H Q E->vs.length=ps.length
 run:∀ (A:Around) (outer:List Env) (s:Shared) (H:Hp) (args:Args) (us:List Value) (vs:List V) (Q:VK) (E:XK),RoomH k A->Env0 P w K mg base A outer s H->BindsTo s fd args (ps.zip us)->Vals vs us->sp vs H Q E->
  codeAny (model P w) A (.call (.ref f) args) (CR CX outer P w H s Q E) s
section
variable {P:Program} {w:World} {K:W.Frag} {mg:Str->Option Value} {base:Heap}
end
section
variable {X:Cx} {CX:CXT} {k j:Nat} {f:Addr} {fd:FuncData} {ps:List Str} {sp:Sp} {dvs:List V} {ds:List Value} {E:XK} {x:Str} {p pos:Pos} {e:Expr} {es:List Expr} {t:TA}
end
end L2
namespace L2
open PySem PySem.Spec PyProof.Rows
section
variable {X:Cx}
theorem fj {K:W.Frag} {e:Expr} {f:Str} {pos:Pos} {ta:TE} (hK:X.K=K) (he:PE X e ta) (hb:attributeBase e f X.env (eval e X.env)=eval e X.env):PE X (.Attribute e f pos) (tXf K ta f):=by
 subst hK;exact pe_xfld he hb
end
end L2
namespace L2
open PySem PySem.Spec PyProof.Rows
section
variable {X:Cx}
variable {j:Nat} {m:Str} {pos apos:Pos} {e o:Expr} {es:List Expr} {ta:TE} {t:TA}
end
end L2
namespace L2
open PySem PySem.Spec PyProof.Rows
section
variable {X:Cx}
inductive EqD (K:W.Frag) (H:Hp):Nat->V->V->Prop
 | flat {n:Nat} {v:V} (h:cj v=true):EqD K H n v v
 | lst {n:Nat} {p q:Addr} {xs ys:List V} (hp:SqL K H p xs) (hq:SqL K H q ys) (hl:xs.length=ys.length) (h:∀ (j:Nat) (x y:V),xs[j]?=some x->ys[j]?=some y->EqD K H n x y):EqD K H (n+1) (.ref p) (.ref q)
 | tup {n:Nat} {p q:Addr} {xs ys:List V} (hp:SqT K H p xs) (hq:SqT K H q ys) (hl:xs.length=ys.length) (h:∀ (j:Nat) (x y:V),xs[j]?=some x->ys[j]?=some y->EqD K H n x y):EqD K H (n+1) (.ref p) (.ref q)
theorem eqV_self {v:V} (h:cj v=true):eqV v v=true:=by
 cases v with
 | non=>rfl
 | bl b=>cases b <;> rfl
 | int i=>show (i == i)=true;exact beq_self_eq_true i
 | str z=>show (z == z)=true;exact beq_self_eq_true z
 | _=>exact absurd (show false=true from h) fW
theorem all_tt (n:Nat):(List.range n).all (λ _=>true)=true:=by rw [List.all_eq_true];exact λ _ _=>rfl
theorem EqD.at {pins:List (Addr × Obj)} {σ:St} {H:Hp} {s:Shared} (I:Inv X pins σ H s) {n:Nat} {v u:V} (h:EqD X.K H n v u):∀ {A:Around} {v' u':Value},A.units+n<cLine->RelV v v'->RelV u u'->SeqAt.EqAt A s v' u' true:=by
 induction h with
 | flat h=>
  intro A v' u' _ r1 r2
  have:=eqAt_V (A:=A) (s:=s) r1 r2 h h
  rw [eqV_self h] at this;exact this
 | @lst n p q xs ys hp hq hl h ih=>
  intro A v' u' hu r1 r2
  cases r1
  cases r2;by_cases e:p=q
  ·subst e;exact SeqAt.EqAt.same _
  ·obtain ⟨us,r,pl,_⟩:=I.list hp;obtain ⟨ws,r',pl',_⟩:=I.list hq;have e1:=r.length;have e2:=r'.length
   have:=SeqAt.RcAt.lists (A:=A) (e:=λ _=>true) pl.isList pl'.isList (by rw [fR,fR];omega) (by omega) (λ j h1 h2=>by
    have j1:j<us.length:=by simpa using h1
    have j2:j<ws.length:=by simpa using h2
    have a1:xs[j]?=some (xs[j]'(by omega)):=fF _;have a2:ys[j]?=some (ys[j]'(by omega)):=fF _;rw [g5,g5];exact ih j _ _ a1 a2 (show A.units+1+n<cLine by omega) (ck r a1 (fF j1)) (ck r' a2 (fF j2)))
   rw [all_tt] at this;exact SeqAt.EqAt.of_refs e this
 | @tup n p q xs ys hp hq hl h ih=>
  intro A v' u' hu r1 r2
  cases r1
  cases r2;by_cases e:p=q
  ·subst e;exact SeqAt.EqAt.same _
  ·obtain ⟨us,r,pl,_⟩:=I.tuple hp;obtain ⟨ws,r',pl',_⟩:=I.tuple hq;have e1:=r.length;have e2:=r'.length
   have:=SeqAt.RcAt.tuples (A:=A) (e:=λ _=>true) pl pl' (by omega) (λ j h1 h2=>by
    have j1:j<us.length:=by simpa using h1
    have j2:j<ws.length:=by simpa using h2
    have a1:xs[j]?=some (xs[j]'(by omega)):=fF _;have a2:ys[j]?=some (ys[j]'(by omega)):=fF _;rw [g5,g5];exact ih j _ _ a1 a2 (show A.units+1+n<cLine by omega) (ck r a1 (fF j1)) (ck r' a2 (fF j2)))
   rw [all_tt,fR,fR,show us.length=ws.length by omega,beq_self_eq_true,Bool.and_self] at this;exact SeqAt.EqAt.of_refs e this
end
end L2
namespace L2
open PySem PySem.W PyProof.Rows
noncomputable def KsT {α:Type} (n:Nat) (c:Nat->Nat->Bool):KasT α->(α->Prop)->Prop
 | .ret a,Q=>Q a
 | .ask i j k,Q=>i<n/\j<n/\KsT n c (k (c i j)) Q
section
variable {n:Nat} {c:Nat->Nat->Bool}
theorem KsT.bind {α β:Type} {f:α->KasT β} {Q:β->Prop}:∀ (t:KasT α),KsT n c t (λ a=>KsT n c (f a) Q)->KsT n c (t.bind f) Q
 | .ret _,h=>h
 | .ask _ _ k,h=>⟨h.1,h.2.1,KsT.bind (k _) h.2.2⟩
theorem KsT.mono {α:Type} {Q Q':α->Prop} (hq:∀ a,Q a->Q' a):∀ (t:KasT α),KsT n c t Q->KsT n c t Q'
 | .ret _,h=>hq _ h
 | .ask _ _ k,h=>⟨h.1,h.2.1,KsT.mono hq (k _) h.2.2⟩
theorem KsT.wp {α:Type} {cmp:Nat->Nat->(Bool->Shared->Prop)->Shared->Prop} {G:α->Shared->Prop} {s:Shared} (hc:∀ i j (C:Bool->Shared->Prop),i<n->j<n->C (c i j) s->cmp i j C s):∀ t:KasT α,KsT n c t (λ a=>G a s)->t.kasWp cmp G s
 | .ret _,h=>h
 | .ask i j k,h=>hc i j _ h.1 h.2.1 (KsT.wp hc (k _) h.2.2)
structure KsL (n:Nat) (c:Nat->Nat->Bool):Prop where
 tr:∀ i j k,c i j=true->c j k=true->c i k=true
 tri:∀ i j,i<n->j<n->i≠j->c i j=false->c j i=true
 as:∀ i j,c i j=true->c j i=true->False
structure KsP (n:Nat) (p:Array Nat):Prop where
 z:0<n
 sz:p.size=n
 pm:p.toList.Perm (List.range n)
variable {p:Array Nat}
theorem KsP.at_ (h:KsP n p) {i:Nat} (hi:i<n):p.toList[i]?=some (p.getD i 0):=by
 have:i<p.size:=by rw [h.sz];exact hi
 rw [Array.getElem?_toList];simp [Array.getD,this]
theorem KsP.lt (h:KsP n p) (i:Nat):p.getD i 0<n:=by
 by_cases hi:i<n
 ·exact List.mem_range.mp (h.pm.mem_iff.mp (fK (h.at_ hi)))
 ·have:¬ i<p.size:=by rw [h.sz];exact hi
  simp only [Array.getD,this,dite_false];exact h.z
theorem KsP.ne (h:KsP n p) {i j:Nat} (hi:i<n) (hj:j<n) (e:i≠j):p.getD i 0≠p.getD j 0:=λ q=>
 e ((gL (by rw [ig,h.sz];exact hi) (h.pm.nodup_iff.mpr List.nodup_range)).mp (by rw [h.at_ hi,h.at_ hj,q]))
noncomputable def KsU (c:Nat->Nat->Bool) (p:Array Nat) (m:Nat):Prop:=∀ i j,i<j->j<m->c (p.getD i 0) (p.getD j 0)=true
noncomputable def KsD (c:Nat->Nat->Bool) (p:Array Nat) (m:Nat):Prop:=∀ i j,i<j->j<m->c (p.getD j 0) (p.getD i 0)=true
theorem KsU.snoc (L:KsL n c) {m:Nat} (h:KsU c p m) (hm:1<=m) (e:c (p.getD (m-1) 0) (p.getD m 0)=true):KsU c p (m+1):=λ i j a b=>by
 by_cases hj:j<m
 ·exact h i j a hj
 ·obtain rfl:j=m:=by omega
  by_cases hi:i=j-1
  ·rw [hi];exact e
  ·exact L.tr _ _ _ (h i (j-1) (by omega) (by omega)) e
theorem KsD.snoc (L:KsL n c) {m:Nat} (h:KsD c p m) (hm:1<=m) (e:c (p.getD m 0) (p.getD (m-1) 0)=true):KsD c p (m+1):=λ i j a b=>by
 by_cases hj:j<m
 ·exact h i j a hj
 ·obtain rfl:j=m:=by omega
  by_cases hi:i=j-1
  ·rw [hi];exact e
  ·exact L.tr _ _ _ e (h i (j-1) (by omega) (by omega))
theorem asc_t (L:KsL n c) (hp:KsP n p):∀ (f a:Nat),1<=a->a+f=n->KsU c p a->KsT n c (kas_asc p f a) (λ m=>a<=m/\m<=n/\KsU c p m/\(m<n->c (p.getD m 0) (p.getD (m-1) 0)=true))
 | 0,a,_,e,U=>⟨fM _,by omega,U,λ h=>by omega⟩
 | f+1,a,h1,e,U=>by
  refine ⟨hp.lt _,hp.lt _,?_⟩
  cases hc:c (p.getD a 0) (p.getD (a-1) 0) with
  | true=>exact ⟨fM _,by omega,U,λ _=>hc⟩
  | false=>
   exact KsT.mono (λ m h=>⟨by omega,h.2⟩) _ (asc_t L hp f (a+1) (by omega) (by omega) (U.snoc L h1 (L.tri _ _ (hp.lt _) (hp.lt _) (hp.ne (by omega) (by omega) (by omega)) hc)))
theorem desc_t (L:KsL n c) (hp:KsP n p):∀ (f k:Nat),1<=k->k+f=n->KsD c p k->KsT n c (kas_desc f p k 0) (λ r=>r.1=p/\r.2.2=0/\k<=r.2.1/\r.2.1<=n/\KsD c p r.2.1)
 | 0,k,_,e,D=>⟨rfl,rfl,fM _,by show k<=n;omega,D⟩
 | f+1,k,h1,e,D=>by
  refine ⟨hp.lt _,hp.lt _,?_⟩
  cases hc:c (p.getD k 0) (p.getD (k-1) 0) with
  | true=>
   exact KsT.mono (λ m h=>⟨h.1,h.2.1,by omega,h.2.2.2⟩) _ (desc_t L hp f (k+1) (by omega) (by omega) (D.snoc L h1 hc))
  | false=>
   refine ⟨hp.lt _,hp.lt _,?_⟩;rw [L.tri _ _ (hp.lt _) (hp.lt _) (hp.ne (by omega) (by omega) (by omega)) hc];exact ⟨rfl,rfl,fM _,by show k<=n;omega,D⟩
theorem getD_q {a:Array Nat} {i:Nat} {x:Nat} (h:a[i]?=some x):a.getD i 0=x:=by
 obtain ⟨hi,e⟩:=ic.mp h;simp [Array.getD,hi,e]
theorem rev_at (hp:KsP n p) {k:Nat} (hk:k<=n) {i:Nat} (hi:i<n):(kas_rev p 0 k).getD i 0=p.getD (if i<k then k-1-i else i) 0:=by
 refine getD_q ?_;unfold kas_rev;rw [getElem?_mirror_all (by rw [hp.sz];exact hk)];have q:∀ j,j<n->p[j]?=some (p.getD j 0):=λ j hj=>by rw [<- Array.getElem?_toList];exact hp.at_ hj
 split
 ·rename_i h;rw [if_pos h.2,show 0+k-1-i=k-1-i by omega];exact q _ (by omega)
 ·rename_i h;rw [if_neg (by omega)];exact q _ hi
theorem rev_pp (hp:KsP n p) (k:Nat):KsP n (kas_rev p 0 k):=⟨hp.z,by rw [kas_rev_size];exact hp.sz,(Array.perm_iff_toList_perm.mp (mirror_perm _ _ _ _)).trans hp.pm⟩
theorem rev_up (hp:KsP n p) {k:Nat} (hk:k<=n) (D:KsD c p k):KsU c (kas_rev p 0 k) k:=λ i j a b=>by
 rw [rev_at hp hk (by omega),rev_at hp hk (by omega),if_pos (by omega),if_pos b];exact D _ _ (by omega) (by omega)
theorem tail_t (L:KsL n c) (hp:KsP n p) {k:Nat} (h1:1<=k) (hk:k<=n) (D:KsD c p k):KsT n c (kas_tail3 k n p) (λ r=>KsP n r.2/\r.1<=n/\1<=r.1/\KsU c r.2 r.1):=by
 unfold kas_tail3;exact KsT.bind _ (KsT.mono (λ m h=>⟨rev_pp hp k,h.2.1,by show 1<=m;omega,h.2.2.1⟩) _ (asc_t L (rev_pp hp k) (n-k) k h1 (by omega) (rev_up hp hk D)))
theorem count_t (L:KsL n c) (hp:KsP n p) (h2:2<=n):KsT n c (kas_count n p) (λ r=>KsP n r.2/\r.1<=n/\1<=r.1/\KsU c r.2 r.1):=by
 unfold kas_count;refine KsT.bind _ (KsT.mono (λ m h=>?_) _ (asc_t L hp (n-1) 1 (fM _) (by omega) λ i j a b=>by omega));obtain ⟨m1,mn,U,st⟩:=h
 split
 ·exact ⟨hp,mn,m1,U⟩
 ·rename_i ne;have ne':m≠n:=λ e=>ne (by rw [e];exact beq_self_eq_true n)
  split
  ·refine ⟨hp.lt _,hp.lt _,?_⟩;rw [U 0 (m-1) (by omega) (by omega)];exact ⟨hp,mn,m1,U⟩
  ·obtain rfl:m=1:=by omega
   unfold kas_descPart;refine KsT.bind _ (KsT.mono (λ r h=>?_) _ (desc_t L hp (n-2) 2 (by omega) (by omega) λ i j a b=>?_))
   ·obtain ⟨e1,e2,e3,e4,D⟩:=h;rw [e2,if_neg (by decide),e1];exact tail_t L hp (by omega) e4 D
   ·obtain rfl:i=0:=by omega
    obtain rfl:j=1:=by omega
    exact st (by omega)
theorem place_t (L:KsL n c) (hp:KsP n p) {k:Nat} (hk:k<n):∀ (f l r:Nat),r-l<=f->l<=r->r<=k->KsU c p k->(∀ i,i<l->c (p.getD i 0) (p.getD k 0)=true)->(∀ i,r<=i->i<k->c (p.getD k 0) (p.getD i 0)=true)->
  KsT n c (kas_place p k f l r) (λ m=>m<=k/\(∀ i,i<m->c (p.getD i 0) (p.getD k 0)=true)/\∀ i,m<=i->i<k->c (p.getD k 0) (p.getD i 0)=true)
 | 0,l,r,h1,h2,h3,U,A,B=>⟨by omega,A,λ i a b=>B i (by omega) b⟩
 | f+1,l,r,h1,h2,h3,U,A,B=>by
  show KsT n c (if l ≥ r then _ else _) _
  split
  ·exact ⟨by omega,A,λ i a b=>B i (by omega) b⟩
  ·refine ⟨hp.lt _,hp.lt _,?_⟩;generalize hm:(l+r) / 2=m;have m1:l<=m:=by omega
   have m2:m<r:=by omega
   cases hc:c (p.getD k 0) (p.getD m 0) with
   | true=>
    refine place_t L hp hk f l m (by omega) m1 (by omega) U A λ i a b=>?_;by_cases e:m=i
    ·rw [<- e];exact hc
    ·exact L.tr _ _ _ hc (U m i (by omega) b)
   | false=>
    have hc':=L.tri _ _ (hp.lt _) (hp.lt _) (hp.ne hk (by omega) (by omega)) hc;refine place_t L hp hk f (m+1) r (by omega) (by omega) h3 U (λ i a=>?_) B;by_cases e:i=m
    ·rw [e];exact hc'
    ·exact L.tr _ _ _ (U i m (by omega) (by omega)) hc'
theorem bub_at (hp:KsP n p) {k l:Nat} (hk:k<n) (hl:l<=k) {i:Nat} (hi:i<n):(bubble p k (k-l)).getD i 0=p.getD (if i=l then k else if l<i/\i<=k then i-1 else i) 0:=by
 refine getD_q ?_;have q:∀ j,j<n->p[j]?=some (p.getD j 0):=λ j hj=>by rw [<- Array.getElem?_toList];exact hp.at_ hj
 rw [getElem?_bubble (by rw [hp.sz];exact hk) (k-l) (by omega),show k-(k-l)=l by omega]
 split
 ·exact q _ hk
 ·split
  ·exact q _ (by omega)
  ·exact q _ hi
theorem bin_t (L:KsL n c):∀ (f:Nat) (p:Array Nat) (k:Nat),KsP n p->1<=k->k+f=n->KsU c p k->KsT n c (kas_bin f p k) (λ q=>KsP n q/\KsU c q n)
 | 0,p,k,hp,h1,e,U=>⟨hp,by rw [<- e];exact U⟩
 | f+1,p,k,hp,h1,e,U=>by
  have hk:k<n:=by omega
  show KsT n c ((kas_place p k k 0 k).bind _) _;refine KsT.bind _ (KsT.mono (λ l h=>?_) _ (place_t L hp hk k 0 k (by omega) (by omega) (fM _) U (λ i a=>by omega) λ i a b=>by omega));obtain ⟨hl,A,B⟩:=h;refine bin_t L f _ (k+1) ⟨hp.z,by rw [bubble_size];exact hp.sz,(Array.perm_iff_toList_perm.mp (bubble_perm _ _ _)).trans hp.pm⟩ (by omega) (by omega) λ i j a b=>?_;rw [bub_at hp hk hl (by omega),bub_at hp hk hl (by omega)];by_cases e1:i=l
  ·rw [if_pos e1,if_neg (by omega),if_pos (by omega)];exact B _ (by omega) (by omega)
  ·rw [if_neg e1];by_cases e2:l<i/\i<=k
   ·rw [if_pos e2,if_neg (by omega),if_pos (by omega)];exact U _ _ (by omega) (by omega)
   ·rw [if_neg e2];by_cases e3:j=l
    ·rw [if_pos e3];exact A _ (by omega)
    ·rw [if_neg e3]
     split
     ·exact U _ _ (by omega) (by omega)
     ·exact U _ _ a (by omega)
theorem sort_t (L:KsL n c) (h2:2<=n):KsT n c (kas_sort n) (λ q=>KsP n q/\KsU c q n):=by
 unfold kas_sort;have hp:KsP n (List.toArray (List.range n)):=⟨by omega,by rw [fR,List.length_range],.refl _⟩;refine KsT.bind _ (KsT.mono (λ r h=>?_) _ (count_t L hp h2));obtain ⟨hq,rn,r1,U⟩:=h
 split
 ·rw [Nat.max_eq_left r1];exact bin_t L _ _ _ hq r1 (by omega) U
 ·have e:r.1=n:=by omega
  rw [e] at U;exact ⟨hq,U⟩
end
end L2
namespace L2
open PySem PySem.W PySem.Spec PyProof.Rows
noncomputable def pLt (a b:Str × Str):Bool:=if a.1=b.1 then decide (a.2.cps.toList<b.2.cps.toList) else decide (a.1.cps.toList<b.1.cps.toList)
theorem cps_ext {a b:Str} (h:a.cps.toList=b.cps.toList):a=b:=by
 obtain ⟨a⟩:=a;obtain ⟨b⟩:=b;have e:a=b:=Array.toList_inj.mp h;rw [e]
theorem pLt_tr {a b c:Str × Str} (h1:pLt a b=true) (h2:pLt b c=true):pLt a c=true:=by
 unfold pLt at *;by_cases e1:a.1=b.1 <;> by_cases e2:b.1=c.1
 ·rw [if_pos e1] at h1;rw [if_pos e2] at h2;rw [if_pos (e1.trans e2)];exact fV (List.lt_trans (ie h1) (ie h2))
 ·rw [if_neg e2] at h2;rw [e1,if_neg e2];exact h2
 ·rw [if_neg e1] at h1;rw [<- e2,if_neg e1];exact h1
 ·rw [if_neg e1] at h1;rw [if_neg e2] at h2;have h:=List.lt_trans (ie h1) (ie h2);rw [if_neg (λ e=>by rw [e] at h;exact List.lt_irrefl _ h)];exact fV h
theorem pLt_as {a b:Str × Str} (h1:pLt a b=true) (h2:pLt b a=true):False:=by
 have h:=pLt_tr h1 h2;unfold pLt at h;rw [if_pos rfl] at h;exact List.lt_irrefl _ (ie h)
theorem cps_tri {a b:Str} (h:¬ a.cps.toList<b.cps.toList) (ne:a≠b):b.cps.toList<a.cps.toList:=by
 refine Decidable.byContradiction λ h'=>ne (cps_ext (List.le_antisymm (List.not_lt.mp h') (List.not_lt.mp h)))
theorem pLt_tri {a b:Str × Str} (h:pLt a b=false) (ne:a≠b):pLt b a=true:=by
 unfold pLt at *;by_cases e:a.1=b.1
 ·rw [if_pos e] at h;rw [if_pos e.symm];exact fV (cps_tri (of_decide_eq_false h) λ q=>ne (Prod.ext e q))
 ·rw [if_neg e] at h;rw [if_neg (ib e)];exact fV (cps_tri (of_decide_eq_false h) e)
section
variable {prog:Program} {w:World} {A:Around} {E:Value->Shared->Prop} {s:Shared}
noncomputable def TwoT (h:Heap) (v:Value) (e:Str × Str):Prop:=∃ x o t1 t2 n,v=.ref x/\h.get? x=some o/\o.cls=.type "tuple"/\o.data=.seq #[.str e.1 t1,.str e.2 t2] n
theorem lt_two {v u:Value} {e f:Str × Str} {Q:Bool->Shared->Prop} (h1:TwoT s.heap v e) (h2:TwoT s.heap u f) (h:Q (pLt e f) s):wpAny (model prog w) A (keyLt' (tuples' true) v u) Q E s:=by
 obtain ⟨x,o,t1,t2,n,rfl,ho,_,hd⟩:=h1;obtain ⟨y,o',t3,t4,n',rfl,ho',_,hd'⟩:=h2;refine kat_lt ho hd ho' hd' ?_;refine kat_cons (wpAny_eqBool_str ?_);unfold pLt at h;by_cases e1:e.1=f.1
 ·rw [fV e1];rw [if_pos e1] at h;refine kat_yes (kat_cons (wpAny_eqBool_str ?_));by_cases e2:e.2=f.2
  ·rw [fV e2];refine kat_yes (kat_nil ?_);rw [e2] at h
   have:(decide (f.2.cps.toList<f.2.cps.toList))=false:=fU (List.lt_irrefl _)
   rw [this] at h;exact h
  ·rw [fU e2];exact kat_no (kat_one _ _ (lt_str h))
 ·rw [fU e1];rw [if_neg e1] at h;exact kat_no (oneLt_str h)
theorem sort_two {a:Addr} {vs:List Value} {fs:List (Str × Str)} {n:Nat} {P:PySem.Fin->Shared->Prop} (ho:s.heap.get? a=some (seqObj "list" vs.toArray n)) (hl:vs.length=fs.length)
  (tw:∀ (i:Nat) v e,vs[i]?=some v->fs[i]?=some e->TwoT s.heap v e/\v≠.ref a) (nd:fs.Nodup) (h64:vs.length<64)
  (h:∀ (out:Array Value) (q:List Nat),q.Perm (List.range vs.length)->out.toList=q.map (λ i=>vs.getD i Value.none)->q.Pairwise (λ i j=>pLt (fs.getD i ("","")) (fs.getD j ("",""))=true)->P (.done (.ret .none)) { s with heap:=sortedHeap s.heap a vs out }) :
  wpAny (model prog w) A (Builtin.«list.sort» ⟨[.ref a],[]⟩) P E s:=by
 have ha:a<s.heap.objs.size:=fT ho;obtain ⟨e1,ho1⟩:∃ k,(s.heap.update a (Obj.mapSeq λ _=>(#[]:Array Value))).get? a=some (seqObj "list" #[] k):=⟨_,get?_update_seq ho λ _=>#[]⟩
 have kp:∀ b u,b≠a->s.heap.get? b=some u->(((s.heap.update a (Obj.mapSeq λ _=>(#[]:Array Value))).push (seqObj "tuple" vs.toArray 0)).push (seqObj "list" #[] 0)).get? b=some u:=λ b u nb hb=>by
  refine fJ _ (fJ _ ?_);rw [Heap.get?_update_ne _ _ _ _ nb];exact hb
 have ho6:(((s.heap.update a (Obj.mapSeq λ _=>(#[]:Array Value))).push (seqObj "tuple" vs.toArray 0)).push (seqObj "list" #[] 0)).get? a=some (seqObj "list" #[] e1):=fJ _ (fJ _ ho1);rw [list_sort_plain];refine fH (listItems_at ho rfl ?_);refine fH (listUpdate_at ho rfl ?_ (by rw [fR,iy];omega) (fY _));refine fH (seqEpoch_at ho1 rfl ?_);refine fH (wpAny_newTuple ?_ (by show vs.length<=_;rw [iy];omega));refine fH (wpAny_newList ?_ (fY _));refine iq ?_;show wpAny (model prog w) A _ P E { s with heap:=((s.heap.update a (Obj.mapSeq λ _=>#[])).push (seqObj "tuple" vs.toArray 0)).push (seqObj "list" #[] 0) };dsimp only;by_cases h2:vs.toArray.size<2
 ·have h2':vs.length<2:=by simpa using h2
  rw [if_pos h2,if_pos h2];refine fH (fS ?_);rw [StateT.run_pure];refine fH (fS ?_);dsimp only;refine fH (seqEpoch_at ho6 rfl ?_);refine fH (listUpdate_at ho6 rfl ?_ (hsz2:=by rw [Array.size_map];show (pairsOf vs).size<=_;rw [pairsOf_size,iy];omega));simp only [bne_self_eq_false,g4,if_false];refine fS (h _ (List.range vs.length) (.refl _) ?_ ?_)
  ·show ((pairsOf vs).map (·.2)).toList=_;rw [Array.toList_map,pairsOf_toList,List.map_snd_zip (fM _)]
   match vs,h2' with
   | [],_=>rfl
   | [_],_=>rfl
  ·match vs,h2' with
   | [],_=>exact .nil
   | [_],_=>exact List.pairwise_singleton _ _
 ·have h2':2<=vs.length:=by simp at h2;omega
  rw [if_neg h2,if_neg h2]
  have at6:∀ i,i<vs.length->TwoT (((s.heap.update a (Obj.mapSeq λ _=>(#[]:Array Value))).push (seqObj "tuple" vs.toArray 0)).push (seqObj "list" #[] 0)) (vs.getD i Value.none) (fs.getD i ("","")):=λ i hi=>by
   have ev:vs[i]?=some (vs.getD i Value.none):=by rw [fP,fF hi];rfl
   have ef:fs[i]?=some (fs.getD i ("","")):=by rw [fP,fF (by omega)];rfl
   obtain ⟨⟨x,o,t1,t2,m,e,hx,hc,hd⟩,ne⟩:=tw i _ _ ev ef;exact ⟨x,o,t1,t2,m,e,kp x o (λ z=>ne (by rw [e,z])) hx,hc,hd⟩
  have lin:KsL vs.length (λ i j=>pLt (fs.getD i ("","")) (fs.getD j ("",""))):=by
   refine ⟨λ i j k=>pLt_tr,λ i j hi hj ne q=>pLt_tri q λ e=>ne ?_,λ i j=>pLt_as⟩;refine (gL (l:=fs) (by omega) nd).mp ?_;rw [fP,fP,fF (by omega),fF (by omega)] at e;rw [fF (by omega),fF (by omega)];exact gK some e
  generalize hh6:(((s.heap.update a (Obj.mapSeq λ _=>(#[]:Array Value))).push (seqObj "tuple" vs.toArray 0)).push (seqObj "list" #[] 0))=h6 at ho6 at6
  obtain ⟨ks,hks,lks,sks⟩:∃ ks:List Value,KatTups h6 vs ks/\ks.length=vs.length/\∀ v∈ks,∃ x t,v=.str x t:=by
   have gen:∀ (l:List Value),(∀ v∈l,∃ e,TwoT h6 v e)->∃ ks:List Value,KatTups h6 l ks/\ks.length=l.length/\∀ v∈ks,∃ x t,v=.str x t:=λ l=>by
    induction l with
    | nil=>exact λ _=>⟨[],.nil,rfl,λ v hv=>nomatch hv⟩
    | cons y r ih=>
     intro hy;obtain ⟨ks,k1,k2,k3⟩:=ih λ v hv=>hy v (gC _ hv);obtain ⟨e,x,o,t1,t2,m,rfl,hx,hc,hd⟩:=hy y gR;refine ⟨.str e.1 t1::ks,.cons hx hc hd rfl k1,by rw [gG,gG,k2],λ v hv=>?_⟩;rcases gw.mp hv with q | q
     ·exact ⟨_,_,q⟩
     ·exact k3 v q
   refine gen vs λ v hv=>?_;obtain ⟨i,hi,e⟩:=List.mem_iff_getElem.mp hv
   have:=at6 i hi
   rw [fP,fF hi] at this;exact ⟨_,by rw [<- e];exact this⟩
  refine fH (kat_kind (s:={ s with heap:=h6 }) (T:=.type "str") hks (by omega) (λ v hv=>?_) rfl ?_)
  ·obtain ⟨x,t,rfl⟩:=sks v hv;exact .now
  refine fH (gD (kat_run (Q:=λ st' s'=>s' = { s with heap:=h6 }/\failedOf st'=none/\∃ p:Array Nat,arrOf st'=p.map (kas_item (vs.toArray.zip vs.toArray))/\KsP vs.length p/\KsU (λ i j=>pLt (fs.getD i ("","")) (fs.getD j ("",""))) p vs.length)
   (G:=λ p s'=>s' = { s with heap:=h6 }/\KsP vs.length p/\KsU (λ i j=>pLt (fs.getD i ("","")) (fs.getD j ("",""))) p vs.length) rfl h2' h64 (λ p st' s' a1 a2 a3 a4=>⟨a4.1,a3,p,a2,a4.2⟩) ?_) ?_ λ _ _ e=>e)
  ·refine KsT.wp (n:=vs.length) (c:=λ i j=>pLt (fs.getD i ("","")) (fs.getD j ("",""))) (λ i j C hi hj hC=>?_) _ (KsT.mono (λ p hp=>⟨rfl,hp⟩) _ (sort_t lin h2'));exact lt_two (s:={ s with heap:=h6 }) (at6 i hi) (at6 j hj) hC
  rintro ⟨⟨⟩,st'⟩ s' ⟨rfl,hf,p,har,hp,hU⟩;dsimp only;have hout:=kat_snds rfl har;have hsz:((arrOf st').map (·.2)).size=vs.length:=by rw [hout,fR,fG,ig,hp.sz]
  refine fH (seqEpoch_at (s:={ s with heap:=h6 }) ho6 rfl ?_);refine fH (listUpdate_at (s:={ s with heap:=h6 }) ho6 rfl ?_ (fY _) (by rw [hsz,iy];omega));rw [hf];simp only [bne_self_eq_false,g4,if_false];refine fS ?_;rw [<- hh6];refine h _ p.toList hp.pm (by rw [hout]) (List.pairwise_iff_getElem.mpr λ i j hi hj lt=>?_)
  have q:∀ k (hk:k<p.toList.length),p.toList[k]=p.getD k 0:=λ k hk=>by
   have:=hp.at_ (i:=k) (by rw [<- hp.sz,<- ig];exact hk)
   rw [fF hk] at this;exact f9 this
  rw [q,q];exact hU i j lt (by rw [<- hp.sz,<- ig];exact hj)
end
section
variable {X:Cx}
theorem dH (hh:X.A.handled=none):d9 X (.builtin "sorted") (λ xs H Q=>∃ (p:Addr) (ts:List V) (fs:List (Str × Str)),xs=[.ref p]/\SqL X.K H p ts/\ts.length=fs.length/\(∀ (i:Nat) v e,ts[i]?=some v->fs[i]?=some e->∃ t,v=.ref t/\H t=some (.tup [.str e.1,.str e.2]))/\fs.Nodup/\fs.length<64/\
  ∀ l (q:List Nat),H l=none->q.Perm (List.range fs.length)->(q.map λ i=>fs.getD i ("","")).Pairwise (λ a b=>pLt a b=true)->Q (.ref l) (upd H l (.lst (q.map λ i=>ts.getD i .non)))):=by
 intro pins s σ H xs us Q I r h;obtain ⟨p,ts,fs,rfl,hq,hl,tw,nd,h64,k⟩:=h;obtain ⟨u,rfl,rx⟩:=vals1 r
 cases rx;obtain ⟨vs,rv,pl,hz⟩:=I.list hq;have el:=rv.length
 have tw':∀ (i:Nat) v e,vs[i]?=some v->fs[i]?=some e->TwoT s.heap v e:=λ i v e hv he=>by
  obtain ⟨hi,_⟩:=fL.mp hv;obtain ⟨t,ht⟩:∃ t,ts[i]?=some t:=⟨_,fF (by omega)⟩;obtain ⟨x,rfl,hx⟩:=tw i t e ht he;have rr:=ck rv ht hv
  cases rr;obtain ⟨ws,r2,⟨o,g,hc,n,hd⟩,_⟩:=I.tuple (SqT.of (K:=X.K) hx)
  cases r2 with
  | cons q1 r3=>
   cases r3 with
   | cons q2 r4=>
    cases r4;obtain ⟨t1,rfl⟩:=q1;obtain ⟨t2,rfl⟩:=q2;exact ⟨x,o,t1,t2,n,rfl,g,hc,hd⟩
 refine Calls.call_function_entry kind_sorted plain_sorted entry_sorted (args_sorted1 _) ?_;unfold Builtin.«sorted»;refine fH (m:=checkCount "sorted" 1 1 _) (fS ?_);refine fH (collect_list pl.isList ?_ (by rw [iy];omega));refine fH (wpAny_newList ?_ (by rw [iy];omega));have hsz:((s.heap.push (seqObj "list" #[] 0)).update s.heap.objs.size (Obj.mapSeq (· ++ vs.toArray))).objs.size=s.heap.objs.size+1:=by rw [Heap.size_update,size_push']
 generalize hh1:(s.heap.push (seqObj "list" #[] 0)).update s.heap.objs.size (Obj.mapSeq (· ++ vs.toArray))=h' at hsz
 have hk':∀ b o,s.heap.get? b=some o->h'.get? b=some o:=λ b o q=>by
  have hlt:b<s.heap.objs.size:=fT q;rw [<- hh1,Heap.get?_update_ne _ _ _ _ (gF hlt)];exact fJ _ q
 have hoL:(h'.push (seqObj "list" vs.toArray 0)).get? h'.objs.size=some (seqObj "list" vs.toArray 0):=gm _ rfl;show wpAny _ _ _ _ _ { s with heap:=h'.push (seqObj "list" vs.toArray 0) };have old:∀ b o,s.heap.get? b=some o->b<h'.objs.size:=λ b o z=>fT (hk' b o z);refine fH (iq (wpAny_call_entry slot_list_sort ⟨_,hoL,rfl⟩ entry_list_sort (sort_two (s:={ s with heap:=h'.push (seqObj "list" vs.toArray 0) }) (fs:=fs) hoL (by omega) (λ i v e hv he=>?_) nd (by omega) λ out q q1 q2 q3=>⟨_,rfl,?_⟩) (args_list_sort _)))
 ·obtain ⟨x,o,t1,t2,n,rfl,g,hc,hd⟩:=tw' i v e hv he;exact ⟨⟨x,o,t1,t2,n,rfl,fJ _ (hk' _ _ g),hc,hd⟩,λ z=>by cases z;exact absurd (old _ _ g) (gY _)⟩
 obtain ⟨e,hat'⟩:=sortedHeap_at (out:=out) hoL;refine fS ⟨_,rfl,?_⟩
 have keep:∀ b o,s.heap.get? b=some o->(sortedHeap (h'.push (seqObj "list" vs.toArray 0)) h'.objs.size vs out).get? b=some o:=λ b o z=>by
  have:=old b o z
  rw [sortedHeap_old (gF this) (by rw [size_push'];exact Nat.lt_succ_of_lt this)];exact fJ _ (hk' b o z)
 have hn:H h'.objs.size=none:=by
  cases e:H h'.objs.size with
  | none=>rfl
  | some ob=>exact absurd (I.hok.kept hk' _ _ e).lt (gY _)
 have I1:=I.kept (t':=s.toks) keep;rw [<- el,hl] at q1
 have vo:Vals (q.map λ i=>ts.getD i .non) out.toList:=by
  rw [q2]
  have gen:∀ l:List Nat,(∀ i∈l,i<ts.length)->Vals (l.map λ i=>ts.getD i .non) (l.map λ i=>vs.getD i Value.none):=λ l=>by
   induction l with
   | nil=>exact λ _=>.nil
   | cons i r ih=>
    intro hi;have i1:=hi i gR;refine .cons ?_ (ih λ j hj=>hi j (gC _ hj));show RelV (ts.getD i .non) (vs.getD i Value.none);rw [fP,fP,fF i1,fF (by omega)];exact ck rv (fF i1) (fF (by omega))
  exact gen q λ i hi=>by have:=List.mem_range.mp (q1.mem_iff.mp hi);omega
 have lq:q.length=fs.length:=by rw [q1.length_eq,List.length_range]
 refine ⟨.ref h'.objs.size,_,I1.trackI (t:=h'.objs.size) (o:=.lst (q.map λ i=>ts.getD i .non)) ?_ hn ?_ (λ x c e z=>?_) (λ p hp z=>?_) (λ c o q'=>?_),rfl,k _ q hn q1 (List.pairwise_map.mpr q3)⟩
 ·obtain ⟨_,hL,_⟩:=I.loc;obtain ⟨_,_,_,z,_⟩:=hL;exact fO I.ok.above (Nat.le_of_lt (old _ _ z))
 ·obtain ⟨_,hL,_⟩:=I.loc;obtain ⟨_,_,_,z,_⟩:=hL;exact Nat.ne_of_gt (old _ _ z)
 ·obtain ⟨v,⟨o,q,_⟩⟩:=I.cell x c e;exact absurd (old _ _ q) (by rw [z];exact gY _)
 ·exact absurd (old _ _ (I.pin p hp).1) (by rw [z];exact gY _)
 ·by_cases hb:c=h'.objs.size
  ·subst hb;rw [ae] at q'
   cases q';exact ⟨by rw [fG,lq,iy];omega,out.toList,e,vo,by rw [Array.toArray_toList];exact hat'⟩
  ·rw [ai hb] at q';exact (I1.hok c o q').stay (λ _ _ _ q=>q) (λ c q=>by rw [ai (av q hn)];exact q) λ c xs q=>by rw [ai (av q hn)];exact q
end
end L2
namespace L2
open PySem PySem.Spec PyProof.Rows
section
variable {X:Cx}
noncomputable def rDeL (K:W.Frag) (b:Bool):R2:=λ x y H Q=>∃ p q xs ys,x=.ref p/\y=.ref q/\SqL K H p xs/\SqL K H q ys/\xs.length=ys.length/\(∀ (j:Nat) (x y:V),xs[j]?=some x->ys[j]?=some y->EqD K H 20 x y)/\Q (.bl b) H
theorem deL_at {pins:List (Addr × Obj)} {σ:St} {H:Hp} {s:Shared} {xs ys:List V} {us ws:List Value} (I:Inv X pins σ H s) (r:Vals xs us) (r':Vals ys ws) (hd:∀ (j:Nat) (x y:V),xs[j]?=some x->ys[j]?=some y->EqD X.K H 20 x y) {A:Around} (hu:A.units+20<cLine) (j:Nat) (h1:j<us.toArray.size) (h2:j<ws.toArray.size):SeqAt.EqAt A s us.toArray[j] ws.toArray[j] true:=by
 have e1:=r.length;have e2:=r'.length;have j1:j<us.length:=by simpa using h1
 have j2:j<ws.length:=by simpa using h2
 have a1:xs[j]?=some (xs[j]'(by omega)):=fF _;have a2:ys[j]?=some (ys[j]'(by omega)):=fF _;rw [g5,g5];exact (hd j _ _ a1 a2).at I hu (ck r a1 (fF j1)) (ck r' a2 (fF j2))
theorem op_neDL (hu:X.A.units+64<cLine):OpR X (compareOp .NotEq) (rDeL X.K false):=by
 intro pins s σ H x y v u Q I rx ry h;obtain ⟨p,q,xs,ys,rfl,rfl,hp,hq,hl,hd,k⟩:=h
 cases rx
 cases ry;obtain ⟨us,r,pl,_⟩:=I.list hp;obtain ⟨ws,r',pl',_⟩:=I.list hq;have e1:=r.length;have e2:=r'.length;refine SeqAt.RcNeAt.lists (e:=λ _=>true) pl.isList pl'.isList (by rw [fR,fR];omega) (by omega) (λ j h1 h2=>deL_at I r r' hd (show X.A.units+1+20<cLine by omega) j h1 h2) X.prog X.w X.xe _ ⟨.bl _,H,I,rfl,?_⟩;rw [all_tt];exact k
theorem op_eqDL (hu:X.A.units+64<cLine):OpR X (compareOp .Eq) (rDeL X.K true):=by
 intro pins s σ H x y v u Q I rx ry h;obtain ⟨p,q,xs,ys,rfl,rfl,hp,hq,hl,hd,k⟩:=h
 cases rx
 cases ry;obtain ⟨us,r,pl,_⟩:=I.list hp;obtain ⟨ws,r',pl',_⟩:=I.list hq;have e1:=r.length;have e2:=r'.length;refine SeqAt.eq_listAt (e:=λ _=>true) pl.isList pl'.isList (by rw [fR,fR];omega) (by omega) (λ j h1 h2=>deL_at I r r' hd (show X.A.units+1+20<cLine by omega) j h1 h2) ⟨.bl _,H,I,rfl,?_⟩;rw [all_tt];exact k
end
end L2
namespace G
noncomputable def gcd (a b:Int):Int:=(Int.gcd a b:Int)
theorem gcd_nonneg (a b:Int):0<=gcd a b:=Int.natCast_nonneg _
theorem gcd_zero (a:Int) (h:0<=a):gcd a 0=a:=by
 unfold gcd;rw [Int.gcd_zero_right];omega
theorem gcd_abs (a b:Int):gcd (if a<0 then -a else a) (if b<0 then -b else b)=gcd a b:=by
 unfold gcd;congr 1
 split <;> split <;> simp [Int.neg_gcd,Int.gcd_neg]
theorem gcd_step (a b:Int) (hb:0<b):gcd b (a % b)=gcd a b:=by
 unfold gcd;congr 1;rw [Int.gcd_comm b];have e:a=a % b+(a / b)*b:=by have:=Int.emod_add_mul_ediv a b;rw [gP] at this;omega
 have h:=Int.gcd_add_mul_right_left b (a % b) (a / b);rw [<- e] at h;exact h.symm
theorem dc (a b:Nat):(a:Int).fdiv (b:Int)=((a / b:Nat):Int):=by
 rw [Int.fdiv_eq_ediv_of_nonneg _ (Int.natCast_nonneg _)];rfl
theorem dr (x:Rat):(0:Int)<(x.den:Int):=by have:=x.den_nz;omega
theorem gcd_den (x:Rat):gcd x.num x.den=1:=by
 have h:=x.reduced;have e:Int.gcd x.num x.den=1:=h;unfold gcd;rw [e];rfl
theorem init_spec (a b:Int) (hb:b≠0):a.fdiv (if b<0 then -(gcd a b) else gcd a b)=(Rat.divInt a b).num/\b.fdiv (if b<0 then -(gcd a b) else gcd a b)=((Rat.divInt a b).den:Int):=by
 have gp:0<Int.gcd a b:=Int.gcd_pos_of_ne_zero_right a hb;obtain ⟨k,hk⟩:=im a b;obtain ⟨m,hm⟩:=Int.gcd_dvd_right a b;have gz:(Int.gcd a b:Int)≠0:=by omega
 rw [Rat.num_divInt,Rat.den_divInt,if_neg hb,Int.gcd_comm b a];unfold gcd;generalize hgg:Int.gcd a b=g at *;have e1:∀ z:Int,(g*z).fdiv g=z:=λ z=>by rw [gP,Int.mul_fdiv_cancel _ gz]
 have e2:∀ z:Int,(g*z).fdiv (-(g:Int)) = -z:=λ z=>by
  have:(g:Int)*z=(-z)*(-(g:Int)):=by rw [Int.neg_mul_neg,gP]
  rw [this,Int.mul_fdiv_cancel _ (by omega)]
 by_cases hs:b<0
 ·rw [if_pos hs,Int.sign_eq_neg_one_of_neg hs];constructor
  ·conv=>lhs;rw [hk,e2]
   have:-1*a = -k*g:=by rw [hk,gP (g:Int) k,Int.neg_mul,Int.neg_mul,Int.one_mul]
   rw [this,Int.mul_ediv_cancel _ gz]
  ·conv=>lhs;rw [hm,e2]
   have mneg:m<0:=by
    rcases Int.lt_trichotomy m 0 with h | h | h
    ·exact h
    ·rw [h] at hm;omega
    ·have:=Int.mul_pos (show (0:Int)<g by omega) h;omega
   have:b.natAbs=m.natAbs*g:=by rw [hm,gu,ip,Nat.mul_comm]
   rw [this,Nat.mul_div_cancel _ gp];omega
 ·rw [if_neg hs,Int.sign_eq_one_of_pos (by omega)];constructor
  ·conv=>lhs;rw [hk,e1]
   have:1*a=k*g:=by rw [hk,gP (g:Int) k,Int.one_mul]
   rw [this,Int.mul_ediv_cancel _ gz]
  ·conv=>lhs;rw [hm,e1]
   have mpos:0<m:=by
    rcases Int.lt_trichotomy m 0 with h | h | h
    ·have:=Int.mul_neg_of_pos_of_neg (show (0:Int)<g by omega) h;omega
    ·rw [h] at hm;omega
    ·exact h
   have:b.natAbs=m.natAbs*g:=by rw [hm,gu,ip,Nat.mul_comm]
   rw [this,Nat.mul_div_cancel _ gp];omega
theorem eR {a:Int} {g:Nat} (h:(g:Int)∣a):a.fdiv (g:Int)=a.tdiv g:=by
 rw [Int.fdiv_eq_ediv_of_nonneg _ (Int.natCast_nonneg _),Int.tdiv_eq_ediv_of_dvd h]
theorem add_spec (x y:Rat) :
  let g:=gcd x.den y.den
  let own:=(x.den:Int).fdiv g
  let top:=x.num*((y.den:Int).fdiv g)+y.num*own
  let left:=gcd top g
  top.fdiv left=(x+y).num/\own*((y.den:Int).fdiv left)=((x+y).den:Int):=by
 have hx:=x.den_nz;have hy:=y.den_nz;have eg:gcd x.den y.den=((x.den.gcd y.den:Nat):Int):=by unfold gcd;rw [Int.gcd_natCast_natCast]
 have gpos:0<x.den.gcd y.den:=Nat.gcd_pos_of_pos_left _ (by omega);intro g own top left;have hown:own=((x.den / x.den.gcd y.den:Nat):Int):=by show (x.den:Int).fdiv (gcd x.den y.den)=_;rw [eg,dc]
 have htop:top=x.num*((y.den / x.den.gcd y.den:Nat):Int)+y.num*((x.den / x.den.gcd y.den:Nat):Int):=by
  show x.num*((y.den:Int).fdiv (gcd x.den y.den))+y.num*own=_;rw [hown,eg,dc]
 have hleft:left=((top.natAbs.gcd (x.den.gcd y.den):Nat):Int):=by
  show ((Int.gcd top (gcd x.den y.den):Nat):Int)=_;rw [eg];rfl
 have e1:x+y=Rat.add x y:=rfl;rw [e1];delta Rat.add;dsimp only;rw [hleft,hown]
 split
 ·rename_i h1;rw [htop];simp only [h1,Nat.div_one,Nat.gcd_one_right,dc];simp
 ·rename_i h1;rw [Rat.maybeNormalize_eq];dsimp only;simp only [Int.divExact_eq_tdiv];rw [<- htop];have d1:((top.natAbs.gcd (x.den.gcd y.den):Nat):Int)∣top:=Int.ofNat_dvd_left.2 (Nat.gcd_dvd_left _ _);have d2:(top.natAbs.gcd (x.den.gcd y.den):Nat)∣y.den:=Nat.dvd_trans (Nat.gcd_dvd_right _ _) (Nat.gcd_dvd_right _ _);refine ⟨?_,?_⟩
  ·rw [eR d1]
  ·rw [dc,<- Int.natCast_mul,Nat.mul_div_assoc _ d2]
theorem mul_spec (x y:Rat) :
  let first:=gcd x.num y.den
  let second:=gcd y.num x.den
  x.num.fdiv first*y.num.fdiv second=(x*y).num/\(x.den:Int).fdiv second*(y.den:Int).fdiv first=((x*y).den:Int):=by
 intro first second
 have e1:x*y=Rat.mul x y:=rfl;rw [e1];delta Rat.mul;dsimp only;have h1:first=((x.num.natAbs.gcd y.den:Nat):Int):=rfl
 have h2:second=((y.num.natAbs.gcd x.den:Nat):Int):=rfl;rw [h1,h2];simp only [Int.divExact_eq_tdiv,Nat.divExact_eq_div];rw [eR (Int.ofNat_dvd_left.2 (Nat.gcd_dvd_left _ _)),eR (Int.ofNat_dvd_left.2 (Nat.gcd_dvd_left _ _)),dc,dc];exact ⟨rfl,by rw [Int.natCast_mul]⟩
end G
namespace G
noncomputable def Bd (n:Nat) (x:Rat):Prop:=x.num.natAbs<=2 ^ n/\x.den<=2 ^ n
theorem bv {m n:Nat} (h:m<=n):2 ^ m<=2 ^ n:=Nat.pow_le_pow_right (by decide) h
theorem Bd.mono {m n:Nat} {x:Rat} (b:Bd m x) (h:m<=n):Bd n x:=⟨fO b.1 (bv h),fO b.2 (bv h)⟩
theorem cF (a:Int) (d:Nat):(a / (d:Int)).natAbs<=a.natAbs:=by
 rcases Nat.eq_zero_or_pos d with h | h
 ·subst h;simp
 ·have hd:(0:Int)<d:=by omega
  rcases Int.le_total 0 a with ha | ha
  ·have h1:=Int.ediv_nonneg ha (Int.le_of_lt hd);have h2:=Int.ediv_le_self (d:Int) ha;omega
  ·have h1:a / (d:Int)<=0:=Int.ediv_nonpos_of_nonpos_of_neg ha hd
   have h2:a<=a / (d:Int):=by
    rw [Int.le_ediv_iff_mul_le hd];have h3:0<=(-a)*((d:Int)-1):=Int.mul_nonneg (by omega) (by omega);rw [Int.neg_mul,Int.mul_sub,Int.mul_one] at h3;omega
   omega
theorem Bd.divInt {n:Nat} {a b:Int} (ha:a.natAbs<=2 ^ n) (hb:b.natAbs<=2 ^ n):Bd n (Rat.divInt a b):=by
 constructor
 ·rw [Rat.num_divInt];refine fO (cF _ _) ?_;rw [gu]
  have:b.sign.natAbs<=1:=by
   rcases Int.lt_trichotomy b 0 with h | h | h
   ·rw [Int.sign_eq_neg_one_of_neg h];decide
   ·rw [h];decide
   ·rw [Int.sign_eq_one_of_pos h];decide
  calc b.sign.natAbs*a.natAbs<=1*a.natAbs:=Nat.mul_le_mul_right _ this
   _<=2 ^ n:=by omega
 ·rw [Rat.den_divInt]
  split
  ·exact Nat.one_le_two_pow
  ·exact fO (Nat.div_le_self _ _) hb
theorem bA {a b m n:Nat} (ha:a<=2 ^ m) (hb:b<=2 ^ n):a*b<=2 ^ (m+n):=by
 rw [Nat.pow_add];exact hG ha hb
theorem Bd.add {m n:Nat} {x y:Rat} (hx:Bd m x) (hy:Bd n y):Bd (m+n+1) (x+y):=by
 constructor
 ·rw [Rat.num_add];refine fO (cF _ _) ?_;have h1:=bA hx.1 hy.2;have h2:=bA hx.2 hy.1;have e1:(x.num*(y.den:Int)).natAbs=x.num.natAbs*y.den:=by rw [gu,ip]
  have e2:(y.num*(x.den:Int)).natAbs=x.den*y.num.natAbs:=by rw [gu,ip,Nat.mul_comm]
  have:=Int.natAbs_add_le (x.num*(y.den:Int)) (y.num*(x.den:Int))
  rw [e1,e2] at this;rw [Nat.pow_succ];omega
 ·rw [Rat.den_add];refine fO (Nat.div_le_self _ _) (fO (bA hx.2 hy.2) (bv (by omega)))
theorem Bd.neg {m:Nat} {x:Rat} (hx:Bd m x):Bd m (-x):=⟨by rw [Rat.neg_num,Int.natAbs_neg];exact hx.1,hx.2⟩
theorem Bd.sub {m n:Nat} {x y:Rat} (hx:Bd m x) (hy:Bd n y):Bd (m+n+1) (x-y):=by
 rw [Rat.sub_eq_add_neg];exact hx.add hy.neg
theorem Bd.mul {m n:Nat} {x y:Rat} (hx:Bd m x) (hy:Bd n y):Bd (m+n) (x*y):=by
 constructor
 ·rw [Rat.num_mul];refine fO (cF _ _) ?_;rw [gu];exact bA hx.1 hy.1
 ·rw [Rat.den_mul];exact fO (Nat.div_le_self _ _) (bA hx.2 hy.2)
theorem Bd.zero:Bd 0 0:=⟨by decide,by decide⟩
end G
namespace G
theorem divInt_nn (n:Int) {d:Int} (h:0<d):0<=Rat.divInt n d↔0<=n:=Rat.divInt_nonneg_iff_of_pos_right h
theorem lt_div {a b c d:Int} (hb:0<b) (hd:0<d):Rat.divInt a b<Rat.divInt c d↔a*d<c*b:=by
 rw [<- Rat.not_le,Rat.le_iff_sub_nonneg,Rat.divInt_sub_divInt _ _ (by omega) (by omega),divInt_nn _ (Int.mul_pos hb hd)];omega
end G
namespace G
open PySem
theorem str_ext {x y:Str} (h:x.cps.toList=y.cps.toList):x=y:=by
 cases x;cases y;exact gK Str.mk (Array.toList_inj.mp h)
theorem cps_app (x y:Str):(x++y).cps.toList=x.cps.toList++y.cps.toList:=by
 show (x.cps++y.cps).toList=_;exact Array.toList_append
theorem app_left {x y z:Str} (h:x++y=x++z):y=z:=by
 have:=gK (λ u:Str=>u.cps.toList) h
 simp only [cps_app] at this;exact str_ext (List.append_cancel_left this)
theorem app_right {x y z:Str} (h:x++y=z++y):x=z:=by
 have:=gK (λ u:Str=>u.cps.toList) h
 simp only [cps_app] at this;exact str_ext (List.append_cancel_right this)
theorem rep_cps (c n:Nat):((List.replicate n #[c]).foldl (· ++ ·) (#[]:Array Nat)).toList=List.replicate n c:=by
 have:∀ (n:Nat) (a:Array Nat),((List.replicate n #[c]).foldl (· ++ ·) a).toList=a.toList++List.replicate n c:=by
  intro n
  induction n with
  | zero=>intro a;simp
  | succ n ih=>
   intro a;rw [List.replicate_succ,List.foldl_cons,ih];simp [List.replicate_succ]
 simpa using this n #[]
theorem eo (c:Nat) (n:Int):(Txt.mul ⟨#[c]⟩ n).cps.toList=List.replicate n.toNat c:=by
 unfold Txt.mul;by_cases h1:n<1
 ·rw [if_pos h1,show n.toNat=0 by omega];rfl
 ·rw [if_neg h1];by_cases h2:n=1
  ·subst h2;rfl
  ·rw [if_neg (by simp [h2,Str.length])];exact rep_cps c n.toNat
theorem len_cps (x:Str):x.length=x.cps.toList.length:=by show x.cps.size=_;rw [ig]
noncomputable def sgs:Str:="abcdefghijklmnopqrstuvwxyz0123456789."
noncomputable def sgAt (i:Int):Nat:=sgs.cps.toList.getD i.toNat 0
noncomputable def dz (k c:Int):Int:=(k*(1+c / 5 % 36)+c / 180) % 37
noncomputable def cV (k c:Int):Str:=if c % 3=0 then Txt.mul ⟨#[sgAt (c / 3 % 37)]⟩ (dz k c+1) else Txt.mul "x" (c / 3 % 25)++⟨#[sgAt (dz k c)]⟩++Txt.mul "x" (c / 75 % 25)
theorem sgs_list:sgs.cps.toList=[97,98,99,100,101,102,103,104,105,106,107,108,109,110,111,112,113,114,115,116,117,118,119,120,121,122,48,49,50,51,52,53,54,55,56,57,46]:=by decide +kernel
theorem sgAt_some {i:Int} (h0:0<=i) (h1:i<37):L2.atI sgs.cps.toList i=some (sgAt i):=by
 obtain ⟨n,rfl⟩:=gH h0;have hn:n<37:=by omega
 refine L2.atI_nat ?_;unfold sgAt;rw [sgs_list,fP,Int.toNat_natCast];rw [fF (by simpa using hn)];rfl
theorem sgAt_inj:∀ i<37,∀ j<37,sgs.cps.toList.getD i 0=sgs.cps.toList.getD j 0->i=j:=by
 rw [sgs_list];decide +kernel
theorem eV (k c:Int):0<=dz k c/\dz k c<37:=⟨ii _ (by decide),g6 _ (by decide)⟩
theorem nameOf_len (k c:Int):(cV k c).length<=60:=by
 obtain ⟨a1,a2⟩:=eV k c;have h1:=ii (c / 3) (show (25:Int)≠0 by decide);have h2:=g6 (c / 3) (show (0:Int)<25 by decide);have h3:=ii (c / 75) (show (25:Int)≠0 by decide);have h4:=g6 (c / 75) (show (0:Int)<25 by decide);unfold cV;rw [len_cps]
 split
 ·rw [eo,gI];omega
 ·rw [cps_app,cps_app,show ("x":Str)=⟨#[120]⟩ from by decide +kernel,eo,eo,fX,fX,gI,gI,show ((⟨#[sgAt (dz k c)]⟩:Str).cps.toList).length=1 from rfl];omega
end G
namespace G
noncomputable def Cop (a b:Int):Prop:=∀ d:Int,d∣a->d∣b->d∣1
theorem Cop.one {a b:Int} (h:gcd a b=1):Cop a b:=λ d h1 h2=>by
 have:=Int.dvd_coe_gcd h1 h2
 rw [show ((Int.gcd a b:Nat):Int)=1 from h] at this;exact this
theorem Cop.gcd {a b:Int} (h:Cop a b):Int.gcd a b=1:=by
 have h1:=Int.eq_one_of_dvd_one (Int.natCast_nonneg _) (h _ (im a b) (Int.gcd_dvd_right a b));omega
theorem Cop.gauss {d m n:Int} (h:Cop d m) (hd:d∣m*n):d∣n:=by
 have e:=h.gcd;rw [<- Int.natAbs_dvd_natAbs] at hd ⊢;rw [gu] at hd;exact Nat.Coprime.dvd_of_dvd_mul_left e hd
theorem Cop.quot {B b c u v:Int} (hc:c=G.gcd B b) (c0:c≠0) (hB:B=c*u) (hb:b=c*v):Cop u v:=λ d h1 h2=>by
 have k:c*d∣c:=by
  have:=Int.dvd_coe_gcd (a:=B) (b:=b) (c:=c*d) (by rw [hB];exact Int.mul_dvd_mul_left c h1) (by rw [hb];exact Int.mul_dvd_mul_left c h2)
  rw [show ((Int.gcd B b:Nat):Int)=c from hc.symm] at this;exact this
 obtain ⟨z,hz⟩:=k;refine ⟨z,?_⟩
 have:c*(d*z)=c*1:=by rw [<- Int.mul_assoc,<- hz,Int.mul_one]
 exact (Int.eq_of_mul_eq_mul_left c0 this).symm
theorem den_ne' (x:Rat):(x.den:Int)≠0:=by have:=x.den_nz;omega
structure TInv (x:Rat) (T B s:Int):Prop where
 pB:0<B
 ps:0<s
 r:∃ r,B=s*r/\Cop T r
 v:Rat.divInt T B=x
theorem TInv.zero:TInv 0 0 1 1:=⟨by decide,by decide,⟨1,by decide,λ d _ h=>h⟩,by rw [Rat.zero_divInt]⟩
theorem fdiv_mul {c k:Int} (h:c≠0):(c*k).fdiv c=k:=by rw [gP,Int.mul_fdiv_cancel _ h]
theorem TInv.step {x y:Rat} {T B s:Int} (I:TInv x T B s) :
  TInv (x+y) (T*(y.den:Int).fdiv (gcd B y.den)+y.num*B.fdiv (gcd B y.den)) (B*(y.den:Int).fdiv (gcd B y.den)) (s*(gcd B y.den).fdiv (gcd s (gcd B y.den))):=by
 obtain ⟨pB,ps,⟨r,hr,cr⟩,hv⟩:=I;have yp:=dr y
 have cp:0<gcd B y.den:=by
  have:=Int.gcd_pos_of_ne_zero_left (y.den:Int) (show B≠0 by omega)
  unfold gcd;omega
 generalize hc':gcd B y.den=c at cp ⊢;have hc:=hc'.symm;have dB:c∣B:=by rw [hc];exact im _ _
 have db:c∣(y.den:Int):=by rw [hc];exact Int.gcd_dvd_right _ _
 obtain ⟨u,hu⟩:=dB;obtain ⟨v,hv'⟩:=db;have c0:c≠0:=by omega
 have cuv:Cop u v:=Cop.quot hc c0 hu hv';have ey:(y.den:Int).fdiv c=v:=by rw [hv',fdiv_mul c0]
 have eB:B.fdiv c=u:=by rw [hu,fdiv_mul c0]
 have up:0<u:=Int.pos_of_mul_pos_left (by rw [gP,<- hu];exact pB) cp;have vp:0<v:=Int.pos_of_mul_pos_left (by rw [gP,<- hv'];exact yp) cp;rw [ey,eB]
 have gp:0<gcd s c:=by
  have:=Int.gcd_pos_of_ne_zero_left c (show s≠0 by omega)
  unfold gcd;omega
 generalize hg':gcd s c=g at gp ⊢;have hg:=hg'.symm;have d1:g∣s:=by rw [hg];exact im _ _
 have d2:g∣c:=by rw [hg];exact Int.gcd_dvd_right _ _
 obtain ⟨s1,hs1⟩:=d1;obtain ⟨c1,hc1⟩:=d2;have g0:g≠0:=by omega
 have cs:Cop s1 c1:=Cop.quot hg g0 hs1 hc1;have ec:c.fdiv g=c1:=by rw [hc1,fdiv_mul g0]
 rw [ec];have c1p:0<c1:=Int.pos_of_mul_pos_left (by rw [gP,<- hc1];exact cp) gp;have s1p:0<s1:=Int.pos_of_mul_pos_left (by rw [gP,<- hs1];exact ps) gp
 have e1:c1*u=s1*r:=by
  apply Int.eq_of_mul_eq_mul_left g0
  rw [<- Int.mul_assoc,<- Int.mul_assoc,<- hc1,<- hs1,<- hu,hr]
 have k1:c1∣r:=Cop.gauss (d:=c1) (m:=s1) (λ d a b=>cs d b a) ⟨u,e1.symm⟩;obtain ⟨r1,hr1⟩:=k1
 have e2:u=s1*r1:=by
  apply Int.eq_of_mul_eq_mul_left (show c1≠0 by omega)
  rw [e1,hr1,<- Int.mul_assoc,<- Int.mul_assoc,gP s1 c1]
 refine ⟨Int.mul_pos pB vp,Int.mul_pos ps c1p,⟨r1*v,?_,?_⟩,?_⟩
 ·rw [hr,hr1];simp only [Int.mul_assoc]
 ·intro d h1 h2
  have cdv:Cop d v:=λ e he hev=>by
   have z1:e∣y.num*u:=by
    have:=Int.dvd_sub (Int.dvd_trans he h1) (Int.dvd_trans hev (Int.dvd_mul_left T v))
    rw [Int.add_comm,Int.add_sub_cancel] at this;exact this
   rw [gP] at z1;have z2:e∣y.num:=Cop.gauss (λ f h3 h4=>cuv f h4 (Int.dvd_trans h3 hev)) z1;exact Cop.one (gcd_den y) e z2 (by rw [hv'];exact Int.dvd_trans hev (Int.dvd_mul_left c v))
  have z3:d∣r1:=Cop.gauss cdv (by rw [gP];exact h2);have z4:d∣u:=by rw [e2];exact Int.dvd_trans z3 (Int.dvd_mul_left s1 r1)
  have z5:d∣v*T:=by
   have:=Int.dvd_sub h1 (Int.dvd_trans z4 (Int.dvd_mul_left y.num u))
   rw [Int.add_sub_cancel,gP] at this;exact this
  exact cr d (Cop.gauss cdv z5) (by rw [hr1];exact Int.dvd_trans z3 (Int.dvd_mul_left c1 r1))
 ·rw [<- hv]
  conv=>rhs;rw [<- Rat.num_divInt_den y]
  rw [Rat.divInt_add_divInt _ _ (show B≠0 by omega) (den_ne' y),Rat.divInt_eq_divInt_iff (show B*v≠0 by have:=Int.mul_pos pB vp;omega) (Int.mul_ne_zero (by omega) (den_ne' y)),hv',hu];grind
theorem TInv.fin {x:Rat} {T B s:Int} (I:TInv x T B s):T.fdiv (gcd T s)=x.num/\B.fdiv (gcd T s)=(x.den:Int):=by
 obtain ⟨pB,ps,⟨r,hr,cr⟩,hv⟩:=I
 have e:gcd T s=gcd T B:=by
  refine Int.dvd_antisymm (gcd_nonneg _ _) (gcd_nonneg _ _) (Int.dvd_coe_gcd (im _ _) (Int.dvd_trans (Int.gcd_dvd_right _ _) ⟨r,hr⟩)) (Int.dvd_coe_gcd (im _ _) ?_);refine Cop.gauss (m:=r) (λ d h1 h2=>cr d (Int.dvd_trans h1 (im _ _)) h2) ?_;rw [gP,<- hr];exact Int.gcd_dvd_right _ _
 obtain ⟨i1,i2⟩:=init_spec T B (by omega);rw [if_neg (by omega),hv] at i1 i2;rw [e];exact ⟨i1,i2⟩
end G
namespace G
open PySem L2
theorem sum_snoc (xs:List Rat) (a:Rat):(xs++[a]).sum=xs.sum+a:=by
 induction xs with
 | nil=>simp;grind
 | cons x xs ih=>rw [List.cons_append,iu,iu,ih];grind
noncomputable def addK (ks:List Str) (n:Str):List Str:=if n∈ks then ks else ks++[n]
theorem mem_addK {ks:List Str} {n m:Str}:m∈addK ks n↔m∈ks∨m=n:=by
 unfold addK
 split
 ·exact ⟨.inl,λ h=>h.elim id λ e=>by rw [e];assumption⟩
 ·simp
noncomputable def upf {α:Type} (f:Str->α) (n:Str) (y:α):Str->α:=λ m=>if m=n then y else f m
theorem upf_same {α:Type} {f:Str->α} {n:Str} {y:α}:upf f n y n=y:=if_pos rfl
theorem upf_ne {α:Type} {f:Str->α} {n m:Str} {y:α} (h:m≠n):upf f n y m=f m:=if_neg h
structure Tab {α:Type} (R:Hp->V->α->Prop) (H:Hp) (kvs:List (Key × V)) (ks:List Str) (f:Str->α):Prop where
 keys:kvs.map (·.1)=ks.map (λ n=>(Sum.inr n:Key))
 vals:∀ n∈ks,∃ v,bu kvs (Sum.inr n:Key)=some v/\R H v (f n)
section
variable {α:Type} {R:Hp->V->α->Prop} {H H':Hp} {kvs:List (Key × V)} {ks:List Str} {f:Str->α} {n:Str} {v:V} {y:α}
theorem Tab.mono (t:Tab R H kvs ks f) (h:∀ v x,R H v x->R H' v x):Tab R H' kvs ks f:=⟨t.keys,λ n hn=>let ⟨v,e,r⟩:=t.vals n hn;⟨v,e,h _ _ r⟩⟩
theorem Tab.congr {g:Str->α} (t:Tab R H kvs ks f) (h:∀ n∈ks,f n=g n):Tab R H kvs ks g:=⟨t.keys,λ n hn=>let ⟨v,e,r⟩:=t.vals n hn;⟨v,e,by rw [<- h n hn];exact r⟩⟩
theorem Tab.nil:Tab R H [] [] f:=⟨rfl,λ n h=>absurd h List.not_mem_nil⟩
theorem inr_in {n:Str} {ks:List Str}:(Sum.inr n:Key)∈ks.map (λ n=>(Sum.inr n:Key))↔n∈ks:=by
 constructor
 ·intro h;obtain ⟨y,hy,e⟩:=fQ.mp h;rw [<- Sum.inr.inj e];exact hy
 ·exact λ h=>fQ.mpr ⟨n,h,rfl⟩
theorem Tab.none (t:Tab R H kvs ks f) (h:¬ n∈ks):bu kvs (Sum.inr n:Key)=none:=by
 cases e:bu kvs (Sum.inr n:Key) with
 | none=>rfl
 | some v=>
  have:=valV_in e
  rw [t.keys] at this;exact absurd (inr_in.mp this) h
theorem Tab.len (t:Tab R H kvs ks f):kvs.length=ks.length:=by have:=gK List.length t.keys;rwa [fG,fG] at this
theorem Tab.put (t:Tab R H kvs ks f) (r:R H v y):Tab R H (bW kvs (Sum.inr n:Key) v) (addK ks n) (upf f n y):=by
 refine ⟨?_,λ m hm=>?_⟩
 ·by_cases hn:n∈ks
  ·obtain ⟨u,e,_⟩:=t.vals n hn;unfold bW addK;rw [cc,e,if_pos (show (some u).isSome=true from rfl),if_pos hn,<- t.keys,gB];refine List.map_congr_left λ kv _=>?_;show (if kv.1=_ then _ else _:Key × V).1=kv.1
   split <;> rfl
  ·rw [putK_new _ (t.none hn)];unfold addK;rw [if_neg hn,gj,gj,t.keys];rfl
 ·rw [valV_put];by_cases e:m=n
  ·subst e;rw [if_pos rfl,upf_same];exact ⟨v,rfl,r⟩
  ·rw [if_neg λ z=>e (Sum.inr.inj z),upf_ne e];exact t.vals m ((mem_addK.mp hm).resolve_right e)
theorem val_idx {κ:Type} [DecidableEq κ]:∀ {kvs:List (κ × V)} {i:Nat} {kv:κ × V},(kvs.map (·.1)).Nodup->kvs[i]?=some kv->bu kvs kv.1=some kv.2
 | [],_,_,_,e=>by simp at e
 | p::r,0,kv,_,e=>by
  simp at e;subst e;exact bf rfl
 | p::r,i+1,kv,nd,e=>by
  have e:r[i]?=some kv:=by simpa using e
  obtain ⟨h1,h2⟩:=List.nodup_cons.mp (show (p.1::r.map (·.1)).Nodup from nd);rw [bg λ z=>h1 (by rw [z];exact fQ.mpr ⟨kv,fK e,rfl⟩)];exact val_idx h2 e
theorem Tab.at_ {i:Nat} {kv:Key × V} (t:Tab R H kvs ks f) (nd:ks.Nodup) (e:kvs[i]?=some kv):∃ n,ks[i]?=some n/\kv.1=Sum.inr n/\bu kvs (Sum.inr n:Key)=some kv.2/\R H kv.2 (f n):=by
 have hi:i<ks.length:=by rw [<- t.len];exact (fL.mp e).1
 have e1:kv.1=Sum.inr ks[i]:=by
  have g:=gK (λ l=>l[i]?) t.keys;simp only [fN,e,fF hi,gJ] at g;exact f9 g
 have nd2:(kvs.map (·.1)).Nodup:=by
  rw [t.keys];exact nd.map _ (λ u v h e=>h (Sum.inr.inj e))
 have ev:=val_idx nd2 e;rw [e1] at ev;obtain ⟨v,e2,r⟩:=t.vals _ (List.getElem_mem hi);rw [ev] at e2
 cases e2;exact ⟨ks[i],fF hi,e1,ev,r⟩
end
theorem take_next {ks:List Str} {i:Nat} {n:Str} (nd:ks.Nodup) (e:ks[i]?=some n):ks.take (i+1)=ks.take i++[n]/\¬ n∈ks.take i:=by
 have hi:=(fL.mp e).1;refine ⟨by rw [gf,e];rfl,λ m=>?_⟩;obtain ⟨j,hj⟩:=gr.mp m
 have hj2:j<i:=by
  have:=(fL.mp hj).1
  rw [fZ] at this;omega
 rw [List.getElem?_take,if_pos hj2] at hj
 have:=(gL (by omega) nd).mp (hj.trans e.symm)
 omega
theorem addK_new {ks:List Str} {n:Str} (h:¬ n∈ks):addK ks n=ks++[n]:=if_neg h
noncomputable def KeepD (H H':Hp):Prop:=∀ b ob,H b=some ob->(∀ kvs,ob≠.dK kvs)->(∀ o u,ob≠.frz o u)->H' b=some ob
theorem KeepD.of {H H':Hp} (s:Same H H'):KeepD H H':=λ b ob e _ _=>s b ob e
theorem KeepD.trans {H H' H'':Hp} (s:KeepD H H') (t:KeepD H' H''):KeepD H H'':=λ b ob e h1 h2=>t b ob (s b ob e h1 h2) h1 h2
theorem KeepD.put {H:Hp} {d:Addr} {kvs:List (Key × V)} {o:HO} (hd:H d=some (.dK kvs)):KeepD H (upd H d o):=λ b ob e h1 _=>by
 have:b≠d:=λ z=>by rw [z,hd] at e;exact h1 kvs (f9 e).symm
 rw [ai this];exact e
theorem KeepD.frz {H:Hp} {d:Addr} {ob:Obj} {u o:HO} (hd:H d=some (.frz ob u)):KeepD H (upd H d o):=λ b ob' e _ h2=>by
 have:b≠d:=λ z=>by rw [z,hd] at e;exact h2 _ _ (f9 e).symm
 rw [ai this];exact e
inductive BdS:List Rat->Nat->Prop
 | nil:BdS [] 0
 | snoc {xs:List Rat} {N m:Nat} {x:Rat}:BdS xs N->Bd m x->BdS (xs++[x]) (N+(m+1))
theorem BdS.fn {xs:List Rat} {N:Nat} (h:BdS xs N):∃ S:Nat->Nat,S 0=0/\(∀ i,i<=xs.length->S i<=N)/\∀ i y,xs[i]?=some y->∃ m,Bd m y/\S i+(m+1)<=S (i+1):=by
 induction h with
 | nil=>exact ⟨λ _=>0,rfl,λ _ _=>fY _,λ i y e=>by simp at e⟩
 | @snoc xs N m x _ b ih=>
  obtain ⟨S,h0,h1,h2⟩:=ih;refine ⟨λ j=>if j<=xs.length then S j else N+(m+1),by simp [h0],λ i hi=>?_,λ i y e=>?_⟩
  ·show (if i<=xs.length then S i else N+(m+1))<=_
   split
   ·rename_i h
    have:=h1 i h
    omega
   ·exact fM _
  ·show ∃ m',Bd m' y/\(if i<=xs.length then S i else N+(m+1))+(m'+1)<=(if i+1<=xs.length then S (i+1) else N+(m+1));have hi:=(fL.mp e).1;rw [fX,gG,List.length_nil] at hi;by_cases hl:i<xs.length
   ·rw [gQ hl] at e;obtain ⟨m',b',q⟩:=h2 i y e;exact ⟨m',b',by rw [if_pos (by omega),if_pos (by omega)];exact q⟩
   ·have ei:i=xs.length:=by omega
    subst ei;rw [gE (fM _),Nat.sub_self] at e
    have:x=y:=by simpa using e
    subst this;refine ⟨m,b,?_⟩;rw [if_pos (fM _),if_neg (by omega)]
    have:=h1 _ (fM _)
    omega
end G
namespace G
open PySem L2
noncomputable def Sm (i:Int):Prop:=i.natAbs<2 ^ 9000
noncomputable def SmR (x:Rat):Prop:=Sm x.num/\Sm (x.den:Int)
theorem Sm.le {a b:Int} (h:Sm b) (l:a.natAbs<=b.natAbs):Sm a:=gy l h
theorem cR (a:Int) {b:Int} (hb:0<b) (ha:0<=a):(a.fdiv b).natAbs<=a.natAbs:=by
 rw [Int.fdiv_eq_ediv_of_nonneg a (Int.le_of_lt hb)];have h1:=Int.ediv_nonneg ha (Int.le_of_lt hb);have h2:=Int.ediv_le_self b ha;omega
theorem fdiv_le' (a:Int) {b:Int} (hb:0<b) (hd:b∣a):(a.fdiv b).natAbs<=a.natAbs:=by
 obtain ⟨k,rfl⟩:=hd;have e:(b*k).fdiv b=k:=by rw [gP,Int.mul_fdiv_cancel _ (by omega)]
 rw [e,gu];exact Nat.le_mul_of_pos_left _ (by omega)
theorem bQ (a:Int) {b:Int} (h:b≠0):0<gcd a b:=by
 have:=Int.gcd_pos_of_ne_zero_right a h
 unfold gcd;omega
theorem gcd_le_r (a:Int) {b:Int} (h:b≠0):(gcd a b).natAbs<=b.natAbs:=by
 have:=Int.gcd_le_natAbs_right a h
 unfold gcd;omega
theorem gcd_dvd_l (a b:Int):gcd a b∣a:=im a b
theorem Sm.gcd_r (a:Int) {b:Int} (h:b≠0) (s:Sm b):Sm (gcd a b):=s.le (gcd_le_r a h)
theorem d6 (x:Rat):(x.den:Int)≠0:=by have:=x.den_nz;omega
theorem tb:¬ (("top":Str) = "bottom"):=by decide +kernel
noncomputable def ff (t b:Int):List (Str × V):=[("top",.int t),("bottom",.int b)]
theorem ff_T (t b:Int):(ff t b).lookup ("top":Str)=some (.int t):=rfl
theorem ff_B (t b:Int):(ff t b).lookup ("bottom":Str)=some (.int b):=by
 have h:(("bottom":Str) == "top")=false:=by decide +kernel
 show List.lookup ("bottom":Str) [(("top":Str),V.int t),("bottom",V.int b)]=_;rw [g8,h];rfl
theorem ff_no (t b:Int) {m:Str} (h1:(m == "top")=false) (h2:(m == "bottom")=false):(ff t b).lookup m=none:=by
 show List.lookup m [(("top":Str),V.int t),("bottom",V.int b)]=_;rw [g8,h1,g8,h2];rfl
theorem ff_new (t b:Int):bc "bottom" (.int b) (bc "top" (.int t) [])=ff t b:=by
 show (if ("top":Str) = "bottom" then _ else (("top":Str),V.int t)::[(("bottom":Str),V.int b)])=ff t b;rw [if_neg tb];rfl
theorem ff_put (a c t b:Int):bc "bottom" (.int b) (bc "top" (.int t) (ff a c))=ff t b:=by
 show bc "bottom" (.int b) (if ("top":Str) = "top" then (("top":Str),V.int t)::[(("bottom":Str),V.int c)] else _)=ff t b;rw [if_pos rfl];show (if ("top":Str) = "bottom" then _ else (("top":Str),V.int t)::(if ("bottom":Str) = "bottom" then (("bottom":Str),V.int b)::[] else _))=ff t b;rw [if_neg tb,if_pos rfl];rfl
noncomputable def FrAt (C:Addr) (H:Hp) (p:Addr) (x:Rat):Prop:=∃ dx,H p=some (.ins C dx (ff x.num x.den))
theorem FrAt.mono {C:Addr} {H H':Hp} {p:Addr} {x:Rat} (h:FrAt C H p x) (s:Same H H'):FrAt C H' p x:=by
 obtain ⟨dx,e⟩:=h
 exact ⟨dx,s _ _ e⟩
theorem FrAt.up {C:Addr} {H H':Hp} {p:Addr} {x:Rat} (s:Same H H') (h:FrAt C H p x):FrAt C H' p x:=h.mono s
structure FrC (K:W.Frag) (C:Addr):Prop where
 cl:Cls K C
 nT:NoAttr K C "top"
 nB:NoAttr K C "bottom"
 c1:PySem.W.findIn K (.ref C) "__class__"=some (some (.builtin "object.__class__"))
 c2:PySem.W.specialIn K (.builtin "object.__class__") "__get__"=some (some (.builtin "getset_descriptor.__get__"))
 c3:PySem.W.takesIn K (.builtin "object.__class__")=some true
 c4:PySem.W.mroIn K C (.type "object")=some true
theorem FrAt.ty {K:W.Frag} {C:Addr} {H:Hp} {p:Addr} {x:Rat} (F:FrC K C) (h:FrAt C H p x):TyOf K H (.ref p) (.ref C):=by
 obtain ⟨_,e⟩:=h
 exact TyOf.ins e F.cl F.c1 F.c2 F.c3 F.c4
noncomputable def tTop (C:Addr) (ta:TE):TE:=λ σ H Q=>ta σ H λ v H1=>∃ p x,v=.ref p/\FrAt C H1 p x/\Q (.int x.num) H1
noncomputable def tBot (C:Addr) (ta:TE):TE:=λ σ H Q=>ta σ H λ v H1=>∃ p x,v=.ref p/\FrAt C H1 p x/\Q (.int x.den) H1
section
variable {X:Cx} {C:Addr} {e o:Expr} {ta:TE} {pos:Pos}
theorem bF (F:FrC X.K C) (he:PE X e ta) (hb:attributeBase e "top" X.env (eval e X.env)=eval e X.env:=by rfl):PE X (.Attribute e "top" pos) (tTop C ta):=by
 intro pins s σ H Q I h;refine attr_of hb (thn (he pins s σ H _ I h) λ u s1 ⟨v,H1,I1,r,p,x,e,⟨dx,hp⟩,q⟩=>?_);subst e;obtain rfl:u=Value.ref p:=r;exact eQ I1 hp F.cl F.nT (ff_T _ _) λ u' s' I' r'=>⟨_,H1,I',r',q⟩
theorem bp (F:FrC X.K C) (he:PE X e ta) (hb:attributeBase e "bottom" X.env (eval e X.env)=eval e X.env:=by rfl):PE X (.Attribute e "bottom" pos) (tBot C ta):=by
 intro pins s σ H Q I h;refine attr_of hb (thn (he pins s σ H _ I h) λ u s1 ⟨v,H1,I1,r,p,x,e,⟨dx,hp⟩,q⟩=>?_);subst e;obtain rfl:u=Value.ref p:=r;exact eQ I1 hp F.cl F.nB (ff_B _ _) λ u' s' I' r'=>⟨_,H1,I',r',q⟩
noncomputable def tFrM (C:Addr) (sp:Sp) (E:XK) (ta:TE) (t:TA):TE:=λ σ H Q=>ta σ H λ v H1=>∃ p x,v=.ref p/\FrAt C H1 p x/\t σ H1 λ vs H2=>sp (v::vs) H2 Q E
variable {CX:CXT} {k j:Nat} {ps:List Str} {sp:Sp} {E:XK} {m:Str} {p apos:Pos} {es:List Expr} {t:TA}
theorem cU {pl:Sem Bool} (F:FrC X.K C) (he:PE X o ta) (M:MtB X.prog X.w X.K X.mg X.base CX C m k ps sp) (hr:Room j X.A) (hx:bM CX X E) (ha:PA X (e::es) t) (hj:k<=j:=by decide) (h1:(m == "top")=false:=by decide +kernel) (h2:(m == "bottom")=false:=by decide +kernel)
  (hst:starEach (e::es) X.env=(false,eval e X.env)::starEach es X.env:=by rfl) (hpl:(backTo pos (starEach es X.env)).any (·.1)=false:=by rfl)
  (ht:eval (.Call (.Attribute o m apos) (e::es) [] pos) X.env=(do
   let ov <- eval o X.env
   standAt apos.atName
   let (f,first) <- holding [ov] (getMethod ov m pl)
   callWith pos f first (backTo pos (starEach (e::es) X.env)) (backToKw pos (keywordEach [] X.env))):=by rfl):PE X (.Call (.Attribute o m apos) (e::es) [] pos) (tFrM C sp E ta t):=by
 obtain ⟨f,fd,hm,b,d⟩:=M;intro pins s σ H Q I h;refine ik (pl:=pl) (thn (he pins s σ H _ I h) λ u s1 ⟨v,H1,I1,rx,a,x,ex,⟨dx,ea⟩,q⟩=>?_) ht;subst ex;obtain rfl:u=Value.ref a:=rx;refine dm I1 ea F.cl hm (ff_no _ _ h1 h2) ?_;refine il (first:=[.ref a]) (h₀:=X.base) I.ok.mod.kin hm.kp (thn (ha pos pins s1 σ H1 _ I1 q) λ us s2 ⟨vs,H2,I2,r,q2⟩=>⟨I2.kIn,?_⟩) hst hpl;exact run_fn (us:=.ref a::us) (vs:=.ref a::vs) (dvs:=[]) d (hr.mono hj) b .nil hx I2 (.cons rfl r) (by simpa using q2)
theorem pe_frm0 {pl:Sem Bool} (F:FrC X.K C) (he:PE X o ta) (M:MtB X.prog X.w X.K X.mg X.base CX C m k ps sp) (hr:Room j X.A) (hx:bM CX X E) (hj:k<=j:=by decide) (h1:(m == "top")=false:=by decide +kernel) (h2:(m == "bottom")=false:=by decide +kernel)
  (ht:eval (.Call (.Attribute o m apos) [] [] pos) X.env=(do
   let ov <- eval o X.env
   standAt apos.atName
   let (f,first) <- holding [ov] (getMethod ov m pl)
   callWith pos f first (backTo pos (starEach [] X.env)) (backToKw pos (keywordEach [] X.env))):=by rfl):PE X (.Call (.Attribute o m apos) [] [] pos) (tFrM C sp E ta tNil):=by
 obtain ⟨f,fd,hm,b,d⟩:=M;intro pins s σ H Q I h;refine ik (pl:=pl) (thn (he pins s σ H _ I h) λ u s1 ⟨v,H1,I1,rx,a,x,ex,⟨dx,ea⟩,q⟩=>?_) ht;subst ex;obtain rfl:u=Value.ref a:=rx;refine dm I1 ea F.cl hm (ff_no _ _ h1 h2) ?_;exact PySem.W.callWith_K0 (first:=[.ref a]) I1.kIn hm.kp (run_fn (us:=[.ref a]) (vs:=[.ref a]) (dvs:=[]) d (hr.mono hj) b .nil hx I1 (.cons rfl .nil) q)
noncomputable def spDiv:Sp:=λ vs H Q _=>∃ a b:Int,vs=[.int a,.int b]/\Q (.int (gcd a b)) H
noncomputable def spInit (C:Addr):Sp:=λ vs H Q _=>∃ (p dx:Addr) (a b:Int),vs=[.ref p,.int a,.int b]/\H p=some (.ins C dx [])/\b≠0/\Sm b/\∀ H',H'=upd H p (.ins C dx (ff (Rat.divInt a b).num (Rat.divInt a b).den))->Q .non H'
noncomputable def NewFr (C:Addr) (H:Hp) (Q:VK) (x:Rat):Prop:=∀ (r:Addr) (H':Hp),H r=none->Same H H'->FrAt C H' r x->Q (.ref r) H'
noncomputable def spLow (C:Addr):Sp:=λ vs H Q _=>∃ t b:Int,vs=[.int t,.int b]/\∀ (r dx:Addr) (H':Hp),H r=none->Same H H'->H' r=some (.ins C dx (ff t b))->Q (.ref r) H'
noncomputable def spR2 (C:Addr) (f:Rat->Rat->Rat) (pre:Rat->Rat->Prop):Sp:=λ vs H Q _=>∃ (p q:Addr) (x y:Rat),vs=[.ref p,.ref q]/\FrAt C H p x/\FrAt C H q y/\SmR x/\SmR y/\pre x y/\NewFr C H Q (f x y)
theorem mk_fr {H:Hp} {a b:Int} {Q:VK} {E:XK} {x dx:Addr} (nx:H x=none) (nd:H dx=none) (hb:b≠0) (hs:Sm b) (k:∀ H':Hp,Same H H'->FrAt C H' x (Rat.divInt a b)->Q .non H') :
  spInit C [.ref x,.int a,.int b] (upd (upd H dx (.own x)) x (.ins C dx [])) Q E:=by
 refine ⟨x,dx,a,b,rfl,ae,hb,hs,λ H' e=>?_⟩;subst e;refine k _ (λ c o e=>?_) ⟨dx,ae⟩;rw [ai (av e nx),ai (av e nx),ai (av e nd)];exact e
noncomputable def tMkFr (C:Addr) (dvs:List V) (t:TA):TE:=λ σ H Q=>t σ H λ vs H1=>∃ a b:Int,vs++dvs=[.int a,.int b]/\b≠0/\Sm b/\NewFr C H1 Q (Rat.divInt a b)
theorem bo {dvs:List V} {x:Str} (F:MkB X.prog X.w X.K X.mg X.base CX C k ["self","top","bottom"] dvs (spInit C)) (hr:Room j X.A) (hm:X.mg x=some (.ref C)) (hx:bM CX X E) (ha:PA X (e::es) t) (hj:k+1<=j:=by decide) (hg:Gl X x:=by rfl) (hdb:(x == ("__debug__":Str))=false:=by decide)
  (he:starEach (e::es) X.env=(false,eval e X.env)::starEach es X.env:=by rfl) (hpl:(backTo pos (starEach es X.env)).any (·.1)=false:=by rfl):PE X (.Call (.Name x p) (e::es) [] pos) (tMkFr C dvs t):=by
 obtain ⟨f,fd,ds,M,b,c,d⟩:=F;intro pins s σ H Q I h;refine wpAny_Call_Name_kw (cu I hg hm ?_ hdb);refine il (h₀:=X.base) I.ok.mod.kin M.kp (thn (ha pos pins s σ H _ I h) λ us s1 ⟨vs,H1,I1,r,a',b',ev,hb,hs,q⟩=>⟨I1.kIn,?_⟩) he hpl;refine run_make M d (hr.mono hj) b c hx I1 r λ y dx n1 n2 _=>?_;rw [ev];exact mk_fr n1 n2 hb hs λ H' s' f'=>⟨rfl,q y H' n1 s' f'⟩
end
end G
namespace G
open PySem L2
noncomputable def aM (i:Nat):Stmt:=PySem.Challenge.pw_gainstream_k19_whole_change_of_units.main.body.getD i (.Pass ⟨0,0,0,0⟩)
noncomputable abbrev s_divisor:Stmt:=aM 11
noncomputable abbrev cJ:Stmt:=aM 13
noncomputable abbrev s_total:Stmt:=aM 14
noncomputable abbrev s_amount:Stmt:=aM 16
noncomputable abbrev ce:Stmt:=aM 17
noncomputable abbrev cz:Stmt:=aM 18
noncomputable abbrev s_sums:Stmt:=aM 19
noncomputable abbrev s_worth:Stmt:=aM 20
noncomputable abbrev dR:Stmt:=aM 21
noncomputable abbrev eF:Stmt:=aM 22
noncomputable abbrev s_faults:Stmt:=aM 23
noncomputable abbrev s_refuse:Stmt:=aM 24
noncomputable abbrev s_checked:Stmt:=aM 25
noncomputable abbrev dC:Stmt:=aM 34
noncomputable abbrev s_check_way:Stmt:=aM 35
noncomputable abbrev dP:Stmt:=aM 36
noncomputable abbrev eJ:Stmt:=aM 39
noncomputable abbrev s_law_mix:Stmt:=aM 40
noncomputable abbrev s_law_whole:Stmt:=aM 41
noncomputable abbrev eI:Stmt:=aM 42
noncomputable abbrev s_law_is:Stmt:=aM 43
noncomputable abbrev s_law_name:Stmt:=aM 44
noncomputable abbrev s_law_plus:Stmt:=aM 45
noncomputable abbrev s_law_times:Stmt:=aM 46
noncomputable abbrev s_law_high:Stmt:=aM 47
noncomputable abbrev s_law_row:Stmt:=aM 48
noncomputable abbrev s_law_sums:Stmt:=aM 49
noncomputable abbrev s_law_wants:Stmt:=aM 50
noncomputable abbrev s_law_way:Stmt:=aM 51
noncomputable abbrev s_law_net:Stmt:=aM 52
noncomputable abbrev s_law_plan:Stmt:=aM 53
noncomputable abbrev dQ:Stmt:=aM 54
noncomputable abbrev s_law_first:Stmt:=aM 55
noncomputable abbrev s_law_same:Stmt:=aM 56
noncomputable abbrev eG:Stmt:=aM 57
noncomputable abbrev s_law_units:Stmt:=aM 58
noncomputable abbrev cY:Stmt:=aM 59
noncomputable abbrev s_law:Stmt:=aM 60
noncomputable abbrev dF:Stmt:=aN (aM 12) 0
noncomputable abbrev dE:Stmt:=aN (aM 12) 1
noncomputable abbrev c6:Stmt:=aN (aM 12) 2
noncomputable abbrev c5:Stmt:=aN (aM 12) 3
noncomputable abbrev cZ:Stmt:=aN (aM 12) 5
noncomputable abbrev dD:Stmt:=aN (aM 12) 7
noncomputable abbrev dh:Stmt:=aN (aM 27) 0
noncomputable abbrev s_Way_may_stay:Stmt:=aN (aM 27) 1
noncomputable abbrev s_Way_gain:Stmt:=aN (aM 27) 2
noncomputable abbrev cx:Stmt:=aN (aM 27) 3
noncomputable abbrev cB:Stmt:=aN (aM 28) 0
noncomputable abbrev dU:Stmt:=aN (aM 28) 1
noncomputable abbrev cA:Stmt:=aN (aM 29) 0
noncomputable abbrev bR:Stmt:=aN (aM 29) 1
noncomputable abbrev s_Store_init:Stmt:=aN (aM 30) 0
noncomputable abbrev s_Store_may_stay:Stmt:=aN (aM 30) 1
noncomputable abbrev s_Net_init:Stmt:=aN (aM 37) 0
noncomputable abbrev s_Net_names:Stmt:=aN (aM 37) 1
noncomputable abbrev s_Net_want:Stmt:=aN (aM 37) 2
noncomputable abbrev s_Net_way:Stmt:=aN (aM 37) 3
noncomputable abbrev dS:Stmt:=aN (aM 37) 4
noncomputable abbrev dj:Stmt:=aN (aM 5) 0
noncomputable abbrev bX:Stmt:=aN (aM 8) 0
noncomputable abbrev di:Stmt:=aN (aM 9) 0
structure Ad where
 Fraction:Addr
 Way:Addr
 Growing:Addr
 Leaking:Addr
 Store:Addr
 Net:Addr
 GainError:Addr
 NoNumber:Addr
 TooMany:Addr
 NoWay:Addr
 Twice:Addr
 NoPlace:Addr
 OverBound:Addr
 Short:Addr
structure TX (K:W.Frag) (mg:Str->Option Value) (a:Ad):Prop where
 d_divisor:FDe K mg "divisor" s_divisor ["one","other"]
 d_in_lowest_terms:FDe K mg "in_lowest_terms" cJ ["top","bottom"]
 d_total:FDe K mg "total" s_total ["some"]
 d_amount:FDe K mg "amount" s_amount ["plan","name"]
 d_refuse_other_names:FDe K mg "refuse_other_names" ce ["net","plan"]
 d_sums_of_own_ways:FDe K mg "sums_of_own_ways" cz ["net","plan"]
 d_sums:FDe K mg "sums" s_sums ["net","plan"]
 d_worth:FDe K mg "worth" s_worth ["net","plan"]
 d_bound_passed:FDe K mg "bound_passed" dR ["way","part"]
 d_other_names:FDe K mg "other_names" eF ["net","plan"]
 d_faults:FDe K mg "faults" s_faults ["net","plan"]
 d_refuse:FDe K mg "refuse" s_refuse ["net","plan","fault"]
 d_checked:FDe K mg "checked" s_checked ["net","plan"]
 d_wants_by_name:FDe K mg "wants_by_name" dC ["places"]
 d_check_way:FDe K mg "check_way" s_check_way ["way","ahead","wants"]
 d_ways_by_name:FDe K mg "ways_by_name" dP ["ways","wants"]
 d_law_cell_at:FDe K mg "_law_cell_at" eJ ["_law_script","_law_k"]
 d_law_mix:FDe K mg "_law_mix" s_law_mix ["_law_script","_law_k"]
 d_law_whole:FDe K mg "_law_whole" s_law_whole ["_law_found"]
 d_law_divisor:FDe K mg "_law_divisor" eI ["_law_one","_law_other"]
 d_law_is:FDe K mg "_law_is" s_law_is ["_law_found","_law_top","_law_bottom"]
 d_law_name:FDe K mg "_law_name" s_law_name ["_law_k","_law_cell"]
 d_law_plus:FDe K mg "_law_plus" s_law_plus ["_law_one","_law_other"]
 d_law_times:FDe K mg "_law_times" s_law_times ["_law_one","_law_other"]
 d_law_high:FDe K mg "_law_high" s_law_high ["_law_put","_law_mode","_law_cell"]
 d_law_row:FDe K mg "_law_row" s_law_row ["_law_cell","_law_n","_law_mode","_law_far"]
 d_law_sums:FDe K mg "_law_sums" s_law_sums ["_law_rows","_law_n"]
 d_law_wants:FDe K mg "_law_wants" s_law_wants ["_law_script","_law_n","_law_mode","_law_rows"]
 d_law_way:FDe K mg "_law_way" s_law_way ["_law_row_here","_law_name_here","_law_names"]
 d_law_net:FDe K mg "_law_net" s_law_net ["_law_rows","_law_ways","_law_names","_law_wants_here"]
 d_law_plan:FDe K mg "_law_plan" s_law_plan ["_law_rows","_law_ways"]
 d_law_in_units:FDe K mg "_law_in_units" dQ ["_law_row_here","_law_k","_law_units_here"]
 d_law_first:FDe K mg "_law_first" s_law_first ["_law_net_here","_law_plan_here"]
 d_law_same:FDe K mg "_law_same" s_law_same ["_law_found","_law_due","_law_by"]
 d_law_sums_by:FDe K mg "_law_sums_by" eG ["_law_net_here","_law_plan_here","_law_names","_law_due","_law_units_here"]
 d_law_units:FDe K mg "_law_units" s_law_units ["_law_script","_law_n"]
 d_law_checked_by:FDe K mg "_law_checked_by" cY ["_law_net_here","_law_plan_here","_law_due","_law_units_here","_law_names","_law_rows","_law_ways"]
 d_law:FDe K mg "law" s_law ["_law_script"]
 cl_Fraction:Cls K a.Fraction
 mg_Fraction:mg "Fraction"=some (.ref a.Fraction)
 na_Fraction_top:NoAttr K a.Fraction "top"
 na_Fraction_bottom:NoAttr K a.Fraction "bottom"
 i_Fraction:IDe K a.Fraction "Fraction.__init__" dF ["self","top","bottom"] [[],[V.int 1]]
 m_Fraction_plus:MDe K a.Fraction "plus" "Fraction.plus" dE ["self","other"]
 m_Fraction_minus:MDe K a.Fraction "minus" "Fraction.minus" c6 ["self","other"]
 m_Fraction_times:MDe K a.Fraction "times" "Fraction.times" c5 ["self","other"]
 m_Fraction_under:MDe K a.Fraction "under" "Fraction.under" cZ ["self","other"]
 m_Fraction_sign:MDe K a.Fraction "sign" "Fraction.sign" dD ["self"]
 c1_Fraction:PySem.W.findIn K (.ref a.Fraction) "__class__"=some (some (.builtin "object.__class__"))
 c4_Fraction:PySem.W.mroIn K a.Fraction (.type "object")=some true
 cl_Way:Cls K a.Way
 mg_Way:mg "Way"=some (.ref a.Way)
 na_Way_name:NoAttr K a.Way "name"
 na_Way_start:NoAttr K a.Way "start"
 na_Way_goal:NoAttr K a.Way "goal"
 na_Way_high:NoAttr K a.Way "high"
 na_Way_cost:NoAttr K a.Way "cost"
 i_Way:IDe K a.Way "Way.__init__" dh ["self","name","start","goal","high","cost"] [[],[V.non,V.non]]
 c_Way:CDe K a.Way "Way.__init__" dh ["self","name","start","goal","high","cost"]
 m_Way_gain:MDe K a.Way "gain" "Way.gain" s_Way_gain ["self"]
 m_Way_out:MDe K a.Way "out" "Way.out" cx ["self","amount"]
 c1_Way:PySem.W.findIn K (.ref a.Way) "__class__"=some (some (.builtin "object.__class__"))
 c4_Way:PySem.W.mroIn K a.Way (.type "object")=some true
 cl_Growing:Cls K a.Growing
 mg_Growing:mg "Growing"=some (.ref a.Growing)
 na_Growing_rate:NoAttr K a.Growing "rate"
 na_Growing_name:NoAttr K a.Growing "name"
 na_Growing_start:NoAttr K a.Growing "start"
 na_Growing_goal:NoAttr K a.Growing "goal"
 na_Growing_high:NoAttr K a.Growing "high"
 na_Growing_cost:NoAttr K a.Growing "cost"
 i_Growing:IDe K a.Growing "Growing.__init__" cB ["self","name","start","goal","rate","high","cost"] [[],[V.non,V.non]]
 m_Growing_gain:MDe K a.Growing "gain" "Growing.gain" dU ["self"]
 m_Growing_out:MDe K a.Growing "out" "Way.out" cx ["self","amount"]
 c1_Growing:PySem.W.findIn K (.ref a.Growing) "__class__"=some (some (.builtin "object.__class__"))
 c4_Growing:PySem.W.mroIn K a.Growing (.type "object")=some true
 cl_Leaking:Cls K a.Leaking
 mg_Leaking:mg "Leaking"=some (.ref a.Leaking)
 na_Leaking_loss:NoAttr K a.Leaking "loss"
 na_Leaking_name:NoAttr K a.Leaking "name"
 na_Leaking_start:NoAttr K a.Leaking "start"
 na_Leaking_goal:NoAttr K a.Leaking "goal"
 na_Leaking_high:NoAttr K a.Leaking "high"
 na_Leaking_cost:NoAttr K a.Leaking "cost"
 i_Leaking:IDe K a.Leaking "Leaking.__init__" cA ["self","name","start","goal","loss","high","cost"] [[],[V.non,V.non]]
 m_Leaking_gain:MDe K a.Leaking "gain" "Leaking.gain" bR ["self"]
 m_Leaking_out:MDe K a.Leaking "out" "Way.out" cx ["self","amount"]
 c1_Leaking:PySem.W.findIn K (.ref a.Leaking) "__class__"=some (some (.builtin "object.__class__"))
 c4_Leaking:PySem.W.mroIn K a.Leaking (.type "object")=some true
 cl_Store:Cls K a.Store
 mg_Store:mg "Store"=some (.ref a.Store)
 na_Store_loss:NoAttr K a.Store "loss"
 na_Store_name:NoAttr K a.Store "name"
 na_Store_start:NoAttr K a.Store "start"
 na_Store_goal:NoAttr K a.Store "goal"
 na_Store_high:NoAttr K a.Store "high"
 na_Store_cost:NoAttr K a.Store "cost"
 m_Store_gain:MDe K a.Store "gain" "Leaking.gain" bR ["self"]
 m_Store_out:MDe K a.Store "out" "Way.out" cx ["self","amount"]
 c1_Store:PySem.W.findIn K (.ref a.Store) "__class__"=some (some (.builtin "object.__class__"))
 c4_Store:PySem.W.mroIn K a.Store (.type "object")=some true
 cl_Net:Cls K a.Net
 mg_Net:mg "Net"=some (.ref a.Net)
 na_Net_wants:NoAttr K a.Net "wants"
 na_Net_ways:NoAttr K a.Net "ways"
 i_Net:IDe K a.Net "Net.__init__" s_Net_init ["self","places","ways"] [[]]
 m_Net_names:MDe K a.Net "names" "Net.names" s_Net_names ["self"]
 m_Net_want:MDe K a.Net "want" "Net.want" s_Net_want ["self","place"]
 m_Net_way:MDe K a.Net "way" "Net.way" s_Net_way ["self","name"]
 m_Net_all_ways:MDe K a.Net "all_ways" "Net.all_ways" dS ["self"]
 no_Net_times:PySem.W.findIn K (.ref a.Net) "times"=some none
 no_Net_out:PySem.W.findIn K (.ref a.Net) "out"=some none
 c2:PySem.W.specialIn K (.builtin "object.__class__") "__get__"=some (some (.builtin "getset_descriptor.__get__"))
 c3:PySem.W.takesIn K (.builtin "object.__class__")=some true
 mg_GainError:mg "GainError"=some (.ref a.GainError)
 mg_NoNumber:mg "NoNumber"=some (.ref a.NoNumber)
 mg_TooMany:mg "TooMany"=some (.ref a.TooMany)
 mg_NoWay:mg "NoWay"=some (.ref a.NoWay)
 xi_NoWay:XiDe K a.NoWay "NoWay.__init__" dj ["self","name"]
 xs_NoWay:ExI K a.NoWay
 na_NoWay_name:NoAttr K a.NoWay "name"
 br_NoWay:ClsRd K a.GainError
 bf_NoWay:PySem.W.findCls K (.ref a.GainError) (.type "type") "__init__"=some (.val (.builtin "ValueError.__init__"))
 mg_Twice:mg "Twice"=some (.ref a.Twice)
 mg_NoPlace:mg "NoPlace"=some (.ref a.NoPlace)
 mg_OverBound:mg "OverBound"=some (.ref a.OverBound)
 xi_OverBound:XiDe K a.OverBound "OverBound.__init__" bX ["self","name","bound"]
 xs_OverBound:ExI K a.OverBound
 na_OverBound_bound:NoAttr K a.OverBound "bound"
 na_OverBound_name:NoAttr K a.OverBound "name"
 hd_OverBound:PySem.W.hasDictIn K a.OverBound=true
 br_OverBound:ClsRd K a.GainError
 bf_OverBound:PySem.W.findCls K (.ref a.GainError) (.type "type") "__init__"=some (.val (.builtin "ValueError.__init__"))
 mg_Short:mg "Short"=some (.ref a.Short)
 xi_Short:XiDe K a.Short "Short.__init__" di ["self","place","lacking"]
 xs_Short:ExI K a.Short
 na_Short_lacking:NoAttr K a.Short "lacking"
 na_Short_place:NoAttr K a.Short "place"
 hd_Short:PySem.W.hasDictIn K a.Short=true
 br_Short:ClsRd K a.GainError
 bf_Short:PySem.W.findCls K (.ref a.GainError) (.type "type") "__init__"=some (.val (.builtin "ValueError.__init__"))
 ca1_OverBound:PySem.W.instIn K (.ref a.OverBound) (.type "tuple")=some false
 ca2_OverBound:∃ cd,PySem.W.clsIn K a.OverBound=some cd
 ca3_OverBound:PySem.W.subIn K (.ref a.OverBound) (.type "BaseException")=some true
 ca1_Short:PySem.W.instIn K (.ref a.Short) (.type "tuple")=some false
 ca2_Short:∃ cd,PySem.W.clsIn K a.Short=some cd
 ca3_Short:PySem.W.subIn K (.ref a.Short) (.type "BaseException")=some true
 su_OverBound_OverBound:PySem.W.subIn K (.ref a.OverBound) (.ref a.OverBound)=some true
 su_Short_OverBound:PySem.W.subIn K (.ref a.Short) (.ref a.OverBound)=some false
 su_Short_Short:PySem.W.subIn K (.ref a.Short) (.ref a.Short)=some true
 k_Fraction_Fraction:PySem.W.kitOne K (.ref a.Fraction) (.ref a.Fraction)=some true
 k_Way_Store:PySem.W.kitOne K (.ref a.Way) (.ref a.Store)=some false
 k_Growing_Store:PySem.W.kitOne K (.ref a.Growing) (.ref a.Store)=some false
 k_Leaking_Store:PySem.W.kitOne K (.ref a.Leaking) (.ref a.Store)=some false
 k_int_bool:PySem.W.kitOne K (.type "int") (.type "bool")=some false
 k_dict_dict:PySem.W.kitOne K (.type "dict") (.type "dict")=some true
 k_int_int:PySem.W.kitOne K (.type "int") (.type "int")=some true
 xga_OverBound:PySem.W.findIn K (.ref a.OverBound) "__getattribute__"=some (some (.builtin "BaseException.__getattribute__"))
 xgh_OverBound:PySem.W.findIn K (.ref a.OverBound) "__getattr__"=some none
 xbe_OverBound:PySem.W.mroIn K a.OverBound (.type "BaseException")=some true
 xca_OverBound:PySem.W.findIn K (.ref a.OverBound) "__class__"=some (some (.builtin "object.__class__"))
 xob_OverBound:PySem.W.mroIn K a.OverBound (.type "object")=some true
 xcl_OverBound:∃ cd,PySem.W.clsIn K a.OverBound=some cd
 xga_Short:PySem.W.findIn K (.ref a.Short) "__getattribute__"=some (some (.builtin "BaseException.__getattribute__"))
 xgh_Short:PySem.W.findIn K (.ref a.Short) "__getattr__"=some none
 xbe_Short:PySem.W.mroIn K a.Short (.type "BaseException")=some true
 xca_Short:PySem.W.findIn K (.ref a.Short) "__class__"=some (some (.builtin "object.__class__"))
 xob_Short:PySem.W.mroIn K a.Short (.type "object")=some true
 xcl_Short:∃ cd,PySem.W.clsIn K a.Short=some cd
 gi_MOST_PLACES:∃ tk,mg "MOST_PLACES"=some (.int 12 tk)
 gi_MOST_WAYS:∃ tk,mg "MOST_WAYS"=some (.int 24 tk)
 z_abs:mg "abs"=none
 z_bool:mg "bool"=none
 z_dict:mg "dict"=none
 z_int:mg "int"=none
 z_isinstance:mg "isinstance"=none
 z_len:mg "len"=none
 z_list:mg "list"=none
 z_max:mg "max"=none
 z_range:mg "range"=none
 z_sorted:mg "sorted"=none
open PySem L2 in
local macro_rules | `(tactic| walk_at "sc") => `(tactic| exact ⟨rfl, rfl, rfl, by decide +kernel, rfl, by decide +kernel, by decide +kernel⟩)
section
variable {P:Program} {w:World} {K:W.Frag} {mg:Str->Option Value} {base:Heap} {a:Ad}
theorem TX.exa_OverBound (T:TX K mg a):ExA K a.OverBound:=⟨T.xga_OverBound,T.xgh_OverBound,T.xbe_OverBound,T.xca_OverBound,T.c2,T.c3,T.xob_OverBound,T.xcl_OverBound⟩
theorem TX.exa_Short (T:TX K mg a):ExA K a.Short:=⟨T.xga_Short,T.xgh_Short,T.xbe_Short,T.xca_Short,T.c2,T.c3,T.xob_Short,T.xcl_Short⟩
theorem sc_divisor:FnScope ["one","other","rest"] ["one","other"] (ah s_divisor):=by walk_at "sc"
theorem sc_in_lowest_terms:FnScope ["top","bottom","made"] ["top","bottom"] (ah cJ):=by walk_at "sc"
theorem sc_total:FnScope ["some","top","bottom","shared","number","common","own","left"] ["some"] (ah s_total):=by walk_at "sc"
theorem sc_amount:FnScope ["plan","name"] ["plan","name"] (ah s_amount):=by walk_at "sc"
theorem sc_refuse_other_names:FnScope ["net","plan","name"] ["net","plan"] (ah ce):=by walk_at "sc"
theorem sc_sums_of_own_ways:FnScope ["net","plan","result","place","way","part"] ["net","plan"] (ah cz):=by walk_at "sc"
theorem sc_sums:FnScope ["net","plan"] ["net","plan"] (ah s_sums):=by walk_at "sc"
theorem sc_worth:FnScope ["net","plan"] ["net","plan"] (ah s_worth):=by walk_at "sc"
theorem sc_bound_passed:FnScope ["way","part"] ["way","part"] (ah dR):=by walk_at "sc"
theorem sc_other_names:FnScope ["net","plan","own","way"] ["net","plan"] (ah eF):=by walk_at "sc"
theorem sc_faults:FnScope ["net","plan","found","way","come","place"] ["net","plan"] (ah s_faults):=by walk_at "sc"
theorem sc_refuse:FnScope ["net","plan","fault","word","name"] ["net","plan","fault"] (ah s_refuse):=by walk_at "sc"
theorem sc_checked:FnScope ["net","plan","found"] ["net","plan"] (ah s_checked):=by walk_at "sc"
theorem sc_wants_by_name:FnScope ["places","wants","name","want"] ["places"] (ah dC):=by walk_at "sc"
theorem sc_check_way:FnScope ["way","ahead","wants","place"] ["way","ahead","wants"] (ah s_check_way):=by walk_at "sc"
theorem sc_ways_by_name:FnScope ["ways","wants","ahead","way"] ["ways","wants"] (ah dP):=by walk_at "sc"
theorem sc_law_cell_at:FnScope ["_law_script","_law_k"] ["_law_script","_law_k"] (ah eJ):=by walk_at "sc"
theorem sc_law_mix:FnScope ["_law_script","_law_k"] ["_law_script","_law_k"] (ah s_law_mix):=by walk_at "sc"
theorem sc_law_whole:FnScope ["_law_found"] ["_law_found"] (ah s_law_whole):=by walk_at "sc"
theorem sc_law_divisor:FnScope ["_law_one","_law_other","_law_rest"] ["_law_one","_law_other"] (ah eI):=by walk_at "sc"
theorem sc_law_is:FnScope ["_law_found","_law_top","_law_bottom"] ["_law_found","_law_top","_law_bottom"] (ah s_law_is):=by walk_at "sc"
theorem sc_law_name:FnScope ["_law_k","_law_cell","_law_signs"] ["_law_k","_law_cell"] (ah s_law_name):=by walk_at "sc"
theorem sc_law_plus:FnScope ["_law_one","_law_other"] ["_law_one","_law_other"] (ah s_law_plus):=by walk_at "sc"
theorem sc_law_times:FnScope ["_law_one","_law_other"] ["_law_one","_law_other"] (ah s_law_times):=by walk_at "sc"
theorem sc_law_high:FnScope ["_law_put","_law_mode","_law_cell","_law_by","_law_high_here"] ["_law_put","_law_mode","_law_cell"] (ah s_law_high):=by walk_at "sc"
theorem sc_law_row:FnScope ["_law_cell","_law_n","_law_mode","_law_far","_law_start","_law_goal","_law_kind","_law_gain","_law_more","_law_put","_law_cost"] ["_law_cell","_law_n","_law_mode","_law_far"] (ah s_law_row):=by walk_at "sc"
theorem sc_law_sums:FnScope ["_law_rows","_law_n","_law_told","_law_kind","_law_start","_law_goal","_law_gain","_law_put","_law_high_here","_law_cost"] ["_law_rows","_law_n"] (ah s_law_sums):=by walk_at "sc"
theorem sc_law_wants:FnScope ["_law_script","_law_n","_law_mode","_law_rows","_law_told","_law_k","_law_by"] ["_law_script","_law_n","_law_mode","_law_rows"] (ah s_law_wants):=by walk_at "sc"
theorem sc_law_way:FnScope ["_law_row_here","_law_name_here","_law_names","_law_kind","_law_start","_law_goal","_law_gain","_law_put","_law_high_here","_law_cost","_law_bound","_law_price"] ["_law_row_here","_law_name_here","_law_names"] (ah s_law_way):=by walk_at "sc"
theorem sc_law_net:FnScope ["_law_rows","_law_ways","_law_names","_law_wants_here","_law_places"] ["_law_rows","_law_ways","_law_names","_law_wants_here"] (ah s_law_net):=by walk_at "sc"
theorem sc_law_plan:FnScope ["_law_rows","_law_ways","_law_plan_here","_law_k"] ["_law_rows","_law_ways"] (ah s_law_plan):=by walk_at "sc"
theorem sc_law_in_units:FnScope ["_law_row_here","_law_k","_law_units_here","_law_kind","_law_start","_law_goal","_law_gain","_law_put","_law_high_here","_law_cost","_law_here","_law_back"] ["_law_row_here","_law_k","_law_units_here"] (ah dQ):=by walk_at "sc"
theorem sc_law_first:FnScope ["_law_net_here","_law_plan_here","_law_told","_law_found","e"] ["_law_net_here","_law_plan_here"] (ah s_law_first):=by walk_at "sc"
theorem sc_law_same:FnScope ["_law_found","_law_due","_law_by"] ["_law_found","_law_due","_law_by"] (ah s_law_same):=by walk_at "sc"
theorem sc_law_sums_by:FnScope ["_law_net_here","_law_plan_here","_law_names","_law_due","_law_units_here","_law_found","_law_k"] ["_law_net_here","_law_plan_here","_law_names","_law_due","_law_units_here"] (ah eG):=by walk_at "sc"
theorem sc_law_units:FnScope ["_law_script","_law_n","_law_units_here","_law_k","_law_cell"] ["_law_script","_law_n"] (ah s_law_units):=by walk_at "sc"
theorem sc_law_checked_by:FnScope ["_law_net_here","_law_plan_here","_law_due","_law_units_here","_law_names","_law_rows","_law_ways","_law_found","_law_by"] ["_law_net_here","_law_plan_here","_law_due","_law_units_here","_law_names","_law_rows","_law_ways"] (ah cY):=by walk_at "sc"
theorem sc_law:FnScope ["_law_script","_law_n","_law_mode","_law_far","_law_names","_law_many","_law_rows","_law_ways","_law_units_here","_law_wants_here","_law_net_here","_law_plan_here","_law_turned_rows","_law_wished","_law_other","_law_grown","_law_due","_law_cut","_law_places","_law_known","_law_another"] ["_law_script"] (ah s_law):=by walk_at "sc"
theorem sc_Fraction_init:FnScope ["self","top","bottom","common"] ["self","top","bottom"] (ah dF):=by walk_at "sc"
theorem sc_Fraction_plus:FnScope ["self","other","common","own","top","left"] ["self","other"] (ah dE):=by walk_at "sc"
theorem fb:FnScope ["self","other"] ["self","other"] (ah c6):=by walk_at "sc"
theorem sc_Fraction_times:FnScope ["self","other","first","second","top"] ["self","other"] (ah c5):=by walk_at "sc"
theorem e9:FnScope ["self","other"] ["self","other"] (ah cZ):=by walk_at "sc"
theorem sc_Fraction_sign:FnScope ["self"] ["self"] (ah dD):=by walk_at "sc"
theorem sc_Way_init:FnScope ["self","name","start","goal","high","cost"] ["self","name","start","goal","high","cost"] (ah dh):=by walk_at "sc"
theorem sc_Way_gain:FnScope ["self"] ["self"] (ah s_Way_gain):=by walk_at "sc"
theorem dg:FnScope ["self","amount"] ["self","amount"] (ah cx):=by walk_at "sc"
theorem sc_Growing_init:FnScope ["self","name","start","goal","rate","high","cost"] ["self","name","start","goal","rate","high","cost"] (ah cB):=by walk_at "sc"
theorem sc_Growing_gain:FnScope ["self"] ["self"] (ah dU):=by walk_at "sc"
theorem sc_Leaking_init:FnScope ["self","name","start","goal","loss","high","cost"] ["self","name","start","goal","loss","high","cost"] (ah cA):=by walk_at "sc"
theorem dA:FnScope ["self"] ["self"] (ah bR):=by walk_at "sc"
theorem sc_Net_init:FnScope ["self","places","ways"] ["self","places","ways"] (ah s_Net_init):=by walk_at "sc"
theorem sc_Net_names:FnScope ["self"] ["self"] (ah s_Net_names):=by walk_at "sc"
theorem sc_Net_want:FnScope ["self","place"] ["self","place"] (ah s_Net_want):=by walk_at "sc"
theorem sc_Net_way:FnScope ["self","name"] ["self","name"] (ah s_Net_way):=by walk_at "sc"
theorem sc_Net_all_ways:FnScope ["self"] ["self"] (ah dS):=by walk_at "sc"
theorem sc_NoWay_init:FnScope ["self","name"] ["self","name"] (ah dj):=by walk_at "sc"
theorem e7:FnScope ["self","name","bound"] ["self","name","bound"] (ah bX):=by walk_at "sc"
theorem sc_Short_init:FnScope ["self","place","lacking"] ["self","place","lacking"] (ah di):=by walk_at "sc"
end
end G
open PySem L2 in
local macro_rules | `(tactic| walk_at "kit") => `(tactic| first | exact G.TX.k_Fraction_Fraction (by assumption) | exact G.TX.k_Way_Store (by assumption) | exact G.TX.k_Growing_Store (by assumption) | exact G.TX.k_Leaking_Store (by assumption) | exact G.TX.k_int_bool (by assumption) | exact G.TX.k_dict_dict (by assumption) | exact G.TX.k_int_int (by assumption))
open PySem L2 in
local macro_rules | `(tactic| walk_at "sm") => `(tactic| first | assumption | (refine And.left (?_ : G.SmR _); assumption) | (refine And.right (?_ : G.SmR _); assumption))
open PySem L2 in
local macro_rules | `(tactic| walk_at "fa") => `(tactic| first | rfl | assumption | exact True.intro | exact (fun _ h => h) | ((with_reducible show L2.TyOf _ _ _ _); first | exact TyOf.int _ | exact TyOf.str _ | exact TyOf.bl _ | exact TyOf.non | exact G.FrAt.ty (G.TX.fr (by assumption)) (by walk_at "fa")) | ((with_reducible show PySem.W.kitOne _ _ _ = _); walk_at "kit") | ((with_reducible show G.FrAt _ _ _ _); apply G.FrAt.up; assumption; walk_at "fa") | ((with_reducible show L2.SqL _ _ _ _); apply Same.seq; assumption; walk_at "fa") | (show (0 : Int) < _; decide) | (refine (And.intro ?_ ?_ : CDiv _ _) <;> decide) | (refine (And.intro ?_ (And.intro ?_ ?_) : CPow _ _) <;> decide) | exact (PySem.IntMulOk.of_right (by decide)) | exact (PySem.IntMulOk.of_left (by decide)) | (refine (And.intro ?_ ?_ : CMulB _ _) <;> walk_at "sm"))
open PySem L2 in
local macro_rules | `(tactic| walk_at "rd") => `(tactic| repeat (first | refine L2.ItVar.mk _ (by walk_at "fa") ?_ | refine L2.ItB.mk _ (by walk_at "fa") ?_ | refine L2.ItTest.mk _ (by walk_at "fa") ?_ | refine L2.IrU.mk _ (by walk_at "fa") ?_ | refine L2.IrI0.mk _ _ (by walk_at "fa") (by walk_at "fa") ?_ | refine L2.IrIxL.mk _ _ _ _ (by walk_at "fa") (by walk_at "fa") (by walk_at "fa") (by walk_at "fa") ?_ | refine L2.IrIxT.mk _ _ _ _ (by walk_at "fa") (by walk_at "fa") (by walk_at "fa") (by walk_at "fa") ?_ | refine L2.ItFld.mk _ _ _ _ _ (by walk_at "fa") (by walk_at "fa") (by walk_at "fa") (by walk_at "fa") (by walk_at "fa") ?_ | apply @Exists.intro V | apply @Exists.intro Int | apply @Exists.intro Addr | apply @Exists.intro Rat | apply @Exists.intro Bool | apply @Exists.intro Value | apply @Exists.intro (List V) | apply @Exists.intro (List (Str × V)) | apply @Exists.intro Str | apply @Exists.intro (List Int) | refine And.intro (by walk_at "fa") ?_ | refine L2.iteT ?_ | refine L2.iteF ?_))
namespace G
open PySem L2
section
variable {P:Program} {w:World} {K:W.Frag} {mg:Str->Option Value} {base:Heap} {a:Ad}
theorem TX.fr (T:TX K mg a):FrC K a.Fraction:=⟨T.cl_Fraction,T.na_Fraction_top,T.na_Fraction_bottom,T.c1_Fraction,T.c2,T.c3,T.c4_Fraction⟩
theorem gcd_turn {a b n m:Int} (h:gcd n m=gcd a b) (hm:0<=m) (p:m≠0):0<=n % m/\n % m<m/\gcd m (n % m)=gcd a b:=
 ⟨ii n p,g6 n (by omega),by rw [gcd_step n m (by omega),h]⟩
theorem bz (T:TX K mg a):FnB P w K mg base CX0 "divisor" 1 ["one","other"] spDiv:=by
 refine T.d_divisor.ok sc_divisor (λ vs H Q E h=>?_) (λ f cdv A outer s H vs Q E hr h=>?_)
 ·obtain ⟨a,b,rfl,_⟩:=h;rfl
 ·obtain ⟨a,b,rfl,k⟩:=h
  refine ⟨_,(af (al (i:=0) sc_divisor.nd rfl (Or.inl rfl) (aC cH (by rfl) T.z_abs g9 (aa (pv 0) ad)))
   (af (al (i:=1) sc_divisor.nd rfl (Or.inl rfl) (aC cH (by rfl) T.z_abs g9 (aa (pv 1) ad)))
   (af (ps_while gA (ar op_ne (pv 1) ac (aA _)) (af (al (i:=2) sc_divisor.nd rfl (Or.inl rfl) (aj aJ (pv 0) (pv 1)))
   (af (al (i:=0) sc_divisor.nd rfl (Or.inl rfl) (pv 1))
   (ag (al (i:=1) sc_divisor.nd rfl (Or.inl rfl) (pv 2))))))
   (ag (aq (pv 0)))))),?_⟩
  try dsimp only [aG,Cx.nox,Cx.wish]
  refine ⟨_,rfl,_,rfl,_,rfl,_,rfl,?_⟩;refine while_by (λ σ H'=>∃ (n m:Int) (r:Option V),σ=[some (.int n),some (.int m),r]/\H'=H/\0<=n/\0<=m/\gcd n m=gcd a b) (λ σ _=>match σ with | [_,some (.int m),_]=>m.toNat | _=>0) ?_ ?_ ?_
  ·refine ⟨_,_,_,rfl,rfl,?_,?_,gcd_abs a b⟩ <;> split <;> omega
  ·rintro σ H' ⟨n,m,r,rfl,rfl,hn,hm,hg⟩;refine ⟨_,rfl,rfl,_,rfl,?_⟩;by_cases z:m=0
   ·subst z;refine iteNS rfl ?_;refine ⟨_,rfl,?_⟩;rw [gcd_zero n hn] at hg;rw [hg];exact k
   ·refine eD (by rw [neV z];rfl) ?_;obtain ⟨g1,g2,g3⟩:=gcd_turn hg hm z;refine ⟨_,rfl,_,rfl,_,_,rfl,rfl,(by show (0:Int)<m;omega),_,rfl,_,rfl,⟨_,_,_,rfl,rfl,hm,g1,g3⟩,?_⟩;show (n % m).toNat<m.toNat;omega
  ·rintro σ H' Q1 Q2 hq ⟨v,e,s1,c,ec,q⟩;exact ⟨v,e,s1,c,ec,hq _ _ q⟩
theorem ok_init (T:TX K mg a):∀ dvs∈[[],[V.int 1]],MkB P w K mg base CX0 a.Fraction 2 ["self","top","bottom"] dvs (spInit a.Fraction):=by
 refine T.i_Fraction.ok sc_Fraction_init (λ vs H Q E h=>?_) (λ f cdv A outer s H vs Q E hr h=>?_)
 ·obtain ⟨p,dx,n,b,rfl,_⟩:=h;rfl
 ·obtain ⟨p,dx,n,b,rfl,hp,hb,sb,k⟩:=h
  refine ⟨_,(af (aD (ar bO (pv 2) ac (aA _)) (ag bt) ap)
   (af (al (i:=3) sc_Fraction_init.nd rfl (Or.inl rfl) (aw (bz T) hr ak (aa (pv 1) (aa (pv 2) ad))))
   (af (aD (ar dX (pv 2) ac (aA _)) (ag (al (i:=3) sc_Fraction_init.nd rfl (Or.inl rfl) (pe_un un_neg (pv 3)))) ap)
   (af (bZ (pv 0) (aj a6 (pv 1) (pv 3)) rfl)
   (ag (bZ (pv 0) (aj a6 (pv 2) (pv 3)) rfl)))))),?_⟩
  try dsimp only [aG,Cx.nox,Cx.wish]
  refine ⟨_,rfl,rfl,_,rfl,?_⟩;refine b9 (neV hb) ?_;refine ⟨_,rfl,_,rfl,n,b,rfl,?_⟩;refine ⟨_,rfl,_,_,rfl,rfl,_,rfl,?_⟩;obtain ⟨i1,i2⟩:=init_spec n b hb;have gp:=bQ n hb;have gs:=Sm.gcd_r n hb sb
  have fin:∀ c:Int,c≠0->Sm c->n.fdiv c=(Rat.divInt n b).num->b.fdiv c=((Rat.divInt n b).den:Int)->
    tSeq (sFld K (tVar 0) (tOp (rI CDivB λ i j=>.int (i.fdiv j)) (tVar 1) (tVar 3)) "top") (sFld K (tVar 0) (tOp (rI CDivB λ i j=>.int (i.fdiv j)) (tVar 2) (tVar 3)) "bottom") { nx:=λ _ H'=>Q .non H',rt:=Q } [some (.ref p),some (.int n),some (.int b),some (.int c)] H:=by
   intro c hc hs e1 e2;refine ⟨_,rfl,_,rfl,_,_,rfl,rfl,⟨hc,hs⟩,_,rfl,p,a.Fraction,dx,_,rfl,hp,T.cl_Fraction,T.na_Fraction_top,(by show 0<1000;decide),?_⟩;refine ⟨_,rfl,_,rfl,_,_,rfl,rfl,⟨hc,hs⟩,_,rfl,p,a.Fraction,dx,_,rfl,ae,T.cl_Fraction,T.na_Fraction_bottom,(by show 1<1000;decide),?_⟩;refine k _ ?_;rw [eU];dsimp only;rw [e1,e2,ff_new]
  refine ifB (λ hn=>?_) (λ hn=>?_)
  ·rw [if_pos hn] at i1 i2;refine ⟨_,rfl,_,rfl,?_⟩;exact fin _ (by omega) (gs.le (by omega)) i1 i2
  ·rw [if_neg hn] at i1 i2;exact fin _ (by omega) gs i1 i2
theorem sm1:Sm 1:=Nat.one_lt_two_pow (by decide)
theorem mk2 (T:TX K mg a):MkB P w K mg base CX0 a.Fraction 2 ["self","top","bottom"] [] (spInit a.Fraction):=ok_init T _ (by simp)
theorem mk1 (T:TX K mg a):MkB P w K mg base CX0 a.Fraction 2 ["self","top","bottom"] [.int 1] (spInit a.Fraction):=ok_init T _ (by simp)
theorem br (T:TX K mg a):FnB P w K mg base CX0 "in_lowest_terms" 4 ["top","bottom"] (spLow a.Fraction):=by
 refine T.d_in_lowest_terms.ok sc_in_lowest_terms (λ vs H Q E h=>?_) (λ f cdv A outer s H vs Q E hr h=>?_)
 ·obtain ⟨t,b,rfl,_⟩:=h;rfl
 ·obtain ⟨t,b,rfl,k⟩:=h
  refine ⟨_,(af (al (i:=2) sc_in_lowest_terms.nd rfl (Or.inl rfl) (bo (mk1 T) hr T.mg_Fraction ak (aa ac ad)))
   (af (bZ (pv 2) (pv 0) rfl)
   (af (bZ (pv 2) (pv 1) rfl)
   (ag (aq (pv 2)))))),?_⟩
  try dsimp only [aG,Cx.nox,Cx.wish]
  refine ⟨0,1,rfl,by decide,sm1,λ x H1 nx s1 ⟨dx,hx⟩=>?_⟩;refine ⟨_,rfl,_,rfl,x,a.Fraction,dx,_,rfl,hx,T.cl_Fraction,T.na_Fraction_top,(by show 2<1000;decide),?_⟩;refine ⟨_,rfl,_,rfl,x,a.Fraction,dx,_,rfl,ae,T.cl_Fraction,T.na_Fraction_bottom,(by show 2<1000;decide),?_⟩;refine ⟨_,rfl,?_⟩;refine k x dx _ nx (λ c o e=>?_) ?_
  ·rw [ai (av e nx),ai (av e nx)];exact s1 _ _ e
  ·rw [ae,ff_put]
noncomputable abbrev always:Rat->Rat->Prop:=λ _ _=>True
theorem ok_plus (T:TX K mg a):MtB P w K mg base CX0 a.Fraction "plus" 5 ["self","other"] (spR2 a.Fraction (λ x y=>x+y) always):=by
 refine T.m_Fraction_plus.ok sc_Fraction_plus (λ vs H Q E h=>?_) (λ f cdv A outer s H vs Q E hr h=>?_)
 ·obtain ⟨p,q,x,y,rfl,_⟩:=h;rfl
 ·obtain ⟨p,q,x,y,rfl,hp,hq,sx,sy,_,k⟩:=h
  refine ⟨_,(af (al (i:=2) sc_Fraction_plus.nd rfl (Or.inl rfl) (aw (bz T) hr ak (aa (bp T.fr (pv 0)) (aa (bp T.fr (pv 1)) ad))))
   (af (al (i:=3) sc_Fraction_plus.nd rfl (Or.inl rfl) (aj a6 (bp T.fr (pv 0)) (pv 2)))
   (af (al (i:=4) sc_Fraction_plus.nd rfl (Or.inl rfl) (aj aY (aj aP (bF T.fr (pv 0)) (aj a6 (bp T.fr (pv 1)) (pv 2))) (aj aP (bF T.fr (pv 1)) (pv 3))))
   (af (al (i:=5) sc_Fraction_plus.nd rfl (Or.inl rfl) (aw (bz T) hr ak (aa (pv 4) (aa (pv 2) ad))))
   (ag (aq (aw (br T) hr ak (aa (aj a6 (pv 4) (pv 5)) (aa (aj aP (pv 3) (aj a6 (bp T.fr (pv 1)) (pv 5))) ad))))))))),?_⟩
  try dsimp only [aG,Cx.nox,Cx.wish]
  have hx:=d6 x;have hy:=d6 y;have xp:=dr x;have yp:=dr y;have gp:=bQ (x.den:Int) hy;have gs:=Sm.gcd_r (x.den:Int) hy sy.2;have gn:gcd x.den y.den≠0:=by omega
  have so:Sm ((x.den:Int).fdiv (gcd x.den y.den)):=sx.2.le (cR _ gp (by omega));have so2:Sm ((y.den:Int).fdiv (gcd x.den y.den)):=sy.2.le (cR _ gp (by omega));refine ⟨_,rfl,p,x,rfl,hp,_,rfl,q,y,rfl,hq,_,_,rfl,?_⟩;refine ⟨_,rfl,p,x,rfl,hp,_,rfl,_,_,rfl,rfl,⟨by omega,gs⟩,?_⟩;refine ⟨_,rfl,p,x,rfl,hp,_,rfl,q,y,rfl,hq,_,rfl,_,_,rfl,rfl,⟨by omega,gs⟩,_,_,rfl,rfl,⟨sx.1,so2⟩,_,rfl,q,y,rfl,hq,_,rfl,_,_,rfl,rfl,⟨sy.1,so⟩,_,_,rfl,rfl,?_⟩;refine ⟨_,rfl,_,rfl,_,_,rfl,?_⟩;generalize htop:x.num*(y.den:Int).fdiv (gcd x.den y.den)+y.num*(x.den:Int).fdiv (gcd x.den y.den)=top;have lp:=bQ top gn;have ls:=Sm.gcd_r top gn gs;refine ⟨_,rfl,_,rfl,_,_,rfl,rfl,⟨by omega,ls⟩,_,rfl,_,rfl,q,y,rfl,hq,_,rfl,_,_,rfl,rfl,⟨by omega,ls⟩,_,_,rfl,rfl,⟨so,sy.2.le (cR _ lp (by omega))⟩,_,_,rfl,?_⟩;intro r dx H' nr s1 h1;obtain ⟨e1,e2⟩:=add_spec x y;try dsimp only at e1 e2
  rw [htop] at e1 e2;refine k r H' nr s1 ⟨dx,?_⟩;show H' r=some (.ins a.Fraction dx (ff (x+y).num (x+y).den));try rw [htop] at h1
  rw [h1,<- e1,<- e2]
theorem ok_minus (T:TX K mg a):MtB P w K mg base CX0 a.Fraction "minus" 6 ["self","other"] (spR2 a.Fraction (λ x y=>x-y) always):=by
 refine T.m_Fraction_minus.ok fb (λ vs H Q E h=>?_) (λ f cdv A outer s H vs Q E hr h=>?_)
 ·obtain ⟨p,q,x,y,rfl,_⟩:=h;rfl
 ·obtain ⟨p,q,x,y,rfl,hp,hq,sx,sy,_,k⟩:=h;refine ⟨_,(ag (aq (cU T.fr (pv 0) (ok_plus T) hr ak (aa (aw (br T) hr ak (aa (pe_un un_neg (bF T.fr (pv 1))) (aa (bp T.fr (pv 1)) ad))) ad)))),?_⟩;try dsimp only [aG,Cx.nox,Cx.wish]
  refine ⟨_,rfl,p,x,rfl,hp,_,rfl,q,y,rfl,hq,_,rfl,_,rfl,q,y,rfl,hq,_,_,rfl,λ r dx H1 nr s1 h1=>?_⟩;have f1:FrAt a.Fraction H1 r (-y):=⟨dx,h1⟩;refine ⟨p,r,x,-y,rfl,hp.mono s1,f1,sx,⟨by show Sm (-y.num);exact sy.1.le (by omega),sy.2⟩,trivial,λ r' H2 nr' s2 f2=>?_⟩;refine k r' H2 (s1.free nr') (s1.trans s2) ?_;show FrAt a.Fraction H2 r' (x-y);rw [Rat.sub_eq_add_neg];exact f2
theorem ok_times (T:TX K mg a):MtB P w K mg base CX0 a.Fraction "times" 5 ["self","other"] (spR2 a.Fraction (λ x y=>x*y) always):=by
 refine T.m_Fraction_times.ok sc_Fraction_times (λ vs H Q E h=>?_) (λ f cdv A outer s H vs Q E hr h=>?_)
 ·obtain ⟨p,q,x,y,rfl,_⟩:=h;rfl
 ·obtain ⟨p,q,x,y,rfl,hp,hq,sx,sy,_,k⟩:=h
  refine ⟨_,(af (al (i:=2) sc_Fraction_times.nd rfl (Or.inl rfl) (aw (bz T) hr ak (aa (bF T.fr (pv 0)) (aa (bp T.fr (pv 1)) ad))))
   (af (al (i:=3) sc_Fraction_times.nd rfl (Or.inl rfl) (aw (bz T) hr ak (aa (bF T.fr (pv 1)) (aa (bp T.fr (pv 0)) ad))))
   (af (al (i:=4) sc_Fraction_times.nd rfl (Or.inl rfl) (aj aP (aj a6 (bF T.fr (pv 0)) (pv 2)) (aj a6 (bF T.fr (pv 1)) (pv 3))))
   (ag (aq (aw (br T) hr ak (aa (pv 4) (aa (aj aP (aj a6 (bp T.fr (pv 0)) (pv 3)) (aj a6 (bp T.fr (pv 1)) (pv 2))) ad)))))))),?_⟩
  try dsimp only [aG,Cx.nox,Cx.wish]
  have hx:=d6 x;have hy:=d6 y;have xp:=dr x;have yp:=dr y;have p1:=bQ x.num hy;have p2:=bQ y.num hx;have s1:=Sm.gcd_r x.num hy sy.2;have s2:=Sm.gcd_r y.num hx sx.2;have t1:Sm (x.num.fdiv (gcd x.num y.den)):=sx.1.le (fdiv_le' _ p1 (gcd_dvd_l _ _));have t2:Sm (y.num.fdiv (gcd y.num x.den)):=sy.1.le (fdiv_le' _ p2 (gcd_dvd_l _ _));have t3:Sm ((x.den:Int).fdiv (gcd y.num x.den)):=sx.2.le (cR _ p2 (by omega));have t4:Sm ((y.den:Int).fdiv (gcd x.num y.den)):=sy.2.le (cR _ p1 (by omega));refine ⟨_,rfl,p,x,rfl,hp,_,rfl,q,y,rfl,hq,_,_,rfl,?_⟩;refine ⟨_,rfl,q,y,rfl,hq,_,rfl,p,x,rfl,hp,_,_,rfl,?_⟩;refine ⟨_,rfl,p,x,rfl,hp,_,rfl,_,_,rfl,rfl,⟨by omega,s1⟩,_,rfl,q,y,rfl,hq,_,rfl,_,_,rfl,rfl,⟨by omega,s2⟩,_,_,rfl,rfl,⟨t1,t2⟩,?_⟩;refine ⟨_,rfl,_,rfl,p,x,rfl,hp,_,rfl,_,_,rfl,rfl,⟨by omega,s2⟩,_,rfl,q,y,rfl,hq,_,rfl,_,_,rfl,rfl,⟨by omega,s1⟩,_,_,rfl,rfl,⟨t3,t4⟩,_,_,rfl,?_⟩;intro r dx H' nr s1 h1;obtain ⟨e1,e2⟩:=mul_spec x y;refine k r H' nr s1 ⟨dx,?_⟩;show H' r=some (.ins a.Fraction dx (ff (x*y).num (x*y).den));rw [h1,<- e1,<- e2]
noncomputable def spB2 (C:Addr) (f:Rat->Rat->Bool):Sp:=λ vs H Q _=>∃ (p q:Addr) (x y:Rat),vs=[.ref p,.ref q]/\FrAt C H p x/\FrAt C H q y/\SmR x/\SmR y/\Q (.bl (f x y)) H
theorem ok_under (T:TX K mg a):MtB P w K mg base CX0 a.Fraction "under" 1 ["self","other"] (spB2 a.Fraction λ x y=>decide (x<y)):=by
 refine T.m_Fraction_under.ok e9 (λ vs H Q E h=>?_) (λ f cdv A outer s H vs Q E hr h=>?_)
 ·obtain ⟨p,q,x,y,rfl,_⟩:=h;rfl
 ·obtain ⟨p,q,x,y,rfl,hp,hq,sx,sy,k⟩:=h;refine ⟨_,(ag (aq (pe_cmpR dX (aj aP (bF T.fr (pv 0)) (bp T.fr (pv 1))) (aj aP (bF T.fr (pv 1)) (bp T.fr (pv 0))) (aA _)))),?_⟩;try dsimp only [aG,Cx.nox,Cx.wish]
  walk_at "rd"
  show Q (.bl (decide (x.num * ↑y.den<y.num * ↑x.den))) H;rw [decide_eq_decide.mpr (Rat.lt_iff x y).symm];exact k
noncomputable def sgn (x:Rat):Int:=if 0<x.num then 1 else if x.num<0 then -1 else 0
theorem ok_sign (T:TX K mg a):MtB P w K mg base CX0 a.Fraction "sign" 1 ["self"] (λ vs H Q _=>∃ (p:Addr) (x:Rat),vs=[.ref p]/\FrAt a.Fraction H p x/\Q (.int (sgn x)) H):=by
 refine T.m_Fraction_sign.ok sc_Fraction_sign (λ vs H Q E h=>?_) (λ f cdv A outer s H vs Q E hr h=>?_)
 ·obtain ⟨p,x,rfl,_⟩:=h;rfl
 ·obtain ⟨p,x,rfl,hp,k⟩:=h
  refine ⟨_,(af (aD (ar op_gt (bF T.fr (pv 0)) ac (aA _)) (ag (aq ac)) ap)
   (af (aD (ar dX (bF T.fr (pv 0)) ac (aA _)) (ag (aq (pe_un un_neg ac))) ap)
   (ag (aq ac)))),?_⟩
  try dsimp only [aG,Cx.nox,Cx.wish]
  walk_at "rd"
  refine ifB (λ h1=>?_) (λ h1=>?_)
  ·rw [show sgn x=1 from if_pos h1] at k;exact k
  ·walk_at "rd"
   refine ifB (λ h2=>?_) (λ h2=>?_)
   ·rw [show sgn x = -1 from (if_neg h1).trans (if_pos h2)] at k;walk_at "rd"
    exact k
   ·rw [show sgn x=0 from (if_neg h1).trans (if_neg h2)] at k;exact k
noncomputable def bV (ns:List Int) (k:Nat):Int:=ns.getD k 0
noncomputable def spCell (K:W.Frag):Sp:=λ vs H Q _=>∃ (l:Addr) (ns:List Int) (k:Nat),vs=[.ref l,.int (k:Int)]/\SqL K H l (ns.map V.int)/\Q (.int (bV ns k)) H
theorem aO (T:TX K mg a):FnB P w K mg base CX0 "_law_cell_at" 1 ["_law_script","_law_k"] (spCell K):=by
 refine T.d_law_cell_at.ok sc_law_cell_at (λ vs H Q E h=>?_) (λ f cdv A outer s H vs Q E hr h=>?_)
 ·obtain ⟨l,ns,i,rfl,_⟩:=h;rfl
 ·obtain ⟨l,ns,i,rfl,hS,k⟩:=h
  refine ⟨_,(af (aD (ar dX (pv 1) (aC aW (by rfl) T.z_len gM (aa (pv 0) ad)) (aA _)) (ag (aq (ao au (pv 0) (pv 1) (λ _ _=>rfl)))) ap)
   (ag (aq ac))),?_⟩
  try dsimp only [aG,Cx.nox,Cx.wish]
  refine ⟨_,rfl,_,rfl,_,_,rfl,.inl hS,_,_,rfl,rfl,_,rfl,?_⟩;rw [fG];refine ite2 (λ hlt=>?_) (λ hge=>?_)
  ·have hlt':(i:Int)<(ns.length:Int):=ie hlt;have hl:i<ns.length:=by omega
   refine ⟨_,rfl,_,rfl,_,_,_,_,rfl,rfl,hS,atI_nat (v:=.int (ns[i])) ?_,?_⟩
   ·rw [fN,fF hl];rfl
   ·have e:bV ns i=ns[i]:=by unfold bV;rw [fP,fF hl];rfl
    rw [e] at k;exact k
  ·have hge':¬ (i:Int)<(ns.length:Int):=λ z=>hge (fV z);have e:bV ns i=0:=by unfold bV;rw [fP,List.getElem?_eq_none (by omega)];rfl
   rw [e] at k;exact k
noncomputable def spWhole:Sp:=λ vs H Q _=>∃ i:Int,vs=[.int i]/\Q (.bl true) H
theorem fk (T:TX K mg a):FnB P w K mg base CX0 "_law_whole" 1 ["_law_found"] spWhole:=by
 refine T.d_law_whole.ok sc_law_whole (λ vs H Q E h=>?_) (λ f cdv A outer s H vs Q E hr h=>?_)
 ·obtain ⟨i,rfl,_⟩:=h;rfl
 ·obtain ⟨i,rfl,k⟩:=h;refine ⟨_,(ag (aq (pe_and (aC (df (c:=.type "int")) (by rfl) T.z_isinstance gX (aa (pv 0) (aa (pe_bltn (v:=.ty "int") (by rfl) T.z_int PyProof.Rows.boot_int rfl) ad))) (pe_one (pe_not (aC (df (c:=.type "bool")) (by rfl) T.z_isinstance gX (aa (pv 0) (aa (pe_bltn (v:=.ty "bool") (by rfl) T.z_bool PyProof.Rows.boot_bool rfl) ad)))))))),?_⟩;try dsimp only [aG,Cx.nox,Cx.wish]
  refine ⟨_,rfl,_,_,_,_,rfl,(λ u h=>h),TyOf.int i,T.k_int_int,_,rfl,?_⟩;refine iteT ?_;refine ⟨_,rfl,_,_,_,_,rfl,(λ u h=>h),TyOf.int i,T.k_int_bool,_,rfl,?_⟩;exact k
theorem ok_law_divisor (T:TX K mg a):FnB P w K mg base CX0 "_law_divisor" 1 ["_law_one","_law_other"] spDiv:=by
 refine T.d_law_divisor.ok sc_law_divisor (λ vs H Q E h=>?_) (λ f cdv A outer s H vs Q E hr h=>?_)
 ·obtain ⟨n,b,rfl,_⟩:=h;rfl
 ·obtain ⟨n',b,rfl,k⟩:=h
  refine ⟨_,(af (al (i:=0) sc_law_divisor.nd rfl (Or.inl rfl) (aC cH (by rfl) T.z_abs g9 (aa (pv 0) ad)))
   (af (al (i:=1) sc_law_divisor.nd rfl (Or.inl rfl) (aC cH (by rfl) T.z_abs g9 (aa (pv 1) ad)))
   (af (ps_while gA (ar op_gt (pv 1) ac (aA _)) (af (al (i:=2) sc_law_divisor.nd rfl (Or.inl rfl) (aj aJ (pv 0) (pv 1)))
   (af (al (i:=0) sc_law_divisor.nd rfl (Or.inl rfl) (pv 1))
   (ag (al (i:=1) sc_law_divisor.nd rfl (Or.inl rfl) (pv 2))))))
   (ag (aq (pv 0)))))),?_⟩
  try dsimp only [aG,Cx.nox,Cx.wish]
  refine ⟨_,rfl,_,rfl,_,rfl,_,rfl,?_⟩;refine while_by (λ σ H'=>∃ (n m:Int) (r:Option V),σ=[some (.int n),some (.int m),r]/\H'=H/\0<=n/\0<=m/\gcd n m=gcd n' b) (λ σ _=>match σ with | [_,some (.int m),_]=>m.toNat | _=>0) ?_ ?_ ?_
  ·refine ⟨_,_,_,rfl,rfl,?_,?_,gcd_abs n' b⟩ <;> split <;> omega
  ·rintro σ H' ⟨n,m,r,rfl,rfl,hn,hm,hg⟩;refine ⟨_,rfl,_,_,rfl,rfl,_,rfl,?_⟩;by_cases z:m=0
   ·subst z;refine iteF ?_;refine ⟨_,rfl,?_⟩;rw [gcd_zero n hn] at hg;rw [hg];exact k
   ·refine eD (fV (show (0:Int)<m by omega)) ?_;obtain ⟨g1,g2,g3⟩:=gcd_turn hg hm z;refine ⟨_,rfl,_,rfl,_,_,rfl,rfl,(by show (0:Int)<m;omega),_,rfl,_,rfl,⟨_,_,_,rfl,rfl,hm,g1,g3⟩,?_⟩;show (n % m).toNat<m.toNat;omega
  ·rintro σ H' Q1 Q2 hq ⟨v,e,i,j,e1,e2,c,ec,q⟩;exact ⟨v,e,i,j,e1,e2,c,ec,hq _ _ q⟩
noncomputable def spIs (C:Addr):Sp:=λ vs H Q _=>∃ (p:Addr) (x:Rat) (n d:Int),vs=[.ref p,.int n,.int d]/\FrAt C H p x/\SmR x/\Sm n/\Sm d/\d≠0/\x=Rat.divInt n d/\Q (.bl true) H
theorem cross {x:Rat} {n d:Int} (h:d≠0) (e:x=Rat.divInt n d):x.num*d=n*x.den:=by
 have h1:=Rat.num_divInt_den x;rw [e] at h1 ⊢;exact (Rat.divInt_eq_divInt_iff (d6 _) h).mp h1
theorem ok_law_is (T:TX K mg a):FnB P w K mg base CX0 "_law_is" 2 ["_law_found","_law_top","_law_bottom"] (spIs a.Fraction):=by
 refine T.d_law_is.ok sc_law_is (λ vs H Q E h=>?_) (λ f cdv A outer s H vs Q E hr h=>?_)
 ·obtain ⟨p,x,n,d,rfl,_⟩:=h;rfl
 ·obtain ⟨p,x,n,d,rfl,hp,sx,sn,sd,hd,ex,k⟩:=h
  refine ⟨_,(af (aD (PW.pt (pw_or (bY (bE (aC (df (c:=.ref a.Fraction)) (by rfl) T.z_isinstance gX (aa (pv 0) (aa (pe_glob (v:=.ref a.Fraction) (by rfl) T.mg_Fraction rfl) ad))))) (pw_or (bY (bE (aw (fk T) hr ak (aa (bF T.fr (pv 0)) ad)))) (pw_or1 (bY (bE (aw (fk T) hr ak (aa (bp T.fr (pv 0)) ad)))))))) (ag (aq cE)) ap)
   (af (aD (PW.pt (pw_or (ar dX (bp T.fr (pv 0)) ac (aA _)) (pw_or1 (ar op_ne (aw (ok_law_divisor T) hr ak (aa (bF T.fr (pv 0)) (aa (bp T.fr (pv 0)) ad))) ac (aA _))))) (ag (aq cE)) ap)
   (ag (aq (pe_cmpR bO (aj aP (bF T.fr (pv 0)) (pv 2)) (aj aP (pv 1) (bp T.fr (pv 0))) (aA _)))))),?_⟩
  try dsimp only [aG,Cx.nox,Cx.wish]
  refine ⟨_,rfl,_,_,_,_,rfl,(λ u h=>h),hp.ty T.fr,T.k_Fraction_Fraction,_,rfl,?_⟩;walk_at "rd"
  have xp:=dr x;refine b9 (fU (show ¬ (x.den:Int)<1 by omega)) ?_;walk_at "rd"
  rw [gcd_den x];walk_at "rd"
  show Q (.bl (decide (V.int (x.num*d)=V.int (n*x.den)))) H;rw [cross hd ex,fV rfl];exact k
inductive IspNoWay (a:Ad) (vs:List V) (H:Hp) (Q:VK):Prop
 | mk (e:Addr) (n:Str) (h1:vs=[.ref e,.str n]) (h2:H e=some (XI e a.NoWay none)) (h3:n.length<=1000) (h4:∀ dx,H dx=none->Q .non (upd (upd H e (XI e a.NoWay (some dx))) dx (.xd [("name",.str n)]))):IspNoWay a vs H Q
noncomputable def spNoWay (a:Ad):Sp:=λ vs H Q _=>IspNoWay a vs H Q
theorem b_NoWay (T:TX K mg a):dv P w K mg base "NoWay.__init__" dj ["self","name"] 0 (spNoWay a):=by
 intro f cdv A outer s₀ H vs Q E hr h;obtain ⟨e,n,rfl,he,hn,k⟩:=h
 refine ⟨_,(af (bD (pe_binit T.br_NoWay T.bf_NoWay T.mg_GainError (aa (pv 0) (aa (pe_j2 bh (pe_fv (pv 1))) ad))))
   (ag (ps_xfld (pv 0) (pv 1) rfl))),?_⟩
 try dsimp only [aG,Cx.nox,Cx.wish]
 obtain ⟨fi,hfi⟩:=T.xi_NoWay.fi;refine ⟨_,rfl,_,rfl,by rw [gc];decide,_,rfl,_,rfl,by rw [gc];omega,_,rfl,?_,e,a.NoWay,none,_,fi,rfl,he,hfi,?_,?_⟩
 ·rw [show ("no such way can be: ":Str).length=20 from by decide +kernel,gc];omega
 ·rw [gc];show 1<=_;omega
 ·exact ⟨_,rfl,_,rfl,e,a.NoWay,rfl,he,T.xs_NoWay,T.na_NoWay_name,k⟩
theorem xi_NoWay (T:TX K mg a):XiB P w K mg base a.NoWay 1 ["self","name"] (spNoWay a):=
 T.xi_NoWay.ok sc_NoWay_init (λ vs H Q E h=>by obtain ⟨_,_,rfl,_⟩:=h;rfl) (b_NoWay T)
noncomputable def NoWayE (a:Ad) (H:Hp) (n:Str) (E:XK):Prop:=∀ H' dx,Same H H'->H' dx=some (.xd [("name",.str n)])->E (.ref a.NoWay) (some dx) H'
theorem raise_nw {H:Hp} {n:Str} {E:XK} (hn:n.length<=1000) (k:NoWayE a H n E):([V.str n]:List V).length<=sizeLine/\
  ∀ e,H e=none->spNoWay a ((.ref e::[.str n])++[]) (upd H e (XI e a.NoWay none)) (λ v H2=>v=.non/\∃ d,H2 e=some (XI e a.NoWay d)/\E (.ref a.NoWay) d (del H2 e)) E0:=by
 refine ⟨by rw [gc];show 1<=_;omega,λ e he=>⟨e,n,rfl,ae,hn,λ dx hd=>⟨rfl,some dx,?_,?_⟩⟩⟩
 ·have ne:dx≠e:=λ z=>by rw [z,ae] at hd;cases hd
  rw [ai (ib ne),ae]
 ·have ne:dx≠e:=λ z=>by rw [z,ae] at hd;cases hd
  have hd':H dx=none:=by rw [ai ne] at hd;exact hd
  refine k _ dx (λ b o eb=>?_) ?_
  ·have n1:=av eb he;have n2:=av eb hd';unfold del;rw [if_neg n1,ai n2,ai n1,ai n1];exact eb
  ·unfold del;rw [if_neg ne,ae]
inductive IspOverBound (a:Ad) (vs:List V) (H:Hp) (Q:VK):Prop
 | mk (e:Addr) (n:Str) (v:V) (h1:vs=[.ref e,.str n,v]) (h2:H e=some (XI e a.OverBound none)) (h3:n.length<=1000) (h4:∀ dx,H dx=none->dx≠e->Q .non (upd (upd H e (XI e a.OverBound (some dx))) dx (.xd [("bound",v),("name",.str n)]))):IspOverBound a vs H Q
noncomputable def dL (a:Ad):Sp:=λ vs H Q _=>IspOverBound a vs H Q
theorem b_OverBound (T:TX K mg a):dv P w K mg base "OverBound.__init__" bX ["self","name","bound"] 0 (dL a):=by
 intro f cdv A outer s₀ H vs Q E hr h;obtain ⟨e,n,v,rfl,he,hn,k⟩:=h
 refine ⟨_,(af (bD (pe_binit T.br_OverBound T.bf_OverBound T.mg_GainError (aa (pv 0) (aa (pe_j2 bh (pe_fv (pv 1))) ad))))
   (af (ps_xfld0 (pv 0) (pv 1) rfl)
   (ag (ps_xfld1 (pv 0) (pv 2) rfl)))),?_⟩
 try dsimp only [aG,Cx.nox,Cx.wish]
 obtain ⟨fi,hfi⟩:=T.xi_OverBound.fi;refine ⟨_,rfl,_,rfl,by rw [gc];decide,_,rfl,_,rfl,by rw [gc];omega,_,rfl,?_,e,a.OverBound,none,_,fi,rfl,he,hfi,?_,?_⟩
 ·rw [show ("the amount passes a bound of the way: ":Str).length=38 from by decide +kernel,gc];omega
 ·rw [gc];show 1<=_;omega
 ·refine ⟨_,rfl,_,rfl,e,a.OverBound,rfl,he,T.xs_OverBound,T.na_OverBound_name,λ dx hd=>?_⟩;have ne:e≠dx:=λ z=>by rw [<- z,he] at hd;cases hd
  refine ⟨_,rfl,_,rfl,e,a.OverBound,dx,_,rfl,by rw [ai ne,ae],ae,ne,by show 1<=10;decide,T.xs_OverBound,T.na_OverBound_bound,?_⟩;rw [eU];exact k dx hd (ib ne)
theorem xi_OverBound (T:TX K mg a):XiB P w K mg base a.OverBound 1 ["self","name","bound"] (dL a):=
 T.xi_OverBound.ok e7 (λ vs H Q E h=>by obtain ⟨_,_,_,rfl,_⟩:=h;rfl) (b_OverBound T)
noncomputable def OverBoundE (a:Ad) (H:Hp) (n:Str) (v:V) (E:XK):Prop:=∀ H' dx,Same H H'->H' dx=some (.xd [("bound",v),("name",.str n)])->E (.ref a.OverBound) (some dx) H'
theorem raise_OverBound {H:Hp} {n:Str} {v:V} {E:XK} (hn:n.length<=1000) (k:OverBoundE a H n v E):([V.str n,v]:List V).length<=sizeLine/\
  ∀ e,H e=none->dL a ((.ref e::[.str n,v])++[]) (upd H e (XI e a.OverBound none)) (λ v H2=>v=.non/\∃ d,H2 e=some (XI e a.OverBound d)/\E (.ref a.OverBound) d (del H2 e)) E0:=by
 refine ⟨by rw [gc];show 2<=_;omega,λ e he=>⟨e,n,v,rfl,ae,hn,λ dx hd ne=>⟨rfl,some dx,?_,?_⟩⟩⟩
 ·rw [ai (ib ne),ae]
 ·have hd':H dx=none:=by rw [ai ne] at hd;exact hd
  refine k _ dx (λ b o eb=>?_) ?_
  ·have n1:=av eb he;have n2:=av eb hd';unfold del;rw [if_neg n1,ai n2,ai n1,ai n1];exact eb
  ·unfold del;rw [if_neg ne,ae]
inductive IspShort (a:Ad) (vs:List V) (H:Hp) (Q:VK):Prop
 | mk (e:Addr) (n:Str) (v:V) (h1:vs=[.ref e,.str n,v]) (h2:H e=some (XI e a.Short none)) (h3:n.length<=1000) (h4:∀ dx,H dx=none->dx≠e->Q .non (upd (upd H e (XI e a.Short (some dx))) dx (.xd [("lacking",v),("place",.str n)]))):IspShort a vs H Q
noncomputable def spShort (a:Ad):Sp:=λ vs H Q _=>IspShort a vs H Q
theorem b_Short (T:TX K mg a):dv P w K mg base "Short.__init__" di ["self","place","lacking"] 0 (spShort a):=by
 intro f cdv A outer s₀ H vs Q E hr h;obtain ⟨e,n,v,rfl,he,hn,k⟩:=h
 refine ⟨_,(af (bD (pe_binit T.br_Short T.bf_Short T.mg_GainError (aa (pv 0) (aa (pe_j2 bh (pe_fv (pv 1))) ad))))
   (af (ps_xfld0 (pv 0) (pv 1) rfl)
   (ag (ps_xfld1 (pv 0) (pv 2) rfl)))),?_⟩
 try dsimp only [aG,Cx.nox,Cx.wish]
 obtain ⟨fi,hfi⟩:=T.xi_Short.fi;refine ⟨_,rfl,_,rfl,by rw [gc];decide,_,rfl,_,rfl,by rw [gc];omega,_,rfl,?_,e,a.Short,none,_,fi,rfl,he,hfi,?_,?_⟩
 ·rw [show ("less than its want comes to the place: ":Str).length=39 from by decide +kernel,gc];omega
 ·rw [gc];show 1<=_;omega
 ·refine ⟨_,rfl,_,rfl,e,a.Short,rfl,he,T.xs_Short,T.na_Short_place,λ dx hd=>?_⟩;have ne:e≠dx:=λ z=>by rw [<- z,he] at hd;cases hd
  refine ⟨_,rfl,_,rfl,e,a.Short,dx,_,rfl,by rw [ai ne,ae],ae,ne,by show 1<=10;decide,T.xs_Short,T.na_Short_lacking,?_⟩;rw [eU];exact k dx hd (ib ne)
theorem xi_Short (T:TX K mg a):XiB P w K mg base a.Short 1 ["self","place","lacking"] (spShort a):=
 T.xi_Short.ok sc_Short_init (λ vs H Q E h=>by obtain ⟨_,_,_,rfl,_⟩:=h;rfl) (b_Short T)
noncomputable def ShortE (a:Ad) (H:Hp) (n:Str) (v:V) (E:XK):Prop:=∀ H' dx,Same H H'->H' dx=some (.xd [("lacking",v),("place",.str n)])->E (.ref a.Short) (some dx) H'
theorem raise_Short {H:Hp} {n:Str} {v:V} {E:XK} (hn:n.length<=1000) (k:ShortE a H n v E):([V.str n,v]:List V).length<=sizeLine/\
  ∀ e,H e=none->spShort a ((.ref e::[.str n,v])++[]) (upd H e (XI e a.Short none)) (λ v H2=>v=.non/\∃ d,H2 e=some (XI e a.Short d)/\E (.ref a.Short) d (del H2 e)) E0:=by
 refine ⟨by rw [gc];show 2<=_;omega,λ e he=>⟨e,n,v,rfl,ae,hn,λ dx hd ne=>⟨rfl,some dx,?_,?_⟩⟩⟩
 ·rw [ai (ib ne),ae]
 ·have hd':H dx=none:=by rw [ai ne] at hd;exact hd
  refine k _ dx (λ b o eb=>?_) ?_
  ·have n1:=av eb he;have n2:=av eb hd';unfold del;rw [if_neg n1,ai n2,ai n1,ai n1];exact eb
  ·unfold del;rw [if_neg ne,ae]
structure WayC (K:W.Frag) (C:Addr):Prop where
 cl:Cls K C
 n1:NoAttr K C "name"
 n2:NoAttr K C "start"
 n3:NoAttr K C "goal"
 n4:NoAttr K C "high"
 n5:NoAttr K C "cost"
theorem TX.wW (T:TX K mg a):WayC K a.Way:=⟨T.cl_Way,T.na_Way_name,T.na_Way_start,T.na_Way_goal,T.na_Way_high,T.na_Way_cost⟩
theorem TX.wG (T:TX K mg a):WayC K a.Growing:=⟨T.cl_Growing,T.na_Growing_name,T.na_Growing_start,T.na_Growing_goal,T.na_Growing_high,T.na_Growing_cost⟩
theorem TX.wL (T:TX K mg a):WayC K a.Leaking:=⟨T.cl_Leaking,T.na_Leaking_name,T.na_Leaking_start,T.na_Leaking_goal,T.na_Leaking_high,T.na_Leaking_cost⟩
theorem TX.wS (T:TX K mg a):WayC K a.Store:=⟨T.cl_Store,T.na_Store_name,T.na_Store_start,T.na_Store_goal,T.na_Store_high,T.na_Store_cost⟩
structure W5 (fs:List (Str × V)) (n s g:Str) (vh vc:V):Prop where
 nm:fs.lookup ("name":Str)=some (.str n)
 st:fs.lookup ("start":Str)=some (.str s)
 go:fs.lookup ("goal":Str)=some (.str g)
 hi:fs.lookup ("high":Str)=some vh
 co:fs.lookup ("cost":Str)=some vc
 ga:fs.lookup ("gain":Str)=none
 ou:fs.lookup ("out":Str)=none
 len:fs.length<=10
theorem W5.new {n s g:Str} {vh vc:V}:W5 (bc "cost" vc (bc "high" vh (bc "goal" (.str g) (bc "start" (.str s) (bc "name" (.str n) []))))) n s g vh vc:=by
 refine ⟨?_,?_,?_,?_,?_,?_,?_,?_⟩
 iterate 7
  simp only [bP]
  (repeat rw [if_neg (by decide +kernel)])
  try rw [if_pos rfl]
  try rfl
 ·have h1:=bb "cost" vc (bc "high" vh (bc "goal" (.str g) (bc "start" (.str s) (bc "name" (.str n) []))));have h2:=bb "high" vh (bc "goal" (.str g) (bc "start" (.str s) (bc "name" (.str n) [])));have h3:=bb "goal" (.str g) (bc "start" (.str s) (bc "name" (.str n) []));have h4:=bb "start" (.str s) (bc "name" (.str n) []);have h5:=bb "name" (.str n) [];simp only [List.length_nil] at h5;omega
theorem W5.put {fs:List (Str × V)} {n s g:Str} {vh vc v:V} {f:Str} (h:W5 fs n s g vh vc) (hf:f∈(["rate","loss"]:List Str)) (hl:fs.length<=5):W5 (bc f v fs) n s g vh vc:=by
 have e:∀ x∈(["name","start","goal","high","cost","gain","out"]:List Str),x≠f:=by
  intro x hx z;subst z
  revert hx hf
  simp only [gw,List.not_mem_nil,or_false];rintro (rfl | rfl | rfl | rfl | rfl | rfl | rfl) (h | h) <;> exact absurd h (by decide +kernel)
 have l:=bb f v fs;refine ⟨?_,?_,?_,?_,?_,?_,?_,by omega⟩ <;> rw [bP,if_neg (e _ (by simp))]
 ·exact h.nm
 ·exact h.st
 ·exact h.go
 ·exact h.hi
 ·exact h.co
 ·exact h.ga
 ·exact h.ou
theorem a5 {f:Str} {v:V} {fs:List (Str × V)} {m:Nat} (h:fs.length<=m):(bc f v fs).length<=m+1:=fO (bb f v fs) (Nat.succ_le_succ h)
theorem sgn_nn {x:Rat} (h:0<=x.num):¬ sgn x<0:=by
 unfold sgn
 repeat' split
 all_goals omega
theorem sgn_p {x:Rat} (h:0<x.num):¬ sgn x<=0:=by
 unfold sgn;rw [if_pos h];decide
noncomputable def HiOk (C:Addr) (H:Hp) (v:V):Prop:=v=.non∨∃ (q:Addr) (x:Rat),v=.ref q/\FrAt C H q x/\0<=x.num
theorem HiOk.mono {C:Addr} {H H':Hp} {v:V} (h:HiOk C H v) (s:Same H H'):HiOk C H' v:=h.imp id λ⟨q,x,e,f,z⟩=>⟨q,x,e,f.mono s,z⟩
noncomputable def CoIs (C:Addr) (H:Hp) (p:Addr) (vc vc':V):Prop:=(vc≠.non/\vc'=vc)∨(vc=.non/\∃ q,vc'=.ref q/\q≠p/\FrAt C H q (Rat.divInt 0 1))
theorem CoIs.upd {C p:Addr} {H:Hp} {vc vc':V} {o:HO} (h:CoIs C H p vc vc'):CoIs C (upd H p o) p vc vc':=h.imp id λ⟨e,q,e2,ne,dq,f⟩=>⟨e,q,e2,ne,dq,by rw [ai ne];exact f⟩
inductive IspWayN (K:W.Frag) (a:Ad) (vs:List V) (H:Hp) (Q:VK):Prop
 | mk (p C dx:Addr) (n s g:Str) (vh vc:V) (h1:vs=[.ref p,.str n,.str s,.str g,vh,vc]) (h2:H p=some (.ins C dx [])) (h3:WayC K C) (h4:s≠g) (h5:HiOk a.Fraction H vh) (h6:∀ H' fs vc',W5 fs n s g vh vc'->fs.length<=5->CoIs a.Fraction H' p vc vc'->(∀ b o,H b=some o->b≠p->H' b=some o)->H' p=some (.ins C dx fs)->Q .non H'):IspWayN K a vs H Q
noncomputable def spWayN (K:W.Frag) (a:Ad):Sp:=λ vs H Q _=>IspWayN K a vs H Q
theorem b_Way (T:TX K mg a):dv P w K mg base "Way.__init__" dh ["self","name","start","goal","high","cost"] 3 (spWayN K a):=by
 intro f cdv A outer s₀ H vs Q E hr h;obtain ⟨p,C,dx,n,s,g,vh,vc,rfl,hp,c,sg,hh,k⟩:=h
 refine ⟨_,(ax (aD (PW.pt (dk (ar bO (pv 2) (pv 3) (aA _)) (cq (bY (bE (cK (CX:=CX0) (pv 0) hr ak)))))) (ag bt) ap)
   (ax (aD (PW.pt (dk (ar cM (pv 4) bG (aA _)) (cq (ar dX (pe_frm0 T.fr (pv 4) (ok_sign T) hr ak) ac (aA _))))) (ag bt) ap)
   (af (bZ (pv 0) (pv 1) rfl)
   (af (bZ (pv 0) (pv 2) rfl)
   (af (bZ (pv 0) (pv 3) rfl)
   (af (bZ (pv 0) (pv 4) rfl)
   (ag (bZ (pv 0) (pe_ifExp (ar op_isN (pv 5) bG (aA _)) (bo (mk1 T) hr T.mg_Fraction ak (aa ac ad)) (pv 5)) rfl)))))))),?_⟩
 try dsimp only [aG,Cx.nox,Cx.wish]
 refine ⟨λ σ' H'=>σ'=[some (.ref p),some (.str n),some (.str s),some (.str g),some vh,some vc]/\H'=H,?_,?_⟩
 ·walk_at "rd"
  refine b9 (fU λ z=>sg (V.str.inj z)) ?_;walk_at "rd"
  first | exact ⟨rfl,rfl⟩ | exact rfl
 rintro σ' H' ⟨rfl,rfl⟩;refine ⟨λ σ' H''=>σ'=[some (.ref p),some (.str n),some (.str s),some (.str g),some vh,some vc]/\H''=H',?_,?_⟩
 ·rcases hh with rfl | ⟨q,x,rfl,fq,hx⟩
  ·walk_at "rd"
   first | exact ⟨rfl,rfl⟩ | exact rfl
  ·walk_at "rd"
   refine b9 (fU (sgn_nn hx)) ?_;first | exact ⟨rfl,rfl⟩ | exact rfl
 rintro σ' H'' ⟨rfl,rfl⟩;refine ⟨_,rfl,_,rfl,p,C,dx,[],rfl,hp,c.cl,c.n1,by decide,?_⟩;refine ⟨_,rfl,_,rfl,p,C,dx,_,rfl,ae,c.cl,c.n2,gy (a5 (fM 0)) (by decide),?_⟩;refine ⟨_,rfl,_,rfl,p,C,dx,_,rfl,ae,c.cl,c.n3,gy (a5 (a5 (fM 0))) (by decide),?_⟩;refine ⟨_,rfl,_,rfl,p,C,dx,_,rfl,ae,c.cl,c.n4,gy (a5 (a5 (a5 (fM 0)))) (by decide),?_⟩;simp only [eU];walk_at "rd"
 by_cases hc:vc=.non
 ·refine eD (fV hc) ?_;walk_at "rd"
  refine ⟨by decide,sm1,λ q H1 nq s1 f1=>?_⟩;refine ⟨_,rfl,p,C,dx,_,rfl,s1 _ _ ae,c.cl,c.n5,gy (a5 (a5 (a5 (a5 (fM 0))))) (by decide),?_⟩;have nqp:q≠p:=λ z=>by rw [z,ae] at nq;cases nq
  obtain ⟨dq,f1⟩:=f1;refine k _ _ (.ref q) W5.new (a5 (a5 (a5 (a5 (a5 (fM 0)))))) (.inr ⟨hc,q,rfl,nqp,dq,by rw [ai nqp];exact f1⟩) (λ b o e nb=>?_) ae;rw [ai nb];refine s1 _ _ ?_;rw [ai nb];exact e
 ·refine b9 (fU hc) ?_;refine ⟨_,rfl,_,rfl,p,C,dx,_,rfl,ae,c.cl,c.n5,gy (a5 (a5 (a5 (a5 (fM 0))))) (by decide),?_⟩;rw [eU];refine k _ _ vc W5.new (a5 (a5 (a5 (a5 (a5 (fM 0)))))) (.inl ⟨hc,rfl⟩) (λ b o e nb=>?_) ae;rw [ai nb];exact e
theorem len_WayN:∀ vs H Q E,spWayN K a vs H Q E->vs.length=(["self","name","start","goal","high","cost"]:List Str).length:=λ vs H Q E h=>by
 obtain ⟨_,_,_,_,_,_,_,_,rfl,_⟩:=h;rfl
theorem mk_WayN (T:TX K mg a):∀ dvs∈[[],[V.non,V.non]],MkB P w K mg base CX0 a.Way 4 ["self","name","start","goal","high","cost"] dvs (spWayN K a):=T.i_Way.ok sc_Way_init len_WayN (b_Way T)
theorem mk_Way (T:TX K mg a):MkB P w K mg base CX0 a.Way 4 ["self","name","start","goal","high","cost"] [] (spWayN K a):=mk_WayN T _ (by simp)
theorem cf_Way (T:TX K mg a):CfB P w K mg base CX0 a.Way "__init__" 4 ["self","name","start","goal","high","cost"] (spWayN K a):=T.c_Way.ok sc_Way_init len_WayN (b_Way T)
inductive IspPartN (K:W.Frag) (a:Ad) (f:Str) (ok:Rat->Prop) (vs:List V) (H:Hp) (Q:VK):Prop
 | mk (p C dx:Addr) (n s g:Str) (vh vc:V) (q:Addr) (x:Rat) (h1:vs=[.ref p,.str n,.str s,.str g,.ref q,vh,vc]) (h2:H p=some (.ins C dx [])) (h3:WayC K C) (h4:NoAttr K C f) (h5:s≠g) (h6:FrAt a.Fraction H q x) (h7:ok x) (h8:HiOk a.Fraction H vh) (h9:∀ H' fs vc',W5 fs n s g vh vc'->fs.lookup f=some (.ref q)->CoIs a.Fraction H' p vc vc'->(∀ b o,H b=some o->b≠p->H' b=some o)->H' p=some (.ins C dx fs)->Q .non H'):IspPartN K a f ok vs H Q
noncomputable def cm (K:W.Frag) (a:Ad) (f:Str) (ok:Rat->Prop):Sp:=λ vs H Q _=>IspPartN K a f ok vs H Q
theorem len_PartN {f:Str} {ok:Rat->Prop} {z:Str}:∀ vs H Q E,cm K a f ok vs H Q E->vs.length=(["self","name","start","goal",z,"high","cost"]:List Str).length:=λ vs H Q E h=>by
 obtain ⟨_,_,_,_,_,_,_,_,_,_,rfl,_⟩:=h;rfl
noncomputable abbrev growOk:Rat->Prop:=λ x=>0<x.num
noncomputable abbrev leakOk:Rat->Prop:=λ x=>0<=x.num/\x<1/\SmR x
theorem b_Growing (T:TX K mg a):dv P w K mg base "Growing.__init__" cB ["self","name","start","goal","rate","high","cost"] 4 (cm K a "rate" growOk):=by
 intro f cdv A outer s₀ H vs Q E hr h;obtain ⟨p,C,dx,n,s,g,vh,vc,q,x,rfl,hp,c,nf,sg,fq,hx,hh,k⟩:=h
 refine ⟨_,(af (aD (ar op_le (pe_frm0 T.fr (pv 4) (ok_sign T) hr ak) ac (aA _)) (ag bt) ap)
   (af (bD (pe_cf (cf_Way T) hr T.mg_Way ak (aa (pv 0) (aa (pv 1) (aa (pv 2) (aa (pv 3) (aa (pv 5) (aa (pv 6) ad))))))))
   (ag (bZ (pv 0) (pv 4) rfl)))),?_⟩
 try dsimp only [aG,Cx.nox,Cx.wish]
 walk_at "rd"
 refine b9 (fU (sgn_p hx)) ?_;refine ⟨_,rfl,_,rfl,_,rfl,_,rfl,_,rfl,_,rfl,p,C,dx,n,s,g,vh,vc,rfl,hp,c,sg,hh,λ H2 fs vc' h5 hl co hs ho=>?_⟩;refine ⟨_,rfl,_,rfl,p,C,dx,fs,rfl,ho,c.cl,nf,gy hl (by decide),?_⟩;refine k _ _ vc' (h5.put (by simp) hl) ?_ co.upd (λ b o e ne=>?_) ae
 ·rw [bP,if_pos rfl]
 ·rw [ai ne];exact hs b o e ne
theorem mk_GrowingN (T:TX K mg a):∀ dvs∈[[],[V.non,V.non]],MkB P w K mg base CX0 a.Growing 5 ["self","name","start","goal","rate","high","cost"] dvs (cm K a "rate" growOk):=T.i_Growing.ok sc_Growing_init len_PartN (b_Growing T)
theorem mk_Growing (T:TX K mg a):MkB P w K mg base CX0 a.Growing 5 ["self","name","start","goal","rate","high","cost"] [] (cm K a "rate" growOk):=mk_GrowingN T _ (by simp)
theorem b_Leaking (T:TX K mg a):dv P w K mg base "Leaking.__init__" cA ["self","name","start","goal","loss","high","cost"] 4 (cm K a "loss" leakOk):=by
 intro f cdv A outer s₀ H vs Q E hr h;obtain ⟨p,C,dx,n,s,g,vh,vc,q,x,rfl,hp,c,nf,sg,fq,⟨hx,hx1,sx⟩,hh,k⟩:=h
 refine ⟨_,(ax (aD (PW.pt (pw_or (ar dX (pe_frm0 T.fr (pv 4) (ok_sign T) hr ak) ac (aA _)) (pw_or1 (bY (bE (cU T.fr (pv 4) (ok_under T) hr ak (aa (bo (mk1 T) hr T.mg_Fraction ak (aa ac ad)) ad))))))) (ag bt) ap)
   (af (bD (pe_cf (cf_Way T) hr T.mg_Way ak (aa (pv 0) (aa (pv 1) (aa (pv 2) (aa (pv 3) (aa (pv 5) (aa (pv 6) ad))))))))
   (ag (bZ (pv 0) (pv 4) rfl)))),?_⟩
 try dsimp only [aG,Cx.nox,Cx.wish]
 refine ⟨λ σ' H'=>σ'=[some (.ref p),some (.str n),some (.str s),some (.str g),some (.ref q),some vh,some vc]/\Same H H',?_,?_⟩
 ·walk_at "rd"
  refine b9 (fU (sgn_nn hx)) ?_;walk_at "rd"
  refine ⟨by decide,sm1,λ r H1 nr s1 f1=>?_⟩;have e1:Rat.divInt 1 1=1:=rfl;rw [e1] at f1;have s2:SmR (1:Rat):=⟨sm1,sm1⟩;walk_at "rd"
  refine b9 (by dsimp only;rw [fV hx1];rfl) ?_;exact ⟨rfl,s1⟩
 rintro σ' H' ⟨rfl,ss⟩;refine ⟨_,rfl,_,rfl,_,rfl,_,rfl,_,rfl,_,rfl,p,C,dx,n,s,g,vh,vc,rfl,ss _ _ hp,c,sg,hh.mono ss,λ H2 fs vc' h5 hl co hs ho=>?_⟩;refine ⟨_,rfl,_,rfl,p,C,dx,fs,rfl,ho,c.cl,nf,gy hl (by decide),?_⟩;refine k _ _ vc' (h5.put (by simp) hl) ?_ co.upd (λ b o e ne=>?_) ae
 ·rw [bP,if_pos rfl]
 ·rw [ai ne];exact hs b o (ss _ _ e) ne
theorem mk_LeakingN (T:TX K mg a):∀ dvs∈[[],[V.non,V.non]],MkB P w K mg base CX0 a.Leaking 5 ["self","name","start","goal","loss","high","cost"] dvs (cm K a "loss" leakOk):=T.i_Leaking.ok sc_Leaking_init len_PartN (b_Leaking T)
theorem mk_Leaking (T:TX K mg a):MkB P w K mg base CX0 a.Leaking 5 ["self","name","start","goal","loss","high","cost"] [] (cm K a "loss" leakOk):=mk_LeakingN T _ (by simp)
inductive Kd where
 | way
 | gro
 | lea
 | sto
noncomputable def Kd.n:Kd->Int
 | .way=>0
 | .gro=>1
 | .lea=>2
 | .sto=>3
noncomputable def Kd.C (a:Ad):Kd->Addr
 | .way=>a.Way
 | .gro=>a.Growing
 | .lea=>a.Leaking
 | .sto=>a.Store
noncomputable def Kd.f:Kd->Str
 | .gro=>"rate"
 | _=>"loss"
noncomputable def Kd.ok:Kd->Rat->Prop
 | .way=>λ _=>True
 | .gro=>growOk
 | _=>leakOk
noncomputable def cW:Kd->Rat->Rat
 | .way=>λ _=>1
 | .gro=>λ x=>x
 | _=>λ x=>1-x
structure WayAt (a:Ad) (H:Hp) (p:Addr) (kd:Kd) (n s g:Str) (vh vc:V) (q:Addr) (x:Rat):Prop where
 ob:∃ dx fs,H p=some (.ins (kd.C a) dx fs)/\W5 fs n s g vh vc/\(kd≠.way->fs.lookup kd.f=some (.ref q))
 fq:kd≠.way->FrAt a.Fraction H q x
noncomputable def Stays (a:Ad) (H H':Hp):Prop:=∀ b C dx fs,(C=a.Fraction∨∃ kd:Kd,C=kd.C a)->H b=some (.ins C dx fs)->H' b=some (.ins C dx fs)
theorem Stays.of {a:Ad} {H H':Hp} (s:Same H H'):Stays a H H':=λ b C dx fs _ e=>s _ _ e
theorem Stays.fr {a:Ad} {H H':Hp} {q:Addr} {x:Rat} (k:Stays a H H') (h:FrAt a.Fraction H q x):FrAt a.Fraction H' q x:=by
 obtain ⟨dq,f⟩:=h
 exact ⟨dq,k _ _ _ _ (.inl rfl) f⟩
theorem WayAt.keep {a:Ad} {H H':Hp} {p:Addr} {kd:Kd} {n s g:Str} {vh vc:V} {q:Addr} {x:Rat} (h:WayAt a H p kd n s g vh vc q x) (k:Stays a H H'):WayAt a H' p kd n s g vh vc q x:=
 ⟨let ⟨dx,fs,e,r⟩:=h.ob;⟨dx,fs,k _ _ _ _ (.inr ⟨kd,rfl⟩) e,r⟩,λ z=>k.fr (h.fq z)⟩
theorem WayAt.mono {a:Ad} {H H':Hp} {p:Addr} {kd:Kd} {n s g:Str} {vh vc:V} {q:Addr} {x:Rat} (h:WayAt a H p kd n s g vh vc q x) (ss:Same H H'):WayAt a H' p kd n s g vh vc q x:=h.keep (.of ss)
theorem Stays.put {a:Ad} {H:Hp} {d:Addr} {o o':HO} (hd:H d=some o) (ho:∀ C dx fs,o≠.ins C dx fs):Stays a H (upd H d o'):=λ b C dx fs _ e=>by rw [ai (bS e hd (ho C dx fs).symm)];exact e
theorem cv (T:TX K mg a) (kd:Kd):WayC K (kd.C a):=by
 cases kd
 ·exact T.wW
 ·exact T.wG
 ·exact T.wL
 ·exact T.wS
noncomputable def NewWay (a:Ad) (H:Hp) (Q:VK) (kd:Kd) (n s g:Str) (vh vc:V) (x:Rat):Prop:=∀ p H' vc' q,H p=none->Same H H'->WayAt a H' p kd n s g vh vc' q x->CoIs a.Fraction H' p vc vc'->Q (.ref p) H'
theorem dO {H H':Hp} {x dx C:Addr} (h1:H x=none) (h2:H dx=none) (h:∀ b o,(upd (upd H dx (.own x)) x (.ins C dx [])) b=some o->b≠x->H' b=some o):Same H H':=by
 intro b o e;have n1:=av e h1;refine h b o ?_ n1;rw [ai n1,ai (av e h2)];exact e
theorem dN {H:Hp} {x dx C:Addr} (h1:H x=none) (h2:H dx=none):Same H (upd (upd H dx (.own x)) x (.ins C dx [])):=by
 intro b o e;rw [ai (av e h1),ai (av e h2)];exact e
theorem mkW {H:Hp} {Q:VK} {n s g:Str} {vh vc:V} {x:Rat} (T:TX K mg a) (sg:s≠g) (hh:HiOk a.Fraction H vh) (k:NewWay a H Q .way n s g vh vc x) (p dx:Addr) (h1:H p=none) (h2:H dx=none) (_:dx≠p) :
  spWayN K a [.ref p,.str n,.str s,.str g,vh,vc] (upd (upd H dx (.own p)) p (.ins a.Way dx [])) (λ v H2=>v=.non/\Q (.ref p) H2) E0:=by
 have ss:=dN (C:=a.Way) h1 h2;refine ⟨p,_,dx,n,s,g,vh,vc,rfl,ae,T.wW,sg,hh.mono ss,λ H' fs vc' h5 hl co hs ho=>⟨rfl,?_⟩⟩;have s2:=dO h1 h2 hs;exact k p _ vc' p h1 s2 ⟨⟨dx,fs,ho,h5,λ z=>absurd rfl z⟩,λ z=>absurd rfl z⟩ co
theorem mkG {H:Hp} {Q:VK} {n s g:Str} {vh vc:V} {q:Addr} {x:Rat} (T:TX K mg a) (sg:s≠g) (fq:FrAt a.Fraction H q x) (hx:growOk x) (hh:HiOk a.Fraction H vh) (k:NewWay a H Q .gro n s g vh vc x) (p dx:Addr) (h1:H p=none) (h2:H dx=none) (_:dx≠p) :
  cm K a "rate" growOk [.ref p,.str n,.str s,.str g,.ref q,vh,vc] (upd (upd H dx (.own p)) p (.ins a.Growing dx [])) (λ v H2=>v=.non/\Q (.ref p) H2) E0:=by
 have ss:=dN (C:=a.Growing) h1 h2;refine ⟨p,_,dx,n,s,g,vh,vc,q,x,rfl,ae,T.wG,T.na_Growing_rate,sg,fq.mono ss,hx,hh.mono ss,λ H' fs vc' h5 hl co hs ho=>⟨rfl,?_⟩⟩;have s2:=dO h1 h2 hs;exact k p _ vc' q h1 s2 ⟨⟨dx,fs,ho,h5,λ _=>hl⟩,λ _=>fq.mono s2⟩ co
theorem mkL {H:Hp} {Q:VK} {n s g:Str} {vh vc:V} {q:Addr} {x:Rat} (T:TX K mg a) (sg:s≠g) (fq:FrAt a.Fraction H q x) (hx:leakOk x) (hh:HiOk a.Fraction H vh) (k:NewWay a H Q .lea n s g vh vc x) (p dx:Addr) (h1:H p=none) (h2:H dx=none) (_:dx≠p) :
  cm K a "loss" leakOk [.ref p,.str n,.str s,.str g,.ref q,vh,vc] (upd (upd H dx (.own p)) p (.ins a.Leaking dx [])) (λ v H2=>v=.non/\Q (.ref p) H2) E0:=by
 have ss:=dN (C:=a.Leaking) h1 h2;refine ⟨p,_,dx,n,s,g,vh,vc,q,x,rfl,ae,T.wL,T.na_Leaking_loss,sg,fq.mono ss,hx,hh.mono ss,λ H' fs vc' h5 hl co hs ho=>⟨rfl,?_⟩⟩;have s2:=dO h1 h2 hs;exact k p _ vc' q h1 s2 ⟨⟨dx,fs,ho,h5,λ _=>hl⟩,λ _=>fq.mono s2⟩ co
inductive IspGain (a:Ad) (kd:Kd) (vs:List V) (H:Hp) (Q:VK):Prop
 | mk (p:Addr) (n s g:Str) (vh vc:V) (q:Addr) (x:Rat) (h1:vs=[.ref p]) (h2:WayAt a H p kd n s g vh vc q x) (h3:SmR x) (h4:∀ r H',Same H H'->FrAt a.Fraction H' r (cW kd x)->Q (.ref r) H'):IspGain a kd vs H Q
noncomputable def dM (a:Ad) (kd:Kd):Sp:=λ vs H Q _=>IspGain a kd vs H Q
theorem fA {kd:Kd}:∀ vs H Q E,dM a kd vs H Q E->vs.length=(["self"]:List Str).length:=λ vs H Q E h=>by
 obtain ⟨_,_,_,_,_,_,_,_,rfl,_⟩:=h;rfl
theorem gain_Way (T:TX K mg a):MtB P w K mg base CX0 a.Way "gain" 7 ["self"] (dM a .way):=by
 refine T.m_Way_gain.ok sc_Way_gain fA (λ f cdv A outer s₀ H vs Q E hr h=>?_);obtain ⟨p,n,s,g,vh,vc,q,x,rfl,W,sx,k⟩:=h;refine ⟨_,(ag (aq (bo (mk1 T) hr T.mg_Fraction ak (aa ac ad)))),?_⟩;try dsimp only [aG,Cx.nox,Cx.wish]
 walk_at "rd"
 exact ⟨by decide,sm1,λ r H1 _ s1 f1=>k r H1 s1 f1⟩
theorem gain_Growing (T:TX K mg a):MtB P w K mg base CX0 a.Growing "gain" 7 ["self"] (dM a .gro):=by
 refine T.m_Growing_gain.ok sc_Growing_gain fA (λ f cdv A outer s₀ H vs Q E hr h=>?_);obtain ⟨p,n,s,g,vh,vc,q,x,rfl,W,sx,k⟩:=h;refine ⟨_,(ag (aq (aX (pv 0) rfl))),?_⟩;try dsimp only [aG,Cx.nox,Cx.wish]
 obtain ⟨dx,fs,ho,h5,hl⟩:=W.ob;exact ⟨_,rfl,p,_,dx,fs,_,rfl,ho,T.wG.cl,T.na_Growing_rate,hl (by nofun),k q H (Same.refl _) (W.fq (by nofun))⟩
theorem b_gainL (T:TX K mg a) (kd:Kd) (C:Addr) (hC:kd.C a=C) (hk:kd≠.way) (hf:kd.f = "loss") (hg:∀ x,cW kd x=1-x) (cl:Cls K C) (nl:NoAttr K C "loss"):dv P w K mg base "Leaking.gain" bR ["self"] 6 (dM a kd):=by
 intro f cdv A outer s₀ H vs Q E hr h;obtain ⟨p,n,s,g,vh,vc,q,x,rfl,W,sx,k⟩:=h;refine ⟨_,(ag (aq (cU T.fr (bo (mk1 T) hr T.mg_Fraction ak (aa ac ad)) (ok_minus T) hr ak (aa (aX (pv 0) rfl) ad)))),?_⟩;try dsimp only [aG,Cx.nox,Cx.wish]
 obtain ⟨dx,fs,ho,h5,hl⟩:=W.ob;have hl:=hl hk;rw [hf] at hl;rw [hC] at ho;walk_at "rd"
 refine ⟨by decide,sm1,λ r H1 nr s1 f1=>?_⟩;have e1:Rat.divInt 1 1=1:=rfl;rw [e1] at f1;have s2:SmR (1:Rat):=⟨sm1,sm1⟩;have ho1:=s1 _ _ ho;have fq1:=(W.fq hk).mono s1;walk_at "rd"
 intro r2 H2 nr2 s22 f2;refine k r2 H2 (s1.trans s22) ?_;rw [hg];exact f2
theorem gain_Leaking (T:TX K mg a):MtB P w K mg base CX0 a.Leaking "gain" 7 ["self"] (dM a .lea):=T.m_Leaking_gain.ok dA fA (b_gainL T .lea _ rfl (by nofun) rfl (λ _=>rfl) T.wL.cl T.na_Leaking_loss)
theorem gain_Store (T:TX K mg a):MtB P w K mg base CX0 a.Store "gain" 7 ["self"] (dM a .sto):=T.m_Store_gain.ok dA fA (b_gainL T .sto _ rfl (by nofun) rfl (λ _=>rfl) T.wS.cl T.na_Store_loss)
theorem gain_any (T:TX K mg a) (kd:Kd):MtB P w K mg base CX0 (kd.C a) "gain" 7 ["self"] (dM a kd):=by
 cases kd
 ·exact gain_Way T
 ·exact gain_Growing T
 ·exact gain_Leaking T
 ·exact gain_Store T
inductive IspOut (a:Ad) (kd:Kd) (vs:List V) (H:Hp) (Q:VK):Prop
 | mk (p r:Addr) (n s g:Str) (vh vc:V) (q:Addr) (x y:Rat) (h1:vs=[.ref p,.ref r]) (h2:WayAt a H p kd n s g vh vc q x) (h3:FrAt a.Fraction H r y) (h4:SmR x) (h5:SmR y) (h6:SmR (cW kd x)) (h7:∀ r' H',Same H H'->FrAt a.Fraction H' r' (y*cW kd x)->Q (.ref r') H'):IspOut a kd vs H Q
noncomputable def spOut (a:Ad) (kd:Kd):Sp:=λ vs H Q _=>IspOut a kd vs H Q
theorem len_Out {kd:Kd}:∀ vs H Q E,spOut a kd vs H Q E->vs.length=(["self","amount"]:List Str).length:=λ vs H Q E h=>by
 obtain ⟨_,_,_,_,_,_,_,_,_,_,rfl,_⟩:=h;rfl
theorem b_out (T:TX K mg a) (kd:Kd):dv P w K mg base "Way.out" cx ["self","amount"] 7 (spOut a kd):=by
 intro f cdv A outer s₀ H vs Q E hr h;obtain ⟨p,r,n,s,g,vh,vc,q,x,y,rfl,W,fr,sx,sy,sg,k⟩:=h;refine ⟨_,(ag (aq (cU T.fr (pv 1) (ok_times T) hr ak (aa (cK (CX:=CX0) (pv 0) hr ak) ad)))),?_⟩;try dsimp only [aG,Cx.nox,Cx.wish]
 obtain ⟨dx,fs,ho,h5,hl⟩:=W.ob;refine ⟨_,rfl,r,y,rfl,fr,_,rfl,p,kd.C a,dx,fs,7,["self"],dM a kd,rfl,ho,h5.ga,(cv T kd).cl,by decide,gain_any T kd,p,n,s,g,vh,vc,q,x,rfl,W,sx,λ r1 H1 s1 f1=>?_⟩;exact ⟨r,r1,y,_,rfl,fr.mono s1,f1,sy,sg,trivial,λ r2 H2 _ s2 f2=>k r2 H2 (s1.trans s2) f2⟩
theorem out_any (T:TX K mg a) (kd:Kd):MtB P w K mg base CX0 (kd.C a) "out" 8 ["self","amount"] (spOut a kd):=by
 cases kd
 ·exact T.m_Way_out.ok dg len_Out (b_out T _)
 ·exact T.m_Growing_out.ok dg len_Out (b_out T _)
 ·exact T.m_Leaking_out.ok dg len_Out (b_out T _)
 ·exact T.m_Store_out.ok dg len_Out (b_out T _)
structure WD where
 nm:Str
 st:Str
 go:Str
 kd:Kd
 x:Rat
 hi:Option Rat
 co:Rat
noncomputable def HiT (a:Ad) (H:Hp) (v:V):Option Rat->Prop
 | none=>v=.non
 | some x=>∃ q,v=.ref q/\FrAt a.Fraction H q x
theorem HiT.mono {H H':Hp} {v:V} {o:Option Rat} (h:HiT a H v o) (s:Same H H'):HiT a H' v o:=by
 cases o with
 | none=>exact h
 | some x=>exact let ⟨q,e,f⟩:=h;⟨q,e,f.mono s⟩
theorem HiT.keep {H H':Hp} {v:V} {o:Option Rat} (h:HiT a H v o) (s:Stays a H H'):HiT a H' v o:=by
 cases o with
 | none=>exact h
 | some x=>exact let ⟨q,e,f⟩:=h;⟨q,e,s.fr f⟩
noncomputable def WayIs (a:Ad) (H:Hp) (v:V) (d:WD):Prop:=∃ p vh vc q,v=.ref p/\WayAt a H p d.kd d.nm d.st d.go vh vc q d.x/\d.kd≠.sto/\(∃ qc,vc=.ref qc/\FrAt a.Fraction H qc d.co)/\HiT a H vh d.hi
theorem WayIs.mono {H H':Hp} {v:V} {d:WD} (h:WayIs a H v d) (s:Same H H'):WayIs a H' v d:=by
 obtain ⟨p,vh,vc,q,e,W,k,⟨qc,ec,fc⟩,hh⟩:=h
 exact ⟨p,vh,vc,q,e,W.mono s,k,⟨qc,ec,fc.mono s⟩,hh.mono s⟩
noncomputable def RowAt {α:Type} (R:Hp->V->α->Prop) (H:Hp) (ts:List V) (xs:List α):Prop:=ts.length=xs.length/\∀ (i:Nat) (t:V) (x:α),ts[i]?=some t->xs[i]?=some x->R H t x
theorem RowAt.mono {α:Type} {R:Hp->V->α->Prop} {H H':Hp} {ts:List V} {xs:List α} (hR:∀ v x,R H v x->R H' v x) (h:RowAt R H ts xs):RowAt R H' ts xs:=⟨h.1,λ i t x h1 h2=>hR t x (h.2 i t x h1 h2)⟩
theorem RowAt.nil {α:Type} {R:Hp->V->α->Prop} {H:Hp}:RowAt R H [] []:=⟨rfl,λ i t x h=>by simp at h⟩
theorem RowAt.snoc {α:Type} {R:Hp->V->α->Prop} {H:Hp} {ts:List V} {xs:List α} {t:V} {x:α} (d:RowAt R H ts xs) (hf:R H t x):RowAt R H (ts++[t]) (xs++[x]):=by
 refine ⟨by rw [fX,fX,d.1];rfl,λ i u z h1 h2=>?_⟩;by_cases hi:i<ts.length
 ·rw [gQ hi] at h1;rw [gQ (by rw [<- d.1];exact hi)] at h2;exact d.2 i u z h1 h2
 ·rw [gE (by omega)] at h1;rw [gE (by rw [<- d.1];omega),<- d.1] at h2
  have hz:i-ts.length=0:=by
   have:=(fL.mp h1).1
   simp at this;omega
  rw [hz] at h1 h2;simp at h1 h2;subst h1 h2;exact hf
theorem RowAt.get {α:Type} {R:Hp->V->α->Prop} {H:Hp} {ts:List V} {xs:List α} {i:Nat} {t:V} (d:RowAt R H ts xs) (h:ts[i]?=some t):∃ x,xs[i]?=some x/\R H t x:=by
 have hi:i<xs.length:=by rw [<- d.1];exact (fL.mp h).1
 exact ⟨xs[i],fF hi,d.2 i t _ h (fF hi)⟩
theorem RowAt.get' {α:Type} {R:Hp->V->α->Prop} {H:Hp} {ts:List V} {xs:List α} {i:Nat} {x:α} (d:RowAt R H ts xs) (h:xs[i]?=some x):∃ t,ts[i]?=some t/\R H t x:=by
 have hi:i<ts.length:=by rw [d.1];exact (fL.mp h).1
 exact ⟨ts[i],fF hi,d.2 i _ x (fF hi) h⟩
noncomputable def PlIs (a:Ad) (H:Hp) (v:V) (p:Str × Rat):Prop:=∃ t q,v=.ref t/\H t=some (.tup [.str p.1,.ref q])/\FrAt a.Fraction H q p.2
theorem PlIs.mono {H H':Hp} {v:V} {p:Str × Rat} (h:PlIs a H v p) (s:Same H H'):PlIs a H' v p:=by
 obtain ⟨t,q,e,h1,h2⟩:=h
 exact ⟨t,q,e,s _ _ h1,h2.mono s⟩
theorem ay {H:Hp} {d:Addr} {o:HO} (h:H d=none):Same H (upd H d o):=λ b u e=>by rw [ai (av e h)];exact e
theorem uG {H:Hp} {e:Addr} {o:HO} (n:H e=none):∃ H',upd H e o=H'/\Same H H'/\H' e=some o:=⟨_,rfl,ay n,ae⟩
theorem aH {H H':Hp} {d:Addr} {o:HO} (h:H d=none) (s:Same H H'):Same H (upd H' d o):=λ b u e=>by rw [ai (av e h)];exact s _ _ e
theorem eT {κ:Type} [DecidableEq κ] {kvs:List (κ × V)} {k:κ} (h:¬ k∈kvs.map (·.1)):bu kvs k=none:=by
 cases e:bu kvs k with
 | none=>rfl
 | some v=>exact absurd (valV_in e) h
theorem val_some {κ:Type} [DecidableEq κ] {kvs:List (κ × V)} {k:κ} (h:k∈kvs.map (·.1)):∃ v,bu kvs k=some v:=by
 cases e:bu kvs k with
 | none=>exact absurd h (valV_not e)
 | some v=>exact ⟨v,rfl⟩
noncomputable def WantsAt (a:Ad) (H:Hp) (d:Addr) (ps:List (Str × Rat)):Prop:=∃ kvs,H d=some (.dK kvs)/\kvs.map (·.1)=ps.map (λ p=>Sum.inr p.1)/\RowAt (λ H v x=>∃ q,v=.ref q/\FrAt a.Fraction H q x) H (kvs.map (·.2)) (ps.map (·.2))
theorem WantsAt.mono {H H':Hp} {d:Addr} {ps:List (Str × Rat)} (h:WantsAt a H d ps) (s:Same H H'):WantsAt a H' d ps:=
 let ⟨kvs,h1,h2,h3⟩:=h;⟨kvs,s _ _ h1,h2,h3.mono λ v x ⟨q,e,f⟩=>⟨q,e,f.mono s⟩⟩
inductive IspWants (K:W.Frag) (a:Ad) (vs:List V) (H:Hp) (Q:VK):Prop
 | mk (l:Addr) (ts:List V) (ps:List (Str × Rat)) (h1:vs=[.ref l]) (h2:SqL K H l ts) (h3:RowAt (PlIs a) H ts ps) (h4:(ps.map (·.1)).Nodup) (h5:ps.length<=1000) (h6:∀ d H',H d=none->Same H H'->WantsAt a H' d ps->Q (.ref d) H'):IspWants K a vs H Q
noncomputable def spWants (K:W.Frag) (a:Ad):Sp:=λ vs H Q _=>IspWants K a vs H Q
theorem ok_wants_by_name (T:TX K mg a):FnB P w K mg base CX0 "wants_by_name" 1 ["places"] (spWants K a):=by
 refine T.d_wants_by_name.ok sc_wants_by_name (λ vs H Q E h=>?_) (λ f cdv A outer s H vs Q E hr h=>?_)
 ·obtain ⟨_,_,_,rfl,_⟩:=h;rfl
 ·obtain ⟨l,ts,ps,rfl,hS,hp,nd,hlen,k⟩:=h
  refine ⟨_,(af (al (i:=1) sc_wants_by_name.nd rfl (Or.inl rfl) dW)
   (af (bK gA rfl (cb (pv 0)) (pg_tup rfl (aI (az (i:=2) sc_wants_by_name.nd rfl (Or.inl rfl)) (aI (az (i:=3) sc_wants_by_name.nd rfl (Or.inl rfl)) fg))) (af (aD (eM (pc_din (bB hr) (pv 2) (pv 1))) (ag bt) ap)
   (ag (dl (bB hr) (pv 1) (pv 2) (pv 3) rfl))))
   (ag (aq (pv 1))))),?_⟩
  try dsimp only [aG,Cx.nox,Cx.wish]
  intro d nd0;have s0:Same H (upd H d (.dK [])):=ay nd0;refine ⟨_,rfl,l,rfl,⟨_,s0.seq hS⟩,bT (K:=K) (a:=l) (xs:=ts) (λ i σ H2=>i<=ps.length/\∃ z2 z3,σ=[some (.ref l),some (.ref d),z2,z3]/\Same H H2/\WantsAt a H2 d (ps.take i)) ⟨fY _,_,_,rfl,s0,[],ae,rfl,RowAt.nil⟩ (λ i σ H2 _ ⟨_,_,_,_,s2,_⟩=>s2.seq hS) ?_ ?_⟩
  ·rintro i t σ H2 ht ⟨hi,z2,z3,rfl,s2,kvs,hd,hk,hv⟩;obtain ⟨p,ep,t',q,rfl,h1,h2⟩:=hp.get ht;have hi':i<ps.length:=(fL.mp ep).1
   have nk:¬ (Sum.inr p.1:Key)∈kvs.map (·.1):=by
    rw [hk];intro m;obtain ⟨p',hp',e⟩:=fQ.mp m;have e:p'.1=p.1:=Sum.inr.inj e;obtain ⟨j,hj⟩:=gr.mp hp'
    have hj2:j<i:=by
     have:=(fL.mp hj).1
     rw [fZ] at this;omega
    rw [List.getElem?_take,if_pos hj2] at hj;have g1:(ps.map (·.1))[j]?=some p.1:=by rw [fN,hj,gJ,e]
    have g2:(ps.map (·.1))[i]?=some p.1:=by rw [fN,ep,gJ]
    have:=(gL (by rw [fG];omega) nd).mp (g1.trans g2.symm)
    omega
   refine ⟨t',[.str p.1,.ref q],rfl,SqT.of (s2 _ _ h1),rfl,.str p.1,[.ref q],rfl,⟨.ref q,[],rfl,⟨rfl,?_⟩⟩⟩;refine ⟨_,rfl,_,rfl,d,_,rfl,DGet.k (k:=Sum.inr p.1) hd,_,rfl,?_⟩;rw [eT nk];refine iteF ?_
   have hl:kvs.length=i:=by
    have:=gK List.length hk
    rw [fG,fG,fZ] at this;omega
   refine ⟨_,rfl,_,rfl,_,rfl,d,_,rfl,DPut.k (k:=Sum.inr p.1) hd (aE (by omega)),?_⟩;rw [putK_new _ (eT nk)];have s3:=aH (o:=.dK (kvs++[(Sum.inr p.1,.ref q)])) nd0 s2;refine ⟨hi',_,_,rfl,s3,kvs++[(Sum.inr p.1,.ref q)],ae,?_,?_⟩
   ·rw [gj,hk,gf,ep,gv,gj];rfl
   ·rw [gj,gf,ep,gv,gj];refine RowAt.snoc (hv.mono λ v x ⟨q',e,dq,f⟩=>⟨q',e,dq,?_⟩) ⟨q,rfl,h2.mono s3⟩;rw [ai (bS f hd (by intro z;cases z))];exact f
  ·rintro σ H2 ⟨_,z2,z3,rfl,s2,hw⟩;rw [hp.1,ge] at hw;exact ⟨_,rfl,k d H2 nd0 s2 hw⟩
inductive IspCheck (a:Ad) (vs:List V) (H:Hp) (Q:VK):Prop
 | mk (v:V) (d:WD) (da dw:Addr) (ka kw:List (Key × V)) (h1:vs=[v,.ref da,.ref dw]) (h2:WayIs a H v d) (h3:H da=some (.dK ka)) (h4:H dw=some (.dK kw)) (h5:¬ (Sum.inr d.nm:Key)∈ka.map (·.1)) (h6:(Sum.inr d.st:Key)∈kw.map (·.1)) (h7:(Sum.inr d.go:Key)∈kw.map (·.1)) (h8:∀ H',Same H H'->Q .non H'):IspCheck a vs H Q
noncomputable def spCheck (a:Ad):Sp:=λ vs H Q _=>IspCheck a vs H Q
theorem noStore (T:TX K mg a) {kd:Kd} (h:kd≠.sto):PySem.W.kitOne K (.ref (kd.C a)) (.ref a.Store)=some false:=by
 cases kd
 ·exact T.k_Way_Store
 ·exact T.k_Growing_Store
 ·exact T.k_Leaking_Store
 ·exact absurd rfl h
theorem tyWay (T:TX K mg a) {H:Hp} {p dx:Addr} {fs:List (Str × V)} {kd:Kd} (h:H p=some (.ins (kd.C a) dx fs)):TyOf K H (.ref p) (.ref (kd.C a)):=by
 have c:=(cv T kd).cl
 cases kd
 ·exact TyOf.ins h c T.c1_Way T.c2 T.c3 T.c4_Way
 ·exact TyOf.ins h c T.c1_Growing T.c2 T.c3 T.c4_Growing
 ·exact TyOf.ins h c T.c1_Leaking T.c2 T.c3 T.c4_Leaking
 ·exact TyOf.ins h c T.c1_Store T.c2 T.c3 T.c4_Store
theorem ok_check_way (T:TX K mg a):FnB P w K mg base CX0 "check_way" 1 ["way","ahead","wants"] (spCheck a):=by
 refine T.d_check_way.ok sc_check_way (λ vs H Q E h=>?_) (λ f cdv A outer s H vs Q E hr h=>?_)
 ·obtain ⟨_,_,_,_,_,_,rfl,_⟩:=h;rfl
 ·obtain ⟨v,d,da,dw,ka,kw,rfl,⟨p,vh,vc,q,rfl,W,hk⟩,ha,hw,n1,n2,n3,k⟩:=h
  refine ⟨_,(af (aD (bE (aC (df (c:=.ref a.Store)) (by rfl) T.z_isinstance gX (aa (pv 0) (aa (pe_glob (v:=.ref a.Store) (by rfl) T.mg_Store rfl) ad)))) (ag bt) ap)
   (af (aD (eM (pc_din (bB hr) (aX (pv 0) rfl) (pv 1))) (ag bt) ap)
   (ag (bK gA rfl (pi_tup (aF (aa (aX (pv 0) rfl) (aa (aX (pv 0) rfl) ad)))) (az (i:=3) sc_check_way.nd rfl (Or.inl rfl)) (ag (aD (eM (c8 (bB hr) (pv 3) (pv 2))) (ag bt) ap)))))),?_⟩
  try dsimp only [aG,Cx.nox,Cx.wish]
  obtain ⟨dx,fs,ho,h5,_⟩:=W.ob;have c:=cv T d.kd;refine ⟨_,rfl,_,_,_,_,rfl,(λ u h=>h),tyWay T ho,noStore T hk.1,_,rfl,iteF ?_⟩;refine ⟨_,rfl,p,_,dx,fs,_,rfl,ho,c.cl,c.n1,h5.nm,_,rfl,da,_,rfl,DGet.k (k:=Sum.inr d.nm) ha,_,rfl,?_⟩;rw [eT n1];refine iteF ?_;refine ⟨_,rfl,p,_,dx,fs,_,rfl,ho,c.cl,c.n2,h5.st,_,rfl,p,_,dx,fs,_,rfl,ho,c.cl,c.n3,h5.go,zL2,λ t nt=>?_⟩;have s1:=ay (o:=.tup [.str d.st,.str d.go]) nt;refine ⟨t,rfl,⟨_,SqT.of ae⟩,for_tup (K:=K) (a:=t) (xs:=[.str d.st,.str d.go]) (λ i σ H2=>∃ z,σ=[some (.ref p),some (.ref da),some (.ref dw),z]/\H2=upd H t (.tup [.str d.st,.str d.go])) ⟨_,rfl,rfl⟩ (λ i σ H2 _ ⟨_,_,e⟩=>by rw [e];exact SqT.of ae) ?_ ?_⟩
  ·rintro i x σ H2 hx ⟨z,rfl,rfl⟩
   have hx:∃ y,x=.str y/\(Sum.inr y:Key)∈kw.map (·.1):=by
    match i,hx with
    | 0,hx=>exact ⟨d.st,(f9 hx).symm,n2⟩
    | 1,hx=>exact ⟨d.go,(f9 hx).symm,n3⟩
    | i+2,hx=>simp at hx
   obtain ⟨y,rfl,hy⟩:=hx;obtain ⟨u,hu⟩:=val_some hy;refine ⟨_,rfl,_,rfl,dw,_,rfl,DGet.k (k:=Sum.inr y) (s1 _ _ hw),_,rfl,?_⟩;rw [hu];exact iteF ⟨_,rfl,rfl⟩
  ·rintro σ H2 ⟨z,rfl,rfl⟩;exact k _ s1
noncomputable def WaysAt (a:Ad) (H:Hp) (d:Addr) (ds:List WD):Prop:=∃ kvs,H d=some (.dK kvs)/\kvs.map (·.1)=ds.map (λ x=>Sum.inr x.nm)/\RowAt (WayIs a) H (kvs.map (·.2)) ds
theorem WaysAt.mono {H H':Hp} {d:Addr} {ds:List WD} (h:WaysAt a H d ds) (s:Same H H'):WaysAt a H' d ds:=
 let ⟨kvs,h1,h2,h3⟩:=h;⟨kvs,s _ _ h1,h2,h3.mono λ v x z=>z.mono s⟩
inductive IspWaysBy (K:W.Frag) (a:Ad) (vs:List V) (H:Hp) (Q:VK):Prop
 | mk (l dw:Addr) (ts:List V) (ds:List WD) (ps:List (Str × Rat)) (h1:vs=[.ref l,.ref dw]) (h2:SqL K H l ts) (h3:RowAt (WayIs a) H ts ds) (h4:WantsAt a H dw ps) (h5:(ds.map (·.nm)).Nodup) (h6:ds.length<=1000) (h7:(∀ d∈ds,d.st∈ps.map (·.1)/\d.go∈ps.map (·.1))) (h8:∀ d H',H d=none->Same H H'->WaysAt a H' d ds->Q (.ref d) H'):IspWaysBy K a vs H Q
noncomputable def spWaysBy (K:W.Frag) (a:Ad):Sp:=λ vs H Q _=>IspWaysBy K a vs H Q
theorem WayIs.keep {H H':Hp} {v:V} {x:WD} (h:WayIs a H v x) (k:Stays a H H'):WayIs a H' v x:=by
 obtain ⟨p,vh,vc,q,e,W,hk,⟨qc,ec,fc⟩,hh⟩:=h
 exact ⟨p,vh,vc,q,e,W.keep k,hk,⟨qc,ec,k.fr fc⟩,hh.keep k⟩
theorem WayIs.put {H:Hp} {v:V} {x:WD} {d:Addr} {kvs:List (Key × V)} {o:HO} (h:WayIs a H v x) (hd:H d=some (.dK kvs)):WayIs a (upd H d o) v x:=h.keep (.put hd (by intro _ _ _ z;cases z))
theorem nodup_take {α β:Type} {xs:List α} {f:α->β} {i:Nat} {x:α} (nd:(xs.map f).Nodup) (e:xs[i]?=some x):¬ f x∈(xs.take i).map f:=by
 intro m;obtain ⟨y,hy,ef⟩:=fQ.mp m;obtain ⟨j,hj⟩:=gr.mp hy;have hi:=(fL.mp e).1
 have hj2:j<i:=by
  have:=(fL.mp hj).1
  rw [fZ] at this;omega
 rw [List.getElem?_take,if_pos hj2] at hj;have g1:(xs.map f)[j]?=some (f x):=by rw [fN,hj,gJ,ef]
 have g2:(xs.map f)[i]?=some (f x):=by rw [fN,e,gJ]
 have:=(gL (by rw [fG];omega) nd).mp (g1.trans g2.symm)
 omega
theorem inr_mem {n:Str} {ns:List Str}:(Sum.inr n:Key)∈ns.map (λ x=>(Sum.inr x:Key))↔n∈ns:=by
 constructor
 ·intro h;obtain ⟨y,hy,e⟩:=fQ.mp h;rw [<- Sum.inr.inj e];exact hy
 ·exact λ h=>fQ.mpr ⟨n,h,rfl⟩
theorem ok_ways_by_name (T:TX K mg a):FnB P w K mg base CX0 "ways_by_name" 2 ["ways","wants"] (spWaysBy K a):=by
 refine T.d_ways_by_name.ok sc_ways_by_name (λ vs H Q E h=>?_) (λ f cdv A outer s H vs Q E hr h=>?_)
 ·obtain ⟨_,_,_,_,_,rfl,_⟩:=h;rfl
 ·obtain ⟨l,dw,ts,ds,ps,rfl,hS,hp,hw,nd,hlen,hin,k⟩:=h
  refine ⟨_,(af (al (i:=2) sc_ways_by_name.nd rfl (Or.inl rfl) dW)
   (af (bK gA rfl (cb (pv 0)) (az (i:=3) sc_ways_by_name.nd rfl (Or.inl rfl)) (af (bD (aw (ok_check_way T) hr ak (aa (pv 3) (aa (pv 2) (aa (pv 1) ad)))))
   (ag (dl (bB hr) (pv 2) (aX (pv 3) rfl) (pv 3) rfl))))
   (ag (aq (pv 2))))),?_⟩
  try dsimp only [aG,Cx.nox,Cx.wish]
  intro d nd0;have s0:Same H (upd H d (.dK [])):=ay nd0;refine ⟨_,rfl,l,rfl,⟨_,s0.seq hS⟩,bT (K:=K) (a:=l) (xs:=ts) (λ i σ H2=>i<=ds.length/\∃ z3,σ=[some (.ref l),some (.ref dw),some (.ref d),z3]/\Same H H2/\WaysAt a H2 d (ds.take i)) ⟨fY _,_,rfl,s0,[],ae,rfl,RowAt.nil⟩ (λ i σ H2 _ ⟨_,_,_,s2,_⟩=>s2.seq hS) ?_ ?_⟩
  ·rintro i t σ H2 ht ⟨hi,z3,rfl,s2,kvs,hd,hk,hv⟩;obtain ⟨x,ex,hx⟩:=hp.get ht;have hi':i<ds.length:=(fL.mp ex).1
   have nk:¬ (Sum.inr x.nm:Key)∈kvs.map (·.1):=by
    rw [hk]
    have:=nodup_take (f:=λ z:WD=>(Sum.inr z.nm:Key)) (by
     rw [show (λ z:WD=>(Sum.inr z.nm:Key))=(λ n=>(Sum.inr n:Key)) ∘ (λ z:WD=>z.nm) from rfl,<- gB];exact nd.map _ (λ u v h e=>h (Sum.inr.inj e))) ex
    exact this
   obtain ⟨kw,hkw,ekw,_⟩:=hw.mono s2;obtain ⟨i1,i2⟩:=hin x (fK ex);have ekw':kw.map (·.1)=(ps.map (·.1)).map (λ n=>(Sum.inr n:Key)):=by rw [ekw,gB];rfl
   refine ⟨_,rfl,_,rfl,_,rfl,t,x,d,dw,kvs,kw,rfl,hx.mono s2,hd,hkw,nk,by rw [ekw'];exact inr_mem.mpr i1,by rw [ekw'];exact inr_mem.mpr i2,λ H3 s3=>?_⟩;have hd3:=s3 _ _ hd;have hx3:=hx.mono (s2.trans s3);obtain ⟨p,vh,vc,q,rfl,W,hkd⟩:=id hx3;obtain ⟨dx,fs,ho,h5,_⟩:=W.ob;have c:=cv T x.kd
   have hl:kvs.length=i:=by
    have:=gK List.length hk
    rw [fG,fG,fZ] at this;omega
   refine ⟨_,rfl,_,rfl,_,rfl,p,_,dx,fs,_,rfl,ho,c.cl,c.n1,h5.nm,d,_,rfl,DPut.k (k:=Sum.inr x.nm) hd3 (aE (by omega)),?_⟩;rw [putK_new _ (eT nk)];have s4:=aH (o:=.dK (kvs++[(Sum.inr x.nm,.ref p)])) nd0 (s2.trans s3);refine ⟨hi',_,rfl,s4,kvs++[(Sum.inr x.nm,.ref p)],ae,?_,?_⟩
   ·rw [gj,hk,gf,ex,gv,gj];rfl
   ·rw [gj,gf,ex,gv];exact RowAt.snoc (hv.mono λ v y z=>(z.mono s3).put hd3) (hx3.put hd3)
  ·rintro σ H2 ⟨_,z3,rfl,s2,hw2⟩;rw [hp.1,ge] at hw2;exact ⟨_,rfl,k d H2 nd0 s2 hw2⟩
noncomputable def fsN (dw dy:Addr):List (Str × V):=[("wants",.ref dw),("ways",.ref dy)]
theorem fsN_new (dw dy:Addr):bc "ways" (.ref dy) (bc "wants" (.ref dw) [])=fsN dw dy:=by
 show (if ("wants":Str) = "ways" then _ else (("wants":Str),V.ref dw)::[(("ways":Str),V.ref dy)])=fsN dw dy;rw [if_neg (by decide +kernel)];rfl
theorem fsN_w (dw dy:Addr):(fsN dw dy).lookup ("wants":Str)=some (.ref dw):=rfl
theorem fsN_y (dw dy:Addr):(fsN dw dy).lookup ("ways":Str)=some (.ref dy):=by
 show List.lookup ("ways":Str) [(("wants":Str),V.ref dw),("ways",V.ref dy)]=_;rw [g8,show (("ways":Str) == "wants")=false by decide +kernel];rfl
theorem cG (dw dy:Addr) {m:Str} (h1:(m == "wants")=false) (h2:(m == "ways")=false):(fsN dw dy).lookup m=none:=by
 show List.lookup m [(("wants":Str),V.ref dw),("ways",V.ref dy)]=_;rw [g8,h1,g8,h2];rfl
noncomputable def NetAt (a:Ad) (H:Hp) (p:Addr) (ps:List (Str × Rat)) (ds:List WD):Prop:=∃ dx dw dy,H p=some (.ins a.Net dx (fsN dw dy))/\WantsAt a H dw ps/\WaysAt a H dy ds
theorem NetAt.mono {H H':Hp} {p:Addr} {ps:List (Str × Rat)} {ds:List WD} (h:NetAt a H p ps ds) (s:Same H H'):NetAt a H' p ps ds:=by
 obtain ⟨dx,dw,dy,e,h1,h2⟩:=h
 exact ⟨dx,dw,dy,s _ _ e,h1.mono s,h2.mono s⟩
noncomputable def NetNew (a:Ad) (H H':Hp) (p:Addr) (ps:List (Str × Rat)) (ds:List WD):Prop:=∃ dx dw dy,H' p=some (.ins a.Net dx (fsN dw dy))/\WantsAt a H' dw ps/\WaysAt a H' dy ds/\H dw=none/\H dy=none
theorem NetNew.at_ {H H':Hp} {p:Addr} {ps:List (Str × Rat)} {ds:List WD} (h:NetNew a H H' p ps ds):NetAt a H' p ps ds:=by
 obtain ⟨dx,dw,dy,h1,h2,h3,_⟩:=h
 exact ⟨dx,dw,dy,h1,h2,h3⟩
structure NetOk (ps:List (Str × Rat)) (ds:List WD):Prop where
 np:(ps.map (·.1)).Nodup
 lp:ps.length<=12
 nd:(ds.map (·.nm)).Nodup
 ld:ds.length<=24
 io:∀ d∈ds,d.st∈ps.map (·.1)/\d.go∈ps.map (·.1)
inductive IspNetI (K:W.Frag) (a:Ad) (vs:List V) (H:Hp) (Q:VK):Prop
 | mk (p dx lp lw:Addr) (tp tw:List V) (ps:List (Str × Rat)) (ds:List WD) (h1:vs=[.ref p,.ref lp,.ref lw]) (h2:H p=some (.ins a.Net dx [])) (h3:SqL K H lp tp) (h4:RowAt (PlIs a) H tp ps) (h5:SqL K H lw tw) (h6:RowAt (WayIs a) H tw ds) (h7:NetOk ps ds) (h8:∀ H',(∀ b o,H b=some o->b≠p->H' b=some o)->NetNew a H H' p ps ds->Q .non H'):IspNetI K a vs H Q
noncomputable def spNetI (K:W.Frag) (a:Ad):Sp:=λ vs H Q _=>IspNetI K a vs H Q
theorem WantsAt.ins {H:Hp} {d p C dx:Addr} {fs gs:List (Str × V)} {ps:List (Str × Rat)} (h:WantsAt a H d ps) (hp:H p=some (.ins C dx fs)) (hC:C≠a.Fraction):WantsAt a (upd H p (.ins C dx gs)) d ps:=by
 obtain ⟨kvs,h1,h2,h3⟩:=h;refine ⟨kvs,by rw [ai (bS h1 hp (by intro z;cases z))];exact h1,h2,h3.mono λ v x ⟨q,e,dq,f⟩=>⟨q,e,dq,?_⟩⟩;rw [ai (bS f hp (by intro z;cases z;exact hC rfl))];exact f
theorem Stays.ins {H:Hp} {p C dx:Addr} {fs gs:List (Str × V)} (hp:H p=some (.ins C dx fs)) (hC:C≠a.Fraction/\∀ kd:Kd,C≠kd.C a):Stays a H (upd H p (.ins C dx gs)):=λ b C' dx' fs' h e=>by
 rw [ai (bS e hp λ z=>?_)]
 ·exact e
 ·have ec:=(HO.ins.inj z).1;rcases h with rfl | ⟨kd,rfl⟩
  ·exact hC.1 ec.symm
  ·exact hC.2 kd ec.symm
theorem WaysAt.ins {H:Hp} {d p C dx:Addr} {fs gs:List (Str × V)} {ds:List WD} (h:WaysAt a H d ds) (hp:H p=some (.ins C dx fs)) (hC:C≠a.Fraction/\∀ kd:Kd,C≠kd.C a):WaysAt a (upd H p (.ins C dx gs)) d ds:=by
 obtain ⟨kvs,h1,h2,h3⟩:=h;exact ⟨kvs,by rw [ai (bS h1 hp (by intro z;cases z))];exact h1,h2,h3.mono λ v x z=>z.keep (.ins hp hC)⟩
theorem netC (T:TX K mg a):a.Net≠a.Fraction/\∀ kd:Kd,a.Net≠kd.C a:=by
 have w1:a.Net≠a.Fraction:=λ e=>by
  have h:=T.na_Fraction_top;have h2:=T.m_Fraction_times;rw [<- e] at h2;obtain ⟨f,fd,_,⟨m,_,_⟩,_⟩:=h2
  cases T.no_Net_times.symm.trans m
 refine ⟨w1,λ kd e=>?_⟩
 have:=T.no_Net_out
 cases kd
 ·obtain ⟨f,fd,_,⟨m,_,_⟩,_⟩:=T.m_Way_out;rw [show a.Way=a.Net from e.symm] at m
  cases this.symm.trans m
 ·obtain ⟨f,fd,_,⟨m,_,_⟩,_⟩:=T.m_Growing_out;rw [show a.Growing=a.Net from e.symm] at m
  cases this.symm.trans m
 ·obtain ⟨f,fd,_,⟨m,_,_⟩,_⟩:=T.m_Leaking_out;rw [show a.Leaking=a.Net from e.symm] at m
  cases this.symm.trans m
 ·obtain ⟨f,fd,_,⟨m,_,_⟩,_⟩:=T.m_Store_out;rw [show a.Store=a.Net from e.symm] at m
  cases this.symm.trans m
theorem mk_Net (T:TX K mg a):MkB P w K mg base CX0 a.Net 4 ["self","places","ways"] [] (spNetI K a):=by
 refine T.i_Net.ok sc_Net_init (λ vs H Q E h=>?_) (λ f cdv A outer s H vs Q E hr h=>?_) _ (by simp)
 ·obtain ⟨_,_,_,_,_,_,_,_,rfl,_⟩:=h;rfl
 ·obtain ⟨p,dx,lp,lw,tp,tw,ps,ds,rfl,hp,hS,hP,hL,hW,ok,k⟩:=h
  refine ⟨_,(af (aD (PW.pt (pw_or (ar op_gt (aC aW (by rfl) T.z_len gM (aa (pv 1) ad)) (pe_gi T.gi_MOST_PLACES) (aA _)) (pw_or1 (ar op_gt (aC aW (by rfl) T.z_len gM (aa (pv 2) ad)) (pe_gi T.gi_MOST_WAYS) (aA _))))) (ag bt) ap)
   (af (bZ (pv 0) (aw (ok_wants_by_name T) hr ak (aa (pv 1) ad)) rfl)
   (ag (bZ (pv 0) (aw (ok_ways_by_name T) hr ak (aa (pv 2) (aa (aX (pv 0) rfl) ad))) rfl)))),?_⟩
  try dsimp only [aG,Cx.nox,Cx.wish]
  have e1:(tp.length:Int)<=12:=by have:=ok.lp;rw [<- hP.1] at this;omega
  have e2:(tw.length:Int)<=24:=by have:=ok.ld;rw [<- hW.1] at this;omega
  refine ⟨_,rfl,lp,tp,rfl,.inl hS,_,_,rfl,rfl,_,rfl,b9 (fU (by omega)) ?_⟩;refine ⟨_,rfl,lw,tw,rfl,.inl hL,_,_,rfl,rfl,_,rfl,b9 (fU (by omega)) ?_⟩;refine ⟨_,rfl,lp,tp,ps,rfl,hS,hP,ok.np,fO ok.lp (by decide),λ dw H1 n1 s1 hw1=>?_⟩;have hp1:=s1 _ _ hp;refine ⟨_,rfl,p,a.Net,dx,[],rfl,hp1,T.cl_Net,T.na_Net_wants,by decide,?_⟩;have hC:=netC T;generalize hH2:upd H1 p (.ins a.Net dx (bc "wants" (.ref dw) []))=H2;have hp2:H2 p=some (.ins a.Net dx (bc "wants" (.ref dw) [])):=by rw [<- hH2];exact ae
  have hw2:WantsAt a H2 dw ps:=by rw [<- hH2];exact hw1.ins hp1 hC.1
  have k2:∀ b o,H b=some o->b≠p->H2 b=some o:=λ b o e ne=>by rw [<- hH2,ai ne];exact s1 _ _ e
  have hL2:SqL K H2 lw tw:=by
   rcases hL with (h | ⟨o,h⟩) | h
   ·exact .inl (.inl (k2 _ _ h (bS h hp (by intro z;cases z))))
   ·exact .inl (.inr ⟨o,k2 _ _ h (bS h hp (by intro z;cases z))⟩)
   ·exact .inr h
  have hW2:RowAt (WayIs a) H2 tw ds:=hW.mono λ v x z=>z.keep λ b C' dx' fs' h e=>k2 _ _ e (bS e hp λ y=>by
   have ec:=(HO.ins.inj y).1;rcases h with rfl | ⟨kd,rfl⟩
   ·exact hC.1 ec.symm
   ·exact hC.2 kd ec.symm)
  refine ⟨_,rfl,_,rfl,p,_,dx,_,_,rfl,hp2,T.cl_Net,T.na_Net_wants,rfl,lw,dw,tw,ds,ps,rfl,hL2,hW2,hw2,ok.nd,fO ok.ld (by decide),ok.io,λ dy H3 n3 s3 hy3=>?_⟩;have hp3:=s3 _ _ hp2;refine ⟨_,rfl,p,a.Net,dx,_,rfl,hp3,T.cl_Net,T.na_Net_ways,gy (a5 (fM 0)) (by decide),?_⟩;rw [fsN_new];refine k _ (λ b o e ne=>?_) ⟨dx,dw,dy,ae,(hw2.mono s3).ins hp3 hC.1,hy3.ins hp3 hC,n1,?_⟩
  case refine_2=>
   have nyp:dy≠p:=λ z=>by rw [z,hp2] at n3;cases n3
   have:H1 dy=none:=by rw [<- hH2,ai nyp] at n3;exact n3
   exact s1.free this
  rw [ai ne];exact s3 _ _ (k2 _ _ e ne)
theorem mkN {H:Hp} {Q:VK} {lp lw:Addr} {tp tw:List V} {ps:List (Str × Rat)} {ds:List WD} (hS:SqL K H lp tp) (hP:RowAt (PlIs a) H tp ps) (hL:SqL K H lw tw) (hW:RowAt (WayIs a) H tw ds) (ok:NetOk ps ds)
  (k:∀ p H',H p=none->Same H H'->NetAt a H' p ps ds->Q (.ref p) H') (p dx:Addr) (h1:H p=none) (h2:H dx=none) (_:dx≠p) :
  spNetI K a [.ref p,.ref lp,.ref lw] (upd (upd H dx (.own p)) p (.ins a.Net dx [])) (λ v H2=>v=.non/\Q (.ref p) H2) E0:=by
 have ss:=dN (C:=a.Net) h1 h2;exact ⟨p,dx,lp,lw,tp,tw,ps,ds,rfl,ae,ss.seq hS,hP.mono λ v x z=>z.mono ss,ss.seq hL,hW.mono λ v x z=>z.mono ss,ok,λ H' hs hn=>⟨rfl,k p H' h1 (dO h1 h2 hs) hn.at_⟩⟩
theorem WaysAt.get {H:Hp} {dy:Addr} {ds:List WD} {d:WD} (h:WaysAt a H dy ds) (nd:(ds.map (·.nm)).Nodup) (hd:d∈ds):∃ kvs v,H dy=some (.dK kvs)/\bu kvs (Sum.inr d.nm)=some v/\WayIs a H v d:=by
 obtain ⟨kvs,h1,h2,h3⟩:=h;obtain ⟨i,hi⟩:=gr.mp hd;obtain ⟨t,ht,hw⟩:=h3.get' hi;have hil:=(fL.mp hi).1;rw [fN] at ht
 cases e:kvs[i]? with
 | none=>rw [e] at ht;cases ht
 | some kv=>
  rw [e] at ht;have e2:kv.2=t:=f9 ht
  have e1:kv.1=Sum.inr d.nm:=by
   have g1:(kvs.map (·.1))[i]?=some kv.1:=by rw [fN,e];rfl
   rw [h2,fN,hi] at g1;exact (f9 g1).symm
  refine ⟨kvs,t,h1,?_,hw⟩;obtain ⟨v,hv⟩:=val_some (kvs:=kvs) (k:=(Sum.inr d.nm:Key)) (fQ.mpr ⟨kv,fK e,e1⟩);rw [hv];unfold bu at hv
  cases f:kvs.find? (λ kv=>decide (kv.1=(Sum.inr d.nm:Key))) with
  | none=>rw [f] at hv;cases hv
  | some kv'=>
   rw [f] at hv;have hp:=List.find?_some f;have m:=List.mem_of_find?_eq_some f;obtain ⟨j,hj⟩:=gr.mp m;have ej:kv'.1=Sum.inr d.nm:=ie hp
   have nd2:(kvs.map (·.1)).Nodup:=by
    rw [h2,show (λ z:WD=>(Sum.inr z.nm:Key))=(λ n=>(Sum.inr n:Key)) ∘ (λ z:WD=>z.nm) from rfl,<- gB];exact nd.map _ (λ u v h e=>h (Sum.inr.inj e))
   have g1:(kvs.map (·.1))[j]?=some (Sum.inr d.nm):=by rw [fN,hj,gJ,ej]
   have g2:(kvs.map (·.1))[i]?=some (Sum.inr d.nm):=by rw [fN,e,gJ,e1]
   have ij:=(gL (by rw [fG];exact (fL.mp hj).1) nd2).mp (g1.trans g2.symm);subst ij;rw [hj] at e
   cases e;rw [<- e2];exact hv.symm
inductive IspNetWay (a:Ad) (vs:List V) (H:Hp) (Q:VK):Prop
 | mk (p:Addr) (ps:List (Str × Rat)) (ds:List WD) (d:WD) (h1:vs=[.ref p,.str d.nm]) (h2:NetAt a H p ps ds) (h3:(ds.map (·.nm)).Nodup) (h4:d∈ds) (h5:∀ v,WayIs a H v d->Q v H):IspNetWay a vs H Q
noncomputable def eY (a:Ad):Sp:=λ vs H Q _=>IspNetWay a vs H Q
theorem eP (T:TX K mg a):MtB P w K mg base CX0 a.Net "way" 1 ["self","name"] (eY a):=by
 refine T.m_Net_way.ok sc_Net_way (λ vs H Q E h=>?_) (λ f cdv A outer s H vs Q E hr h=>?_)
 ·obtain ⟨_,_,_,_,rfl,_⟩:=h;rfl
 ·obtain ⟨p,ps,ds,d,rfl,⟨dx,dw,dy,hp,hw,hy⟩,nd,hd,k⟩:=h
  refine ⟨_,(af (aD (eM (c8 (bB hr) (pv 1) (aX (pv 0) rfl))) (ag bt) ap)
   (ag (aq (cL (bB hr) (aX (pv 0) rfl) (pv 1) (λ _ _=>rfl))))),?_⟩
  try dsimp only [aG,Cx.nox,Cx.wish]
  obtain ⟨kvs,v,h1,h2,h3⟩:=hy.get nd hd;refine ⟨_,rfl,_,rfl,p,_,dx,_,_,rfl,hp,T.cl_Net,T.na_Net_ways,fsN_y _ _,dy,_,rfl,DGet.k (k:=Sum.inr d.nm) h1,_,rfl,?_⟩;rw [h2];refine iteF ?_;refine ⟨_,rfl,p,_,dx,_,_,rfl,hp,T.cl_Net,T.na_Net_ways,fsN_y _ _,_,rfl,dy,v,rfl,?_,k v h3⟩;rw [<- h2];exact DGet.k (k:=Sum.inr d.nm) h1
theorem Sm.of_le {a:Int} {n:Nat} (h:a.natAbs<=2 ^ n) (hn:n<9000):Sm a:=gy h (Nat.pow_lt_pow_right (by decide) hn)
theorem Bd.smr {n:Nat} {x:Rat} (b:Bd n x) (hn:n<9000):SmR x:=⟨gy b.1 (Nat.pow_lt_pow_right (by decide) hn),by show Sm _;unfold Sm;rw [ip];exact gy b.2 (Nat.pow_lt_pow_right (by decide) hn)⟩
theorem tot_bd {s m:Nat} {T B o c u:Int} (hT:T.natAbs<=2 ^ s) (hB:B.natAbs<=2 ^ s) (ho:o.natAbs<=2 ^ m) (hc:c.natAbs<=2 ^ m) (hu:u.natAbs<=B.natAbs) :
  (T*o+c*u).natAbs<=2 ^ (s+(m+1))/\(B*o).natAbs<=2 ^ (s+(m+1)):=by
 have h4:2 ^ (s+(m+1))=2 ^ (s+m)*2:=by rw [<- Nat.add_assoc,Nat.pow_succ]
 constructor
 ·have h1:(T*o).natAbs<=2 ^ (s+m):=by rw [gu];exact bA hT ho
  have h2:(c*u).natAbs<=2 ^ (m+s):=by rw [gu];exact bA hc (fO hu hB)
  rw [Nat.add_comm m s] at h2;have h5:=Int.natAbs_add_le (T*o) (c*u);omega
 ·have h1:(B*o).natAbs<=2 ^ (s+m):=by rw [gu];exact bA hB ho
  omega
theorem TInv.le {x:Rat} {T B s:Int} (I:TInv x T B s):s.natAbs<=B.natAbs:=by
 obtain ⟨pB,ps,⟨r,hr,_⟩,_⟩:=I
 have:=Int.le_of_dvd pB ⟨r,hr⟩
 omega
noncomputable def FrIs (a:Ad) (H:Hp) (v:V) (x:Rat):Prop:=∃ q,v=.ref q/\FrAt a.Fraction H q x
theorem FrIs.mono {H H':Hp} {v:V} {x:Rat} (h:FrIs a H v x) (s:Same H H'):FrIs a H' v x:=by
 obtain ⟨q,e,f⟩:=h
 exact ⟨q,e,f.mono s⟩
theorem FrIs.keep {H H':Hp} {v:V} {x:Rat} (h:FrIs a H v x) (s:KeepD H H'):FrIs a H' v x:=let ⟨q,e,d,f⟩:=h;⟨q,e,d,s _ _ f (by intro _ z;cases z) (by intro _ _ z;cases z)⟩
inductive IspTotal (K:W.Frag) (a:Ad) (vs:List V) (H:Hp) (Q:VK):Prop
 | mk (l:Addr) (ts:List V) (xs:List Rat) (N:Nat) (h1:vs=[.ref l]) (h2:SqL K H l ts) (h3:RowAt (FrIs a) H ts xs) (h4:BdS xs N) (h5:N<9000) (h6:∀ (r:Addr) (H':Hp),H r=none->Same H H'->FrAt a.Fraction H' r xs.sum->Q (.ref r) H'):IspTotal K a vs H Q
noncomputable def spTotal (K:W.Frag) (a:Ad):Sp:=λ vs H Q _=>IspTotal K a vs H Q
theorem ok_total (T:TX K mg a):FnB P w K mg base CX0 "total" 5 ["some"] (spTotal K a):=by
 refine T.d_total.ok sc_total (λ vs H Q E h=>?_) (λ f cdv A outer s H vs Q E hr h=>?_)
 ·obtain ⟨_,_,_,_,rfl,_⟩:=h;rfl
 ·obtain ⟨l,ts,xs,N,rfl,hS,fs,bd,hN,k⟩:=h;obtain ⟨S,S0,S1,S2⟩:=bd.fn
  refine ⟨_,(af (al (i:=1) sc_total.nd rfl (Or.inl rfl) ac)
   (af (al (i:=2) sc_total.nd rfl (Or.inl rfl) ac)
   (af (al (i:=3) sc_total.nd rfl (Or.inl rfl) ac)
   (af (bK gA rfl (cb (pv 0)) (az (i:=4) sc_total.nd rfl (Or.inl rfl)) (af (al (i:=5) sc_total.nd rfl (Or.inl rfl) (aw (bz T) hr ak (aa (pv 2) (aa (bp T.fr (pv 4)) ad))))
   (af (al (i:=6) sc_total.nd rfl (Or.inl rfl) (aj a6 (bp T.fr (pv 4)) (pv 5)))
   (af (al (i:=1) sc_total.nd rfl (Or.inl rfl) (aj aY (aj aP (pv 1) (pv 6)) (aj aP (bF T.fr (pv 4)) (aj a6 (pv 2) (pv 5)))))
   (af (al (i:=2) sc_total.nd rfl (Or.inl rfl) (aj aP (pv 2) (pv 6)))
   (ag (al (i:=3) sc_total.nd rfl (Or.inl rfl) (aj aP (pv 3) (aj a6 (pv 5) (aw (bz T) hr ak (aa (pv 3) (aa (pv 5) ad))))))))))))
   (af (al (i:=7) sc_total.nd rfl (Or.inl rfl) (aw (bz T) hr ak (aa (pv 1) (aa (pv 3) ad))))
   (ag (aq (aw (br T) hr ak (aa (aj a6 (pv 1) (pv 7)) (aa (aj a6 (pv 2) (pv 7)) ad)))))))))),?_⟩
  try dsimp only [aG,Cx.nox,Cx.wish]
  refine ⟨_,rfl,l,rfl,⟨_,hS⟩,bT (K:=K) (a:=l) (xs:=ts) (λ i σ H2=>i<=xs.length/\∃ (t b s:Int) (z4 z5 z6 z7:Option V),σ=[some (.ref l),some (.int t),some (.int b),some (.int s),z4,z5,z6,z7]/\H2=H/\TInv (xs.take i).sum t b s/\t.natAbs<=2 ^ (S i)/\b.natAbs<=2 ^ (S i))
   ⟨fY _,0,1,1,_,_,_,_,rfl,rfl,TInv.zero,fY _,by rw [S0];decide⟩ (λ i σ H2 _ ⟨_,_,_,_,_,_,_,_,_,e,_⟩=>by rw [e];exact hS) ?_ ?_⟩
  ·rintro i u σ H2 hu ⟨_,t,b,s,z4,z5,z6,z7,rfl,rfl,I,ht,hb⟩;have hi:i<xs.length:=by rw [<- fs.1];exact (fL.mp hu).1
   have ex:xs[i]?=some xs[i]:=fF hi;obtain ⟨n,by',bs⟩:=S2 i _ ex;generalize xs[i]=y at ex by';obtain ⟨p,rfl,fp⟩:=fs.2 i u _ hu ex;have si:=S1 i (by omega);have si1:=S1 (i+1) (by omega);have hn':n<9000:=by omega
   have yd:((y.den:Int)).natAbs<=2 ^ n:=by rw [ip];exact by'.2
   have sy:Sm (y.den:Int):=Sm.of_le yd hn';have cp:=bQ b (d6 y);have cs:=Sm.gcd_r b (d6 y) sy;have st:Sm t:=Sm.of_le ht (by omega);have sb:Sm b:=Sm.of_le hb (by omega);have yp:=dr y;have lo:((y.den:Int).fdiv (gcd b y.den)).natAbs<=(y.den:Int).natAbs:=cR _ cp (by omega);have lu:(b.fdiv (gcd b y.den)).natAbs<=b.natAbs:=cR _ cp (Int.le_of_lt I.pB);have ss:Sm s:=sb.le I.le;have gp:=bQ s (b:=gcd b y.den) (by omega);have gs:=Sm.gcd_r s (b:=gcd b y.den) (by omega) cs;have lc:((gcd b y.den).fdiv (gcd s (gcd b y.den))).natAbs<=(gcd b y.den).natAbs:=cR _ gp (by omega);have tb:=tot_bd ht hb (fO lo yd) by'.1 lu;refine ⟨_,rfl,_,rfl,p,y,rfl,fp,_,_,rfl,?_⟩;refine ⟨_,rfl,p,y,rfl,fp,_,rfl,_,_,rfl,rfl,⟨by omega,cs⟩,?_⟩;refine ⟨_,rfl,_,rfl,_,_,rfl,rfl,⟨st,sy.le lo⟩,_,rfl,p,y,rfl,fp,_,rfl,_,rfl,_,_,rfl,rfl,⟨by omega,cs⟩,_,_,rfl,rfl,⟨Sm.of_le by'.1 hn',sb.le lu⟩,_,_,rfl,rfl,?_⟩;refine ⟨_,rfl,_,rfl,_,_,rfl,rfl,⟨sb,sy.le lo⟩,?_⟩;refine ⟨_,rfl,_,rfl,_,rfl,_,rfl,_,_,rfl,_,_,rfl,rfl,⟨by omega,gs⟩,_,_,rfl,rfl,⟨ss,cs.le lc⟩,?_⟩;refine ⟨hi,_,_,_,_,_,_,_,rfl,rfl,?_,fO tb.1 (bv bs),fO tb.2 (bv bs)⟩;rw [gf,ex,gv,sum_snoc];exact I.step
  ·rintro σ H2 ⟨_,t,b,s,z4,z5,z6,z7,rfl,rfl,I,ht,hb⟩;rw [fs.1] at I ht hb;rw [ge] at I;have sl:=S1 _ (fM _);have sb:Sm b:=Sm.of_le hb (by omega);have s0:s≠0:=by have:=I.ps;omega
   have gp:=bQ t s0;have gs:=Sm.gcd_r t s0 (sb.le I.le);obtain ⟨e1,e2⟩:=I.fin;refine ⟨_,rfl,_,rfl,_,_,rfl,?_⟩;refine ⟨_,rfl,_,rfl,_,_,rfl,rfl,⟨by omega,gs⟩,_,rfl,_,rfl,_,_,rfl,rfl,⟨by omega,gs⟩,_,_,rfl,λ r dx H' nr s1 h1=>k r H' nr s1 ⟨dx,?_⟩⟩;rw [h1,e1,e2]
noncomputable def NetOff (a:Ad) (H:Hp) (p d:Addr) (ps:List (Str × Rat)) (ds:List WD):Prop:=∃ H0,NetAt a H0 p ps ds/\Same H0 H/\H0 d=none
theorem NetOff.mono {H H':Hp} {p d:Addr} {ps:List (Str × Rat)} {ds:List WD} (h:NetOff a H p d ps ds) (s:Same H H'):NetOff a H' p d ps ds:=by
 obtain ⟨H0,n,s0,e⟩:=h
 exact ⟨H0,n,s0.trans s,e⟩
theorem NetOff.at_ {H:Hp} {p d:Addr} {ps:List (Str × Rat)} {ds:List WD} (h:NetOff a H p d ps ds):NetAt a H p ps ds:=by
 obtain ⟨_,n,s0,_⟩:=h
 exact n.mono s0
theorem NetOff.but {H H':Hp} {p d:Addr} {ps:List (Str × Rat)} {ds:List WD} (h:NetOff a H p d ps ds) (k:∀ b ob,H b=some ob->b≠d->H' b=some ob):NetOff a H' p d ps ds:=by
 obtain ⟨H0,n,s0,e⟩:=h
 exact ⟨H0,n,λ b ob x=>k b ob (s0 b ob x) (av x e),e⟩
inductive IspNNames (a:Ad) (vs:List V) (H:Hp) (Q:VK):Prop
 | mk (p:Addr) (ps:List (Str × Rat)) (ds:List WD) (h1:vs=[.ref p]) (h2:NetAt a H p ps ds) (h3:∀ l,H l=none->Q (.ref l) (upd H l (.lst (ps.map λ x=>V.str x.1)))):IspNNames a vs H Q
noncomputable def spNNames (a:Ad):Sp:=λ vs H Q _=>IspNNames a vs H Q
theorem ft (T:TX K mg a):MtB P w K mg base CX0 a.Net "names" 1 ["self"] (spNNames a):=by
 refine T.m_Net_names.ok sc_Net_names (λ vs H Q E h=>?_) (λ f cdv A outer s H vs Q E hr h=>?_)
 ·obtain ⟨_,_,_,rfl,_⟩:=h;rfl
 ·obtain ⟨p,ps,ds,rfl,⟨dx,dw,dy,hp,⟨kvs,h1,h2,h3⟩,hy⟩,k⟩:=h;refine ⟨_,(ag (aq (pe_callTy (call_list_dict hr.hd) (by rfl) T.z_list PyProof.Rows.boot_list (aa (aX (pv 0) rfl) ad)))),?_⟩;try dsimp only [aG,Cx.nox,Cx.wish]
  refine ⟨_,rfl,p,_,dx,_,_,rfl,hp,T.cl_Net,T.na_Net_wants,fsN_w _ _,dw,kvs,rfl,.inl h1,λ l nl=>?_⟩
  have e:(kvs.map λ kv=>kV kv.1)=ps.map λ x=>V.str x.1:=by
   have:=gK (List.map kV) h2
   rw [gB,gB] at this;exact this
  rw [e];exact k l nl
inductive IspNAll (a:Ad) (vs:List V) (H:Hp) (Q:VK):Prop
 | mk (p:Addr) (ps:List (Str × Rat)) (ds:List WD) (h1:vs=[.ref p]) (h2:NetAt a H p ps ds) (h3:∀ l H' ts,H l=none->Same H H'->H' l=some (.lst ts)->RowAt (WayIs a) H' ts ds->Q (.ref l) H'):IspNAll a vs H Q
noncomputable def spNAll (a:Ad):Sp:=λ vs H Q _=>IspNAll a vs H Q
theorem bJ (T:TX K mg a):MtB P w K mg base CX0 a.Net "all_ways" 1 ["self"] (spNAll a):=by
 refine T.m_Net_all_ways.ok sc_Net_all_ways (λ vs H Q E h=>?_) (λ f cdv A outer s H vs Q E hr h=>?_)
 ·obtain ⟨_,_,_,rfl,_⟩:=h;rfl
 ·obtain ⟨p,ps,ds,rfl,⟨dx,dw,dy,hp,hw,⟨kvs,h1,h2,h3⟩⟩,k⟩:=h;refine ⟨_,(ag (aq (pe_callTy (call_list_vals hr.hd) (by rfl) T.z_list PyProof.Rows.boot_list (aa (pe_bm0 PySem.F.plainAttrs_dict PySem.F.slot_dict_values PySem.F.type_dict_values mt_values (aX (pv 0) rfl)) ad)))),?_⟩;try dsimp only [aG,Cx.nox,Cx.wish]
  refine ⟨_,rfl,p,_,dx,_,_,rfl,hp,T.cl_Net,T.na_Net_ways,fsN_y _ _,(.inr (.inr (.inl ⟨rfl,.inl ⟨kvs,h1⟩⟩))),dy,kvs,rfl,rfl,.inl h1,λ v nv=>?_⟩;have s1:=ay (o:=ViewO v dy) nv;refine ⟨v,dy,kvs,rfl,ae,.inl (s1 _ _ h1),λ l nl=>?_⟩;have s2:=s1.trans (ay (o:=.lst (kvs.map (·.2))) nl);exact k l _ _ (s1.free nl) s2 ae (h3.mono λ v x z=>z.mono s2)
noncomputable def bn (ks:List Str) (f:Str->Rat) (n:Str):Rat:=if n∈ks then f n else 0
inductive IspAmount (a:Ad) (vs:List V) (H:Hp) (Q:VK):Prop
 | mk (d:Addr) (kvs:List (Key × V)) (ks:List Str) (f:Str->Rat) (n:Str) (h1:vs=[.ref d,.str n]) (h2:Rd H d (.dK kvs)) (h3:Tab (FrIs a) H kvs ks f) (h4:∀ q H',Same H H'->FrAt a.Fraction H' q (bn ks f n)->Q (.ref q) H'):IspAmount a vs H Q
noncomputable def spAmount (a:Ad):Sp:=λ vs H Q _=>IspAmount a vs H Q
theorem ok_amount (T:TX K mg a):FnB P w K mg base CX0 "amount" 5 ["plan","name"] (spAmount a):=by
 refine T.d_amount.ok sc_amount (λ vs H Q E h=>?_) (λ f cdv A outer s H vs Q E hr h=>?_)
 ·obtain ⟨_,_,_,_,_,rfl,_⟩:=h;rfl
 ·obtain ⟨d,kvs,ks,f,n,rfl,hd,tb,k⟩:=h;refine ⟨_,(ag (aq (pe_dget2 (bB hr) (pv 0) (pv 1) (bo (mk1 T) hr T.mg_Fraction ak (aa ac ad)) ⟨rfl,rfl,rfl,rfl⟩))),?_⟩;try dsimp only [aG,Cx.nox,Cx.wish]
  refine ⟨_,rfl,d,rfl,.inl ⟨kvs,hd⟩,_,rfl,0,1,rfl,by decide,sm1,λ z H1 nz s1 f1=>?_⟩;have hd1:Rd H1 d (.dK kvs):=hd.imp (λ h=>s1 _ _ h) λ⟨o,h⟩=>⟨o,s1 _ _ h⟩;refine ⟨bu kvs (Sum.inr n),.inl ⟨kvs,Sum.inr n,hd1,rfl,rfl⟩,?_⟩;unfold bn at k;by_cases hn:n∈ks
  ·obtain ⟨v,ev,q,rfl,fq⟩:=tb.vals n hn;rw [ev];rw [if_pos hn] at k;exact k q H1 s1 (fq.mono s1)
  ·rw [tb.none hn];rw [if_neg hn] at k;rw [Rat.zero_divInt] at f1;exact k z H1 s1 f1
noncomputable def sumStep (A:Str->Rat) (F:Str->Rat) (d:WD):Str->Rat:=upf (upf F d.st (F d.st-A d.nm)) d.go (F d.go+A d.nm*cW d.kd d.x)
noncomputable def bC (A:Str->Rat) (ds:List WD):Str->Rat:=ds.foldl (sumStep A) (λ _=>0)
theorem sumF_snoc (A:Str->Rat) (ds:List WD) (d:WD):bC A (ds++[d])=sumStep A (bC A ds) d:=by unfold bC;rw [List.foldl_append];rfl
structure SumOk (A:Str->Rat) (ps:List (Str × Rat)) (ds:List WD):Prop where
 np:(ps.map (·.1)).Nodup
 lp:ps.length<=900
 io:∀ d∈ds,d.st∈ps.map (·.1)/\d.go∈ps.map (·.1)
 ne:∀ d∈ds,d.st≠d.go
 sx:∀ d∈ds,SmR d.x/\SmR (cW d.kd d.x)
 sa:∀ d∈ds,SmR (A d.nm)/\SmR (A d.nm*cW d.kd d.x)
 sf:∀ i s,SmR (bC A (ds.take i) s)
inductive IspSumsOwn (a:Ad) (vs:List V) (H:Hp) (Q:VK):Prop
 | mk (p d:Addr) (ps:List (Str × Rat)) (ds:List WD) (kvs:List (Key × V)) (ks:List Str) (f:Str->Rat) (h1:vs=[.ref p,.ref d]) (h2:NetAt a H p ps ds) (h3:H d=some (.dK kvs)) (h4:Tab (FrIs a) H kvs ks f) (h5:SumOk (bn ks f) ps ds) (h6:∀ r H' kvr,H r=none->Same H H'->H' r=some (.dK kvr)->Tab (FrIs a) H' kvr (ps.map (·.1)) (bC (bn ks f) ds)->Q (.ref r) H'):IspSumsOwn a vs H Q
noncomputable def spSumsOwn (a:Ad):Sp:=λ vs H Q _=>IspSumsOwn a vs H Q
theorem ci (T:TX K mg a):FnB P w K mg base CX0 "sums_of_own_ways" 9 ["net","plan"] (spSumsOwn a):=by
 refine T.d_sums_of_own_ways.ok sc_sums_of_own_ways (λ vs H Q E h=>?_) (λ f cdv A outer s H vs Q E hr h=>?_)
 ·obtain ⟨_,_,_,_,_,_,_,rfl,_⟩:=h;rfl
 ·obtain ⟨p,d,ps,ds,kvs,ks,f,rfl,hn,hd,tb,ok,k⟩:=h
  refine ⟨_,(af (al (i:=2) sc_sums_of_own_ways.nd rfl (Or.inl rfl) dW)
   (ax (bK gA rfl (cb (cK (CX:=CX0) (pv 0) hr ak)) (az (i:=3) sc_sums_of_own_ways.nd rfl (Or.inl rfl)) (ag (dl (bB hr) (pv 2) (pv 3) (bo (mk1 T) hr T.mg_Fraction ak (aa ac ad)) rfl)))
   (af (bK gA rfl (cb (cK (CX:=CX0) (pv 0) hr ak)) (az (i:=4) sc_sums_of_own_ways.nd rfl (Or.inl rfl)) (af (al (i:=5) sc_sums_of_own_ways.nd rfl (Or.inl rfl) (aw (ok_amount T) hr ak (aa (pv 1) (aa (aX (pv 4) rfl) ad))))
   (af (dl (bB hr) (pv 2) (aX (pv 4) rfl) (cU T.fr (cL (bB hr) (pv 2) (aX (pv 4) rfl) (λ _ _=>rfl)) (ok_minus T) hr ak (aa (pv 5) ad)) rfl)
   (ag (dl (bB hr) (pv 2) (aX (pv 4) rfl) (cU T.fr (cL (bB hr) (pv 2) (aX (pv 4) rfl) (λ _ _=>rfl)) (ok_plus T) hr ak (aa (pe_mtD (CX:=CX0) (pv 4) hr ak (aa (pv 5) ad)) ad)) rfl)))))
   (ag (aq (pv 2)))))),?_⟩
  try dsimp only [aG,Cx.nox,Cx.wish]
  intro r nr;have s0:Same H (upd H r (.dK [])):=ay nr;have hr0:upd H r (.dK []) r=some (.dK []):=ae;generalize upd H r (.dK [])=H0 at s0 hr0 ⊢;refine ⟨λ σ' H'=>∃ z3 z4 z5 kvr,σ'=[some (.ref p),some (.ref d),some (.ref r),z3,z4,z5]/\Same H H'/\H' r=some (.dK kvr)/\Tab (FrIs a) H' kvr (ps.map (·.1)) (λ _=>0),?_,?_⟩
  ·obtain ⟨dx,dw,dy,hp,hw,hy⟩:=hn.mono s0;refine ⟨_,rfl,p,a.Net,dx,_,1,["self"],spNNames a,rfl,hp,cG _ _ (by decide +kernel) (by decide +kernel),T.cl_Net,by decide,ft T,p,ps,ds,rfl,⟨dx,dw,dy,hp,hw,hy⟩,λ l nl=>?_⟩;obtain ⟨H1,zq,s1,hl⟩:=uG (o:=.lst (ps.map λ x=>V.str x.1)) nl;rw [zq];have lr:l≠r:=λ z=>by rw [z,hr0] at nl;cases nl
   refine ⟨l,rfl,⟨_,SqL.of hl⟩,bT (K:=K) (a:=l) (xs:=ps.map λ x=>V.str x.1) (λ i σ H2=>i<=ps.length/\∃ z3 z4 z5 kvr,σ=[some (.ref p),some (.ref d),some (.ref r),z3,z4,z5]/\Same H H2/\H2 l=some (.lst (ps.map λ x=>V.str x.1))/\H2 r=some (.dK kvr)/\Tab (FrIs a) H2 kvr ((ps.map (·.1)).take i) (λ _=>0))
    ⟨fY _,_,_,_,[],rfl,s0.trans s1,hl,s1 _ _ hr0,Tab.nil⟩ (λ i σ H2 _ ⟨_,_,_,_,_,_,_,h,_⟩=>SqL.of h) ?_ ?_⟩
   ·rintro i t σ H2 ht ⟨hi,z3,z4,z5,kvr,rfl,s2,hl2,hr2,tr⟩;rw [fN] at ht
    cases ex:ps[i]? with
    | none=>rw [ex] at ht;cases ht
    | some x=>
     rw [ex] at ht
     cases ht;have hi':=(fL.mp ex).1;have en:(ps.map (·.1))[i]?=some x.1:=by rw [fN,ex];rfl
     obtain ⟨tk,nk⟩:=take_next ok.np en;refine ⟨0,1,rfl,by decide,sm1,λ z H3 nz s3 f3=>?_⟩;rw [Rat.zero_divInt] at f3
     have lk:kvr.length<=900:=by
      rw [tr.len,fZ,fG]
      have:=ok.lp
      omega
     refine ⟨_,rfl,_,rfl,r,_,rfl,DPut.k (k:=Sum.inr x.1) (s3 _ _ hr2) (aE (by omega)),?_⟩;have kp:KeepD H3 (upd H3 r (.dK (bW kvr (Sum.inr x.1) (.ref z)))):=KeepD.put (s3 _ _ hr2);refine ⟨hi',_,_,_,_,rfl,aH nr (s2.trans s3),by rw [ai lr];exact s3 _ _ hl2,ae,?_⟩;rw [tk,<- addK_new nk];refine (Tab.put (n:=x.1) (tr.mono λ v x z=>(z.mono s3).keep kp) (y:=0) (FrIs.keep ⟨z,rfl,f3⟩ kp)).congr λ m _=>?_;unfold upf
     split <;> rfl
   ·rintro σ H2 ⟨_,z3,z4,z5,kvr,rfl,s2,hl2,hr2,tr⟩;rw [fG] at tr;rw [show ps.length=(ps.map (·.1)).length by rw [fG],ge] at tr;exact ⟨_,_,_,kvr,rfl,s2,hr2,tr⟩
  rintro σ' H1 ⟨z3,z4,z5,kvr,rfl,s1,hr1,tr⟩;obtain ⟨dx,dw,dy,hp,hw,hy⟩:=hn.mono s1;refine ⟨_,rfl,p,a.Net,dx,_,1,["self"],spNAll a,rfl,hp,cG _ _ (by decide +kernel) (by decide +kernel),T.cl_Net,by decide,bJ T,p,ps,ds,rfl,⟨dx,dw,dy,hp,hw,hy⟩,λ l H2 ts nl s2 hl2 hv=>?_⟩
  refine ⟨l,rfl,⟨_,SqL.of hl2⟩,bT (K:=K) (a:=l) (xs:=ts) (λ i σ H3=>i<=ds.length/\∃ z3 z4 z5 kvr,σ=[some (.ref p),some (.ref d),some (.ref r),z3,z4,z5]/\Same H H3/\KeepD H2 H3/\H3 r=some (.dK kvr)/\Tab (FrIs a) H3 kvr (ps.map (·.1)) (bC (bn ks f) (ds.take i)))
   ⟨fY _,_,_,_,kvr,rfl,s1.trans s2,.of (Same.refl _),s2 _ _ hr1,tr.mono λ v x z=>z.mono s2⟩ (λ i σ H3 _ ⟨_,_,_,_,_,_,_,kp,_⟩=>SqL.of (kp _ _ hl2 (by intro _ z;cases z) (by intro _ _ z;cases z))) ?_ ?_⟩
  ·rintro i t σ H3 ht ⟨hi,z3,z4,z5,kvr,rfl,s3,kp,hr3,tr3⟩;obtain ⟨y,ey,wy⟩:=hv.get ht;have hi':=(fL.mp ey).1;have my:=fK ey;have wy3:WayIs a H3 t y:=wy.keep λ b C dx fs _ e=>kp _ _ e (by intro _ z;cases z) (by intro _ _ z;cases z);obtain ⟨p1,vh,vc,q1,rfl,W,hk⟩:=wy3;obtain ⟨dx1,fs1,ho,h5,_⟩:=id W.ob;have c:=cv T y.kd;obtain ⟨i1,i2⟩:=ok.io y my;obtain ⟨a1,a2⟩:=ok.sa y my;obtain ⟨x1,x2⟩:=ok.sx y my;have hne:=ok.ne y my
   have lk:kvr.length<=900:=by
    rw [tr3.len,fG];exact ok.lp
   refine ⟨_,rfl,_,rfl,p1,_,dx1,fs1,_,rfl,ho,c.cl,c.n1,h5.nm,d,kvs,ks,f,y.nm,rfl,.inl (s3 _ _ hd),tb.mono (λ v x z=>z.mono s3),λ q H4 s4 f4=>?_⟩;have ho4:=s4 _ _ ho;obtain ⟨v1,ev1,r1,rfl,fr1⟩:=(tr3.mono λ v x z=>z.mono s4).vals _ i1;refine ⟨_,rfl,_,rfl,p1,_,dx1,fs1,_,rfl,ho4,c.cl,c.n2,h5.st,r,_,rfl,.inl ⟨kvr,Sum.inr y.st,.inl (s4 _ _ hr3),rfl,ev1.symm⟩,r1,_,rfl,fr1,_,rfl,r1,q,_,_,rfl,fr1,f4,ok.sf i _,a1,True.intro,λ r2 H5 nr2 s5 f5=>?_⟩;have s45:=s4.trans s5;refine ⟨_,rfl,_,rfl,p1,_,dx1,fs1,_,rfl,s45 _ _ ho,c.cl,c.n2,h5.st,r,_,rfl,DPut.k (k:=Sum.inr y.st) (s45 _ _ hr3) (aE (by omega)),?_⟩;have kp5:KeepD H5 (upd H5 r (.dK (bW kvr (Sum.inr y.st) (.ref r2)))):=KeepD.put (s45 _ _ hr3);have tr6:=Tab.put (n:=y.st) (tr3.mono λ v x z=>(z.mono s45).keep kp5) (FrIs.keep ⟨r2,rfl,f5⟩ kp5);have s6:=aH (o:=.dK (bW kvr (Sum.inr y.st) (.ref r2))) nr (s3.trans s45);have hr6:upd H5 r (.dK (bW kvr (Sum.inr y.st) (.ref r2))) r=some (.dK (bW kvr (Sum.inr y.st) (.ref r2))):=ae;have lk6:(bW kvr (Sum.inr y.st:Key) (.ref r2)).length<=901:=fO (dZ _ _ _) (by omega);generalize bW kvr (Sum.inr y.st) (.ref r2)=kv6 at kp5 tr6 s6 hr6 lk6 ⊢;generalize upd H5 r (.dK kv6)=H6 at kp5 tr6 s6 hr6 ⊢;rw [show addK (ps.map (·.1)) y.st=ps.map (·.1) from if_pos i1] at tr6;have kp36:KeepD H3 H6:=(KeepD.of s45).trans kp5;have W6:=W.keep λ b C dx fs _ e=>kp36 _ _ e (by intro _ z;cases z) (by intro _ _ z;cases z);obtain ⟨dx6,fs6,ho6,h56,_⟩:=id W6.ob;obtain ⟨q6,e6,f6⟩:=FrIs.keep ⟨q,rfl,f4⟩ ((KeepD.of s5).trans kp5)
   cases e6;obtain ⟨v7,ev7,r7,rfl,fr7⟩:=tr6.vals _ i2;rw [upf_ne (ib hne)] at fr7;refine ⟨_,rfl,_,rfl,p1,_,dx6,fs6,_,rfl,ho6,c.cl,c.n3,h56.go,r,_,rfl,.inl ⟨_,Sum.inr y.go,.inl hr6,rfl,ev7.symm⟩,r7,_,rfl,fr7,_,rfl,p1,_,dx6,fs6,8,["self","amount"],spOut a y.kd,rfl,ho6,h56.ou,c.cl,by decide,out_any T y.kd,_,rfl,p1,q,y.nm,y.st,y.go,vh,vc,q1,y.x,_,rfl,W6,f6,x1,a1,x2,λ r8 H7 s7 f7=>?_⟩;refine ⟨r7,r8,_,_,rfl,fr7.mono s7,f7,ok.sf i _,a2,True.intro,λ r9 H8 nr9 s8 f8=>?_⟩;have s78:=s7.trans s8;refine ⟨_,rfl,_,rfl,p1,_,dx6,fs6,_,rfl,s78 _ _ ho6,c.cl,c.n3,h56.go,r,_,rfl,DPut.k (k:=Sum.inr y.go) (s78 _ _ hr6) (aE (by omega)),?_⟩;have kp8:KeepD H8 (upd H8 r (.dK (bW kv6 (Sum.inr y.go) (.ref r9)))):=KeepD.put (s78 _ _ hr6);have tr9:=Tab.put (n:=y.go) (tr6.mono λ v x z=>(z.mono s78).keep kp8) (FrIs.keep ⟨r9,rfl,f8⟩ kp8);rw [show addK (ps.map (·.1)) y.go=ps.map (·.1) from if_pos i2] at tr9;refine ⟨hi',_,_,_,_,rfl,aH nr (s6.trans s78),((kp.trans kp36).trans (.of s78)).trans kp8,ae,?_⟩;rw [gf,ey,gv,sumF_snoc];exact tr9
  ·rintro σ H3 ⟨_,z3,z4,z5,kvr,rfl,s3,kp,hr3,tr3⟩;rw [hv.1,ge] at tr3;exact ⟨_,rfl,k r H3 kvr nr s3 hr3 tr3⟩
inductive IspRefO (a:Ad) (vs:List V) (H:Hp) (Q:VK):Prop
 | mk (p d:Addr) (ps:List (Str × Rat)) (ds:List WD) (kvs:List (Key × V)) (ks:List Str) (f:Str->Rat) (h1:vs=[.ref p,.ref d]) (h2:NetOff a H p d ps ds) (h3:(ds.map (·.nm)).Nodup) (h4:H d=some (.dK kvs)) (h5:Tab (FrIs a) H kvs ks f) (h6:ks.Nodup) (h7:(∀ n∈ks,n∈ds.map (·.nm))) (h8:∀ H',Same H H'->Q .non H'):IspRefO a vs H Q
noncomputable def spRefO (a:Ad):Sp:=λ vs H Q _=>IspRefO a vs H Q
theorem dI (T:TX K mg a):FnB P w K mg base CX0 "refuse_other_names" 2 ["net","plan"] (spRefO a):=by
 refine T.d_refuse_other_names.ok sc_refuse_other_names (λ vs H Q E h=>?_) (λ f cdv A outer s H vs Q E hr h=>?_)
 ·obtain ⟨_,_,_,_,_,_,_,rfl,_⟩:=h;rfl
 ·obtain ⟨p,d,ps,ds,kvs,ks,f,rfl,hn,nd,hd,tb,ndk,sub,k⟩:=h;refine ⟨_,(ag (ps_thaw (bK gA rfl (pi_dict (pv 1)) (az (i:=2) sc_refuse_other_names.nd rfl (Or.inl rfl)) (ag (bD (pe_mtD (CX:=CX0) (pv 0) hr ak (aa (pv 2) ad))))))),?_⟩;try dsimp only [aG,Cx.nox,Cx.wish]
  refine ⟨d,.dK kvs,hd,(by intro o z e;cases e),_,rfl,d,kvs,rfl,hd,λ o=>?_⟩
  refine for_dict (a:=d) (o:=o) (kvs:=kvs) (λ i σ H2=>∃ z,σ=[some (.ref p),some (.ref d),z]/\H2 d=some (.frz o (.dK kvs))/\∀ b ob,H b=some ob->b≠d->H2 b=some ob)
   ⟨_,rfl,ae,λ b ob e ne=>by rw [ai ne];exact e⟩ (λ i σ H2 _ ⟨_,_,h,_⟩=>h) ?_ ?_
  ·rintro i kv σ H2 hkv ⟨z,rfl,hf,k2⟩;obtain ⟨n,en,e1,ev,_⟩:=tb.at_ ndk hkv;have ekv:kV kv.1=.str n:=by rw [e1];rfl
   rw [ekv];obtain ⟨y,my,rfl⟩:=fQ.mp (sub n (fK en));obtain ⟨dx,dw,dy,hp,hw,hy⟩:=(hn.but k2).at_;refine ⟨_,rfl,p,a.Net,dx,_,1,["self","name"],eY a,rfl,hp,cG _ _ (by decide +kernel) (by decide +kernel),T.cl_Net,by decide,eP T,_,rfl,p,ps,ds,y,rfl,⟨dx,dw,dy,hp,hw,hy⟩,nd,my,λ v _=>?_⟩;exact ⟨_,rfl,hf,k2⟩
  ·rintro σ H2 ⟨z,rfl,hf,k2⟩;refine ⟨o,hf,k _ λ b ob e=>?_⟩;by_cases hb:b=d
   ·subst hb;rw [ae,<- hd,e]
   ·rw [ai hb];exact k2 _ _ e hb
inductive IspSums (a:Ad) (vs:List V) (H:Hp) (Q:VK):Prop
 | mk (p d:Addr) (ps:List (Str × Rat)) (ds:List WD) (kvs:List (Key × V)) (ks:List Str) (f:Str->Rat) (h1:vs=[.ref p,.ref d]) (h2:NetOff a H p d ps ds) (h3:(ds.map (·.nm)).Nodup) (h4:H d=some (.dK kvs)) (h5:Tab (FrIs a) H kvs ks f) (h6:ks.Nodup) (h7:(∀ n∈ks,n∈ds.map (·.nm))) (h8:SumOk (bn ks f) ps ds) (h9:∀ r H' kvr,H r=none->Same H H'->H' r=some (.dK kvr)->Tab (FrIs a) H' kvr (ps.map (·.1)) (bC (bn ks f) ds)->Q (.ref r) H'):IspSums a vs H Q
noncomputable def spSums (a:Ad):Sp:=λ vs H Q _=>IspSums a vs H Q
theorem ok_sums (T:TX K mg a):FnB P w K mg base CX0 "sums" 10 ["net","plan"] (spSums a):=by
 refine T.d_sums.ok sc_sums (λ vs H Q E h=>?_) (λ f cdv A outer s H vs Q E hr h=>?_)
 ·obtain ⟨_,_,_,_,_,_,_,rfl,_⟩:=h;rfl
 ·obtain ⟨p,d,ps,ds,kvs,ks,f,rfl,hn,nd,hd,tb,ndk,sub,ok,k⟩:=h
  refine ⟨_,(af (bD (aw (dI T) hr ak (aa (pv 0) (aa (pv 1) ad))))
   (ag (aq (aw (ci T) hr ak (aa (pv 0) (aa (pv 1) ad)))))),?_⟩
  try dsimp only [aG,Cx.nox,Cx.wish]
  refine ⟨_,rfl,_,rfl,p,d,ps,ds,kvs,ks,f,rfl,hn,nd,hd,tb,ndk,sub,λ H1 s1=>?_⟩;exact ⟨_,rfl,_,rfl,p,d,ps,ds,kvs,ks,f,rfl,(hn.mono s1).at_,s1 _ _ hd,tb.mono (λ v x z=>z.mono s1),ok,λ r H2 kvr nr s2 hr2 tr=>k r H2 kvr (s1.free nr) (s1.trans s2) hr2 tr⟩
inductive IspWorth (a:Ad) (vs:List V) (H:Hp) (Q:VK):Prop
 | mk (p d:Addr) (ps:List (Str × Rat)) (ds:List WD) (kvs:List (Key × V)) (ks:List Str) (f co:Str->Rat) (N:Nat) (h1:vs=[.ref p,.ref d]) (h2:NetOff a H p d ps ds) (h3:(ds.map (·.nm)).Nodup) (h4:H d=some (.dK kvs)) (h5:Tab (FrIs a) H kvs ks f) (h6:ks.Nodup) (h7:ks.length<=900) (h8:(∀ n∈ks,n∈ds.map (·.nm))) (h9:(∀ x∈ds,x.co=co x.nm)) (h10:(∀ n∈ks,SmR (f n)/\SmR (co n))) (h11:BdS (ks.map λ n=>co n*f n) N) (h12:N<9000) (h13:∀ r H',H r=none->Same H H'->FrAt a.Fraction H' r (ks.map λ n=>co n*f n).sum->Q (.ref r) H'):IspWorth a vs H Q
noncomputable def spWorth (a:Ad):Sp:=λ vs H Q _=>IspWorth a vs H Q
theorem c9 (T:TX K mg a):FnB P w K mg base CX0 "worth" 6 ["net","plan"] (spWorth a):=by
 refine T.d_worth.ok sc_worth (λ vs H Q E h=>?_) (λ f cdv A outer s H vs Q E hr h=>?_)
 ·obtain ⟨_,_,_,_,_,_,_,_,_,rfl,_⟩:=h;rfl
 ·obtain ⟨p,d,ps,ds,kvs,ks,f,co,N,rfl,hn,nd,hd,tb,ndk,hl,sub,hco,sm,bN,hN,k⟩:=h
  refine ⟨_,(ag (aq (aw (ok_total T) hr ak (aa (pe_thaw (c7 (xs:=["name","part"]) (rest:=["net"]) rfl (pi_items (pv 1))
   (λ pins fp C' s' H'=>by exact (pg_tupK (K:=K) (n:=2) rfl rfl (aI (az (i:=0) (show (["name","part","net"]:List Str).Nodup by decide +kernel) rfl (Or.inl rfl)) (aI (az (i:=1) (show (["name","part","net"]:List Str).Nodup by decide +kernel) rfl (Or.inl rfl)) fg)))) (λ pins fp C' s' H'=>by exact bH)
   (λ pins fp C' s' H'=>by exact (cU T.fr (pe_fldK (K:=K) rfl (pe_mtDK (CX:=CX0) (P:=P) (w:=w) (K:=K) (mg:=mg) (base:=base) rfl rfl rfl rfl rfl (pv 2) hr ak (aa (pv 0) ad)) rfl) (ok_times T) hr ak (aa (pv 1) ad)))
   (Clos.many (ys:=["net"]) rfl ⟨rfl,True.intro⟩ rfl (by decide +kernel)) (Reads.many (ys:=["net"]) (js:=[0]) ⟨⟨rfl,rfl,rfl⟩,True.intro⟩))) ad)))),?_⟩
  try dsimp only [aG,Cx.nox,Cx.wish]
  refine ⟨d,.dK kvs,hd,(by intro o z e;cases e),_,rfl,d,kvs,rfl,hd,λ o l nl=>?_⟩;have ndl:d≠l:=λ z=>by rw [z,ae] at nl;cases nl
  have nl':H l=none:=by rw [ai ndl.symm] at nl;exact nl
  refine compG_items (a:=d) (o:=o) (kvs:=kvs) (λ i H2=>i<=ks.length/\H2 d=some (.frz o (.dK kvs))/\(∀ b ob,H b=some ob->b≠d->H2 b=some ob)/\∃ ts,H2 l=some (.lst ts)/\RowAt (FrIs a) H2 ts ((ks.take i).map λ n=>co n*f n))
   ⟨fY _,by rw [ai ndl,ae],(λ b ob e ne=>by rw [ai (av e nl'),ai ne];exact e),[],ae,RowAt.nil⟩ (λ i H2 ⟨_,h,_⟩=>h) ?_ ?_
  ·rintro i kv t H2 hkv nt ⟨_,hf,k2,ts,hl2,hv⟩ zs hz;obtain ⟨n,en,e1,ev,q,eq,fq⟩:=tb.at_ ndk hkv;have hi:i<ks.length:=(fL.mp en).1;have ekv:kV kv.1=.str n:=by rw [e1];rfl
   rw [ekv,eq];obtain ⟨H3,zq,s3,ht⟩:=uG (o:=.tup [.str n,.ref q]) nt;rw [zq]
   match zs,hz with
   | [z1,z2],_=>
    have hn3:=(hn.but k2).mono s3;obtain ⟨y,my,ey⟩:=fQ.mp (sub n (fK en));obtain ⟨dx,dw,dy,hp,hw,hy⟩:=hn3.at_;obtain ⟨sm1,sm2⟩:=sm n (fK en)
    have fq3:FrAt a.Fraction H3 q (f n):=by
     obtain ⟨dq,g⟩:=fq;exact ⟨dq,s3 _ _ (k2 _ _ g (bS g hd (by intro z;cases z)))⟩
    refine ⟨t,[.str n,.ref q],rfl,SqT.of ht,rfl,.str n,[.ref q],rfl,⟨.ref q,[],rfl,⟨rfl,⟨[_,_],rfl,rfl⟩,yes ?_⟩⟩⟩;refine ⟨_,rfl,p,a.Net,dx,_,1,["self","name"],eY a,rfl,hp,cG _ _ (by decide +kernel) (by decide +kernel),T.cl_Net,by decide,eP T,_,rfl,p,ps,ds,y,by rw [ey];rfl,⟨dx,dw,dy,hp,hw,hy⟩,nd,my,λ v hx=>?_⟩;obtain ⟨p',vh,vc,q',rfl,W,hk,⟨qc,rfl,fc⟩,_⟩:=hx;obtain ⟨dx',fs',ho',h5',_⟩:=W.ob;have c':=cv T y.kd;rw [hco y my,ey] at fc;refine ⟨p',_,dx',fs',_,rfl,ho',c'.cl,c'.n5,h5'.co,qc,_,rfl,fc,_,rfl,qc,q,_,_,rfl,fc,fq3,sm2,sm1,True.intro,λ r H4 nr s4 f4=>?_⟩;have s34:=s3.trans s4;have hl4:=s34 _ _ hl2;have lts:ts.length=i:=by rw [hv.1,fG,fZ];omega
    refine ⟨_,hl4,aE (by omega),cP (by rw [tb.len];exact hi) ⟨hi,by rw [ai ndl];exact s34 _ _ hf,(λ b ob e ne=>by rw [ai (av e nl')];exact s34 _ _ (k2 _ _ e ne)),_,ae,?_⟩⟩;rw [gf,en,gv,gj];have ko:∀ v x,FrIs a H4 v x->FrIs a (upd H4 l (.lst (ts++[.ref r]))) v x:=λ v x ⟨q,e,dq,g⟩=>⟨q,e,dq,by rw [ai (bS g hl4 (by intro z;cases z))];exact g⟩;exact RowAt.snoc (hv.mono λ v x z=>ko v x (z.mono s34)) (ko _ _ ⟨r,rfl,f4⟩)
  ·rintro H2 ⟨_,hf,k2,ts,hl2,hv⟩;rw [tb.len,ge] at hv
   have s2:Same H (upd H2 d (.dK kvs)):=λ b ob e=>by
    by_cases hb:b=d
    ·subst hb;rw [ae,<- hd,e]
    ·rw [ai hb];exact k2 _ _ e hb
   refine ⟨o,hf,l,ts,_,N,rfl,SqL.of (show upd H2 d (.dK kvs) l=some (.lst ts) by rw [ai ndl.symm];exact hl2),hv.mono λ v x z=>z.keep (.frz hf),bN,hN,λ r H3 nr s3 f3=>k r H3 (s2.free nr) (s2.trans s3) f3⟩
theorem kv_at {κ:Type} [DecidableEq κ]:∀ {kvs:List (κ × V)} {i:Nat} {kv:κ × V},(kvs.map (·.1)).Nodup->kvs[i]?=some kv->bu kvs kv.1=some kv.2
 | [],_,_,_,e=>by simp at e
 | p::r,0,kv,_,e=>by
  simp at e;subst e;exact bf rfl
 | p::r,i+1,kv,nd,e=>by
  have e:r[i]?=some kv:=by simpa using e
  obtain ⟨h1,h2⟩:=List.nodup_cons.mp (show (p.1::r.map (·.1)).Nodup from nd);rw [bg λ z=>h1 (by rw [z];exact fQ.mpr ⟨kv,fK e,rfl⟩)];exact kv_at h2 e
theorem WantsAt.at_ {H:Hp} {dw:Addr} {ps:List (Str × Rat)} {i:Nat} {p:Str × Rat} (h:WantsAt a H dw ps) (nd:(ps.map (·.1)).Nodup) (hi:ps[i]?=some p):∃ kvs q,H dw=some (.dK kvs)/\bu kvs (Sum.inr p.1)=some (.ref q)/\FrAt a.Fraction H q p.2:=by
 obtain ⟨kvs,h1,h2,h3⟩:=h;obtain ⟨t,ht,q,rfl,fq⟩:=h3.get' (i:=i) (x:=p.2) (by rw [fN,hi];rfl);rw [fN] at ht
 cases e:kvs[i]? with
 | none=>rw [e] at ht;cases ht
 | some kv=>
  rw [e] at ht;have e2:kv.2=.ref q:=f9 ht
  have e1:kv.1=Sum.inr p.1:=by
   have g1:(kvs.map (·.1))[i]?=some kv.1:=by rw [fN,e];rfl
   rw [h2,fN,hi] at g1;exact (f9 g1).symm
  have nd2:(kvs.map (·.1)).Nodup:=by
   rw [h2,show (λ z:Str × Rat=>(Sum.inr z.1:Key))=(λ n=>(Sum.inr n:Key)) ∘ (λ z:Str × Rat=>z.1) from rfl,<- gB];exact nd.map _ (λ u v h e=>h (Sum.inr.inj e))
  refine ⟨kvs,q,h1,?_,fq⟩;rw [<- e1,<- e2];exact kv_at nd2 e
inductive IspNWant (a:Ad) (vs:List V) (H:Hp) (Q:VK):Prop
 | mk (p:Addr) (ps:List (Str × Rat)) (ds:List WD) (i:Nat) (n:Str) (x:Rat) (h1:vs=[.ref p,.str n]) (h2:NetAt a H p ps ds) (h3:(ps.map (·.1)).Nodup) (h4:ps[i]?=some (n,x)) (h5:∀ q,FrAt a.Fraction H q x->Q (.ref q) H):IspNWant a vs H Q
noncomputable def spNWant (a:Ad):Sp:=λ vs H Q _=>IspNWant a vs H Q
theorem ok_Net_want (T:TX K mg a):MtB P w K mg base CX0 a.Net "want" 1 ["self","place"] (spNWant a):=by
 refine T.m_Net_want.ok sc_Net_want (λ vs H Q E h=>?_) (λ f cdv A outer s H vs Q E hr h=>?_)
 ·obtain ⟨_,_,_,_,_,_,rfl,_⟩:=h;rfl
 ·obtain ⟨p,ps,ds,i,n,x,rfl,⟨dx,dw,dy,hp,hw,hy⟩,nd,hi,k⟩:=h
  refine ⟨_,(af (aD (eM (c8 (bB hr) (pv 1) (aX (pv 0) rfl))) (ag bt) ap)
   (ag (aq (cL (bB hr) (aX (pv 0) rfl) (pv 1) (λ _ _=>rfl))))),?_⟩
  try dsimp only [aG,Cx.nox,Cx.wish]
  obtain ⟨kvs,q,h1,h2,h3⟩:=hw.at_ nd hi;refine ⟨_,rfl,_,rfl,p,_,dx,_,_,rfl,hp,T.cl_Net,T.na_Net_wants,fsN_w _ _,dw,_,rfl,DGet.k (k:=Sum.inr n) h1,_,rfl,?_⟩;rw [h2];refine iteF ?_;refine ⟨_,rfl,p,_,dx,_,_,rfl,hp,T.cl_Net,T.na_Net_wants,fsN_w _ _,_,rfl,dw,.ref q,rfl,?_,k q h3⟩;rw [<- h2];exact DGet.k (k:=Sum.inr n) h1
noncomputable def cg (hi:Option Rat) (x:Rat):Bool:=decide (x<0) || (match hi with | none=>false | some h=>decide (h<x))
noncomputable def bndB (hi:Option Rat) (x:Rat):Rat:=if x<0 then 0 else hi.getD 0
theorem sgn_lt (x:Rat):sgn x<0↔x<0:=by
 unfold sgn;have h:x<0↔x.num<0:=by rw [<- Rat.not_le,<- Rat.num_nonneg];omega
 rw [h]
 split
 ·constructor <;> intro <;> omega
 ·split
  ·constructor <;> intro <;> omega
  ·constructor <;> intro <;> omega
noncomputable def FtIs (H:Hp) (v:V) (e:Str × Str):Prop:=∃ t,v=.ref t/\H t=some (.tup [.str e.1,.str e.2])
theorem FtIs.mono {H H':Hp} {v:V} {e:Str × Str} (h:FtIs H v e) (s:Same H H'):FtIs H' v e:=by
 obtain ⟨t,x,y⟩:=h
 exact ⟨t,x,s _ _ y⟩
theorem FtIs.lst {H:Hp} {l:Addr} {xs:List V} {o:HO} (hl:H l=some (.lst xs)) {v:V} {e:Str × Str} (h:FtIs H v e):FtIs (upd H l o) v e:=let ⟨t,x,y⟩:=h;⟨t,x,by rw [ai (bS y hl (by intro z;cases z))];exact y⟩
inductive IspBP (a:Ad) (vs:List V) (H:Hp) (Q:VK):Prop
 | mk (v:V) (q:Addr) (d:WD) (x:Rat) (h1:vs=[v,.ref q]) (h2:WayIs a H v d) (h3:FrAt a.Fraction H q x) (h4:SmR x) (h5:(∀ h,d.hi=some h->SmR h)) (h6:(cg d.hi x=true->∀ r H',Same H H'->FrAt a.Fraction H' r (bndB d.hi x)->Q (.ref r) H')) (h7:(cg d.hi x=false->Q .non H)):IspBP a vs H Q
noncomputable def spBP (a:Ad):Sp:=λ vs H Q _=>IspBP a vs H Q
theorem dG (T:TX K mg a):FnB P w K mg base CX0 "bound_passed" 4 ["way","part"] (spBP a):=by
 refine T.d_bound_passed.ok sc_bound_passed (λ vs H Q E h=>?_) (λ f cdv A outer s H vs Q E hr h=>?_)
 ·obtain ⟨_,_,_,_,rfl,_⟩:=h;rfl
 ·obtain ⟨v,q,d,x,rfl,hw,hq,sx,sh,k1,k2⟩:=h
  refine ⟨_,(af (aD (ar dX (pe_frm0 T.fr (pv 1) (ok_sign T) hr ak) ac (aA _)) (ag (aq (bo (mk1 T) hr T.mg_Fraction ak (aa ac ad)))) ap)
   (af (aD (PW.pt (dk (ar cM (aX (pv 0) rfl) bG (aA _)) (cq (bE (cU T.fr (aX (pv 0) rfl) (ok_under T) hr ak (aa (pv 1) ad)))))) (ag (aq (aX (pv 0) rfl))) ap)
   (ag (aq bG)))),?_⟩
  try dsimp only [aG,Cx.nox,Cx.wish]
  obtain ⟨p,vh,vc,qx,rfl,W,hk,_,hh⟩:=hw;obtain ⟨dx,fs,ho,h5,_⟩:=id W.ob;have c:=cv T d.kd;refine ⟨_,rfl,q,x,rfl,hq,q,x,rfl,hq,_,_,rfl,rfl,_,rfl,ifB (λ h1=>?_) (λ h1=>?_)⟩
  ·have hx:=(sgn_lt x).mp h1;refine ⟨0,1,rfl,by decide,sm1,λ r H' nr s' fr=>?_⟩;rw [Rat.zero_divInt] at fr;refine k1 (by unfold cg;rw [fV hx];rfl) r H' s' ?_;unfold bndB;rw [if_pos hx];exact fr
  ·have hx:¬ x<0:=λ z=>h1 ((sgn_lt x).mpr z);have o1:cg d.hi x=(match d.hi with | none=>false | some h=>decide (h<x)):=by unfold cg;rw [fU hx];rfl
   have o2:bndB d.hi x=d.hi.getD 0:=by unfold bndB;rw [if_neg hx]
   rw [o1] at k1 k2;rw [o2] at k1
   cases e:d.hi with
   | none=>
    rw [e] at hh k2;obtain rfl:vh=.non:=hh;refine ⟨_,rfl,p,_,dx,fs,_,rfl,ho,c.cl,c.n4,h5.hi,rfl,_,rfl,iteF ?_⟩;exact k2 rfl
   | some h=>
    rw [e] at hh k1 k2;obtain ⟨qh,rfl,fh⟩:=hh;refine ⟨_,rfl,p,_,dx,fs,_,rfl,ho,c.cl,c.n4,h5.hi,rfl,_,rfl,iteT ?_⟩;refine ⟨_,rfl,p,_,dx,fs,_,rfl,ho,c.cl,c.n4,h5.hi,qh,_,rfl,fh,_,rfl,qh,q,_,_,rfl,fh,hq,sh h e,sx,_,rfl,?_⟩;by_cases hlt:h<x
    ·refine eD (fV hlt) ?_;exact ⟨_,rfl,p,_,dx,fs,_,rfl,ho,c.cl,c.n4,h5.hi,k1 (fV hlt) qh H (Same.refl _) fh⟩
    ·refine b9 (fU hlt) ?_;exact k2 (fU hlt)
noncomputable def bj (ds:List WD) (ks:List Str):List Str:=ks.filter (λ n=>decide (¬ n∈ds.map (·.nm)))
noncomputable def OwnIs (_:Hp) (v:V) (_:Unit):Prop:=v=.bl true
inductive IspONames (a:Ad) (vs:List V) (H:Hp) (Q:VK):Prop
 | mk (p d:Addr) (ps:List (Str × Rat)) (ds:List WD) (kvs:List (Key × V)) (ks:List Str) (f:Str->Rat) (h1:vs=[.ref p,.ref d]) (h2:NetOff a H p d ps ds) (h3:(ds.map (·.nm)).Nodup) (h4:ds.length<=100) (h5:H d=some (.dK kvs)) (h6:Tab (FrIs a) H kvs ks f) (h7:ks.Nodup) (h8:ks.length<=100) (h9:∀ l H',H l=none->Same H H'->H' l=some (.lst ((bj ds ks).map V.str))->Q (.ref l) H'):IspONames a vs H Q
noncomputable def spONames (a:Ad):Sp:=λ vs H Q _=>IspONames a vs H Q
theorem ok_other_names (T:TX K mg a):FnB P w K mg base CX0 "other_names" 2 ["net","plan"] (spONames a):=by
 refine T.d_other_names.ok sc_other_names (λ vs H Q E h=>?_) (λ f cdv A outer s H vs Q E hr h=>?_)
 ·obtain ⟨_,_,_,_,_,_,_,rfl,_⟩:=h;rfl
 ·obtain ⟨p,d,ps,ds,kvs,ks,f,rfl,hn,nd,ld,hd,tb,ndk,lk,k⟩:=h
  refine ⟨_,(af (al (i:=2) sc_other_names.nd rfl (Or.inr rfl) dW)
   (ax (bK gA rfl (cb (cK (CX:=CX0) (pv 0) hr ak)) (az (i:=3) sc_other_names.nd rfl (Or.inl rfl)) (ag (dl (bB hr) (pv 2) (aX (pv 3) rfl) cE rfl)))
   (ag (aq (pe_thaw (c7 (xs:=["name"]) (rest:=["own"]) rfl (pi_dict (pv 1))
   (λ pins fp C' s' H'=>(az (i:=0) (show (["name","own"]:List Str).Nodup by decide +kernel) rfl (Or.inl rfl))) (λ pins fp C' s' H'=>(pts_one (eM (c8 (bB hr) (pv 0) (pv 1)))))
   (λ pins fp C' s' H'=>(pv 0))
   (Clos.many (ys:=["own"]) rfl ⟨rfl,True.intro⟩ rfl (by decide +kernel)) (Reads.many (ys:=["own"]) (js:=[2]) ⟨⟨rfl,rfl,rfl⟩,True.intro⟩))))))),?_⟩
  try dsimp only [aG,Cx.nox,Cx.wish]
  intro r nr;have s0:Same H (upd H r (.dK [])):=ay nr;have hr0:upd H r (.dK []) r=some (.dK []):=ae;generalize upd H r (.dK [])=H0 at s0 hr0 ⊢;refine ⟨λ σ' H'=>∃ z3 kvr,σ'=[some (.ref p),some (.ref d),some (.ref r),z3]/\Same H H'/\H' r=some (.dK kvr)/\Tab OwnIs H' kvr (ds.map (·.nm)) (λ _=>()),?_,?_⟩
  ·obtain ⟨dx,dw,dy,hp,hw,hy⟩:=(hn.mono s0).at_;refine ⟨_,rfl,p,a.Net,dx,_,1,["self"],spNAll a,rfl,hp,cG _ _ (by decide +kernel) (by decide +kernel),T.cl_Net,by decide,bJ T,p,ps,ds,rfl,⟨dx,dw,dy,hp,hw,hy⟩,λ l H1 ts nl s1 hl hv=>?_⟩
   refine ⟨l,rfl,⟨_,SqL.of hl⟩,bT (K:=K) (a:=l) (xs:=ts) (λ i σ H2=>i<=ds.length/\∃ z3 kvr,σ=[some (.ref p),some (.ref d),some (.ref r),z3]/\Same H H2/\KeepD H1 H2/\H2 r=some (.dK kvr)/\Tab OwnIs H2 kvr ((ds.map (·.nm)).take i) (λ _=>()))
    ⟨fY _,_,[],rfl,s0.trans s1,.of (Same.refl _),s1 _ _ hr0,Tab.nil⟩ (λ i σ H2 _ ⟨_,_,_,_,_,kp,_⟩=>SqL.of (kp _ _ hl (by intro _ z;cases z) (by intro _ _ z;cases z))) ?_ ?_⟩
   ·rintro i t σ H2 ht ⟨_,z3,kvr,rfl,s2,kp,hr2,tr⟩;obtain ⟨y,ey,wy⟩:=hv.get ht;have hi:=(fL.mp ey).1;have en:(ds.map (·.nm))[i]?=some y.nm:=by rw [fN,ey];rfl
    obtain ⟨tk,nk⟩:=take_next nd en;have wy2:WayIs a H2 t y:=wy.keep λ b C dx fs _ e=>kp _ _ e (by intro _ z;cases z) (by intro _ _ z;cases z);obtain ⟨p1,vh,vc,q1,rfl,W,hk⟩:=wy2;obtain ⟨dx1,fs1,ho,h5,_⟩:=id W.ob;have c:=cv T y.kd;have lkr:kvr.length<=100:=by rw [tr.len,fZ,fG];omega
    refine ⟨_,rfl,_,rfl,p1,_,dx1,fs1,_,rfl,ho,c.cl,c.n1,h5.nm,r,_,rfl,DPut.k (k:=Sum.inr y.nm) hr2 (aE (by omega)),?_⟩;refine ⟨hi,_,_,rfl,aH nr s2,kp.trans (KeepD.put hr2),ae,?_⟩;rw [tk,<- addK_new nk];exact (Tab.put (n:=y.nm) (y:=()) (v:=.bl true) (tr.mono (H':=upd H2 r (.dK (bW kvr (Sum.inr y.nm) (.bl true)))) λ v x z=>z) rfl).congr λ m _=>rfl
   ·rintro σ H2 ⟨_,z3,kvr,rfl,s2,kp,hr2,tr⟩;rw [hv.1,show ds.length=(ds.map (·.nm)).length by rw [fG],ge] at tr;exact ⟨_,kvr,rfl,s2,hr2,tr⟩
  rintro σ' H1 ⟨z3,kvr,rfl,s1,hr1,tr⟩;have hd1:=s1 _ _ hd;have tb1:=tb.mono λ v x z=>FrIs.mono z s1;refine ⟨d,.dK kvs,hd1,(by intro o z e;cases e),_,rfl,d,kvs,rfl,hd1,λ o l nl=>?_⟩;have ndl:d≠l:=λ z=>by rw [z,ae] at nl;cases nl
  have nl':H1 l=none:=by rw [ai ndl.symm] at nl;exact nl
  have ndr:r≠d:=λ z=>by rw [z,hd] at nr;cases nr
  refine compG_dict (a:=d) (o:=o) (kvs:=kvs) (λ i H2=>i<=ks.length/\H2 d=some (.frz o (.dK kvs))/\(∀ b ob,H1 b=some ob->b≠d->H2 b=some ob)/\H2 l=some (.lst ((bj ds (ks.take i)).map V.str)))
   ⟨fY _,by rw [ai ndl,ae],(λ b ob e ne=>by rw [ai (av e nl'),ai ne];exact e),ae⟩ (λ i H2 ⟨_,h,_⟩=>h) ?_ ?_
  ·rintro i kv H2 hkv ⟨_,hf,k2,hl2⟩;obtain ⟨n,en,e1,ev,_⟩:=tb1.at_ ndk hkv;have hi:i<ks.length:=(fL.mp en).1;have ekv:kV kv.1=.str n:=by rw [e1];rfl
   rw [ekv];have hr2:=k2 _ _ hr1 ndr
   have tk:bj ds (ks.take (i+1))=bj ds (ks.take i)++[n].filter (λ n=>decide (¬ n∈ds.map (·.nm))):=by
    unfold bj;rw [gf,en,gv,List.filter_append]
   have ll:(bj ds (ks.take i)).length<=100:=by
    unfold bj;exact fO (List.length_filter_le _ _) (by rw [fZ];omega)
   refine g1 ⟨⟨[_],rfl,rfl⟩,?_⟩;refine ⟨_,rfl,_,rfl,r,_,rfl,DGet.k (k:=Sum.inr n) hr2,_,rfl,?_⟩;by_cases hin:n∈ds.map (·.nm)
   ·obtain ⟨v,ev',_⟩:=tr.vals n hin;rw [ev'];refine iteF ?_;refine cP (by rw [tb1.len];exact hi) ⟨hi,hf,k2,?_⟩;rw [tk,List.filter_cons_of_neg (by simpa using hin),List.filter_nil,List.append_nil];exact hl2
   ·rw [tr.none hin];refine iteT ?_;refine ⟨_,rfl,_,hl2,aE (by rw [fG];omega),cP (by rw [tb1.len];exact hi) ⟨hi,by rw [ai ndl];exact hf,(λ b ob e ne=>by rw [ai (av e nl')];exact k2 _ _ e ne),?_⟩⟩;rw [ae,tk,gj,List.filter_cons_of_pos (by simpa using hin)];rfl
  ·rintro H2 ⟨_,hf,k2,hl2⟩;rw [tb1.len,ge] at hl2;refine ⟨o,hf,?_⟩
   have s2:Same H1 (upd H2 d (.dK kvs)):=λ b ob e=>by
    by_cases hb:b=d
    ·subst hb;rw [ae,<- hd1,e]
    ·rw [ai hb];exact k2 _ _ e hb
   exact k l _ (s1.free nl') (s1.trans s2) (by rw [ai ndl.symm];exact hl2)
noncomputable def bx (A:Str->Rat) (ds:List WD):List (Str × Str):=(ds.filter λ y=>cg y.hi (A y.nm)).map λ y=>("bound",y.nm)
noncomputable def bI (F:Str->Rat) (ps:List (Str × Rat)):List (Str × Str):=(ps.filter λ z=>decide (F z.1<z.2)).map λ z=>("place",z.1)
noncomputable def aK (ks:List Str) (A:Str->Rat) (ps:List (Str × Rat)) (ds:List WD):List (Str × Str):=(bj ds ks).map (λ n=>(("way":Str),n))++bx A ds++bI (bC A ds) ps
theorem fE (A:Str->Rat) (ds:List WD) (y:WD):bx A (ds++[y])=bx A ds++(if cg y.hi (A y.nm)=true then [(("bound":Str),y.nm)] else []):=by
 unfold bx;rw [List.filter_append,gj]
 congr 1
 split
 ·rename_i h;rw [List.filter_cons_of_pos (by simpa using h)];rfl
 ·rename_i h;rw [List.filter_cons_of_neg (by simpa using h)];rfl
theorem fe (F:Str->Rat) (ps:List (Str × Rat)) (z:Str × Rat):bI F (ps++[z])=bI F ps++(if F z.1<z.2 then [(("place":Str),z.1)] else []):=by
 unfold bI;rw [List.filter_append,gj]
 congr 1
 split
 ·rename_i h;rw [List.filter_cons_of_pos (by simpa using h)];rfl
 ·rename_i h;rw [List.filter_cons_of_neg (by simpa using h)];rfl
theorem cS (A:Str->Rat) (ds:List WD):(bx A ds).length<=ds.length:=by
 unfold bx;rw [fG];exact List.length_filter_le _ _
theorem placesF_len (F:Str->Rat) (ps:List (Str × Rat)):(bI F ps).length<=ps.length:=by
 unfold bI;rw [fG];exact List.length_filter_le _ _
structure FltOk (a:Ad) (H:Hp) (p d:Addr) (ps:List (Str × Rat)) (ds:List WD) (kvs:List (Key × V)) (ks:List Str) (f:Str->Rat):Prop where
 net:NetOff a H p d ps ds
 nd:(ds.map (·.nm)).Nodup
 ld:ds.length<=100
 hd:H d=some (.dK kvs)
 tb:Tab (FrIs a) H kvs ks f
 nk:ks.Nodup
 lk:ks.length<=100
 lp:ps.length<=100
 so:SumOk (bn ks f) ps ds
 hi:∀ y∈ds,∀ h,y.hi=some h->SmR h
 wa:∀ z∈ps,SmR z.2
theorem FltOk.mono {H H':Hp} {p d:Addr} {ps:List (Str × Rat)} {ds:List WD} {kvs:List (Key × V)} {ks:List Str} {f:Str->Rat} (h:FltOk a H p d ps ds kvs ks f) (s:Same H H'):FltOk a H' p d ps ds kvs ks f:=
 ⟨h.net.mono s,h.nd,h.ld,s _ _ h.hd,h.tb.mono λ v x z=>FrIs.mono z s,h.nk,h.lk,h.lp,h.so,h.hi,h.wa⟩
inductive IspFaults (a:Ad) (vs:List V) (H:Hp) (Q:VK):Prop
 | mk (p d:Addr) (ps:List (Str × Rat)) (ds:List WD) (kvs:List (Key × V)) (ks:List Str) (f:Str->Rat) (h1:vs=[.ref p,.ref d]) (h2:FltOk a H p d ps ds kvs ks f) (h3:∀ l H' ts,H l=none->Same H H'->H' l=some (.lst ts)->RowAt FtIs H' ts (aK ks (bn ks f) ps ds)->Q (.ref l) H'):IspFaults a vs H Q
noncomputable def spFaults (a:Ad):Sp:=λ vs H Q _=>IspFaults a vs H Q
theorem cy (T:TX K mg a):FnB P w K mg base CX0 "faults" 10 ["net","plan"] (spFaults a):=by
 refine T.d_faults.ok sc_faults (λ vs H Q E h=>?_) (λ f cdv A outer s H vs Q E hr h=>?_)
 ·obtain ⟨_,_,_,_,_,_,_,rfl,_⟩:=h;rfl
 ·obtain ⟨p,d,ps,ds,kvs,ks,f,rfl,ok,k⟩:=h;generalize eA:bn ks f=A at k;have so:=ok.so;rw [eA] at so;have ld:=ok.ld;have lk:=ok.lk;have lp:=ok.lp
  refine ⟨_,(ax (cD (i:=2) (xs:=["name"]) (rest:=[]) sc_faults.nd rfl rfl rfl (cb (aw (ok_other_names T) hr ak (aa (pv 0) (aa (pv 1) ad))))
   (λ pins fp C' s' H'=>(az (i:=0) (show (["name"]:List Str).Nodup by decide +kernel) rfl (Or.inl rfl))) (λ pins fp C' s' H'=>bH)
   (λ pins fp C' s' H'=>(aF (aa bh (aa (pv 0) ad))))
   (Clos.none (by decide +kernel) (by decide +kernel)) (Reads.many (ys:=[]) (js:=[]) True.intro))
   (ax (bK gA rfl (cb (cK (CX:=CX0) (pv 0) hr ak)) (az (i:=3) sc_faults.nd rfl (Or.inl rfl)) (ag (aD (ar cM (aw (dG T) hr ak (aa (pv 3) (aa (aw (ok_amount T) hr ak (aa (pv 1) (aa (aX (pv 3) rfl) ad))) ad))) bG (aA _)) (ag (bD (pe_bm PySem.F.plainAttrs_list PySem.F.slot_list_append PySem.F.type_list_append et (pv 2) (aa (aF (aa bh (aa (aX (pv 3) rfl) ad))) ad)))) ap)))
   (af (al (i:=4) sc_faults.nd rfl (Or.inl rfl) (aw (ci T) hr ak (aa (pv 0) (aa (pv 1) ad))))
   (af (bK gA rfl (cb (cK (CX:=CX0) (pv 0) hr ak)) (az (i:=5) sc_faults.nd rfl (Or.inl rfl)) (ag (aD (bE (cU T.fr (cL (bB hr) (pv 4) (pv 5) (λ _ _=>rfl)) (ok_under T) hr ak (aa (pe_mtD (CX:=CX0) (pv 0) hr ak (aa (pv 5) ad)) ad))) (ag (bD (pe_bm PySem.F.plainAttrs_list PySem.F.slot_list_append PySem.F.type_list_append et (pv 2) (aa (aF (aa bh (aa (pv 5) ad))) ad)))) ap)))
   (ag (aq (pv 2))))))),?_⟩
  try dsimp only [aG,Cx.nox,Cx.wish]
  have lo:(bj ds ks).length<=100:=by
   unfold bj;exact fO (List.length_filter_le _ _) lk
  refine ⟨λ σ' H'=>∃ l ts,σ'=[some (.ref p),some (.ref d),some (.ref l),none,none,none]/\H l=none/\Same H H'/\H' l=some (.lst ts)/\RowAt FtIs H' ts ((bj ds ks).map (λ n=>(("way":Str),n))),?_,?_⟩
  ·refine ⟨_,rfl,_,rfl,p,d,ps,ds,kvs,ks,f,rfl,ok.net,ok.nd,ld,ok.hd,ok.tb,ok.nk,lk,λ lo1 H1 nlo s1 hlo=>?_⟩;refine ⟨lo1,rfl,⟨_,SqL.of hlo⟩,λ l nl=>?_⟩;refine compG_list (K:=K) (a:=lo1) (xs:=(bj ds ks).map V.str) (λ i H2=>i<=(bj ds ks).length/\Same H1 H2/\∃ ts,H2 l=some (.lst ts)/\RowAt FtIs H2 ts (((bj ds ks).take i).map (λ n=>(("way":Str),n)))) ⟨fY _,ay nl,[],ae,RowAt.nil⟩ (λ i H2 ⟨_,s2,_⟩=>SqL.of (s2 _ _ hlo)) ?_ ?_
   ·rintro i x H2 hx ⟨_,s2,ts,h2,hv⟩;rw [fN] at hx
    cases ex:(bj ds ks)[i]? with
    | none=>rw [ex] at hx;cases hx
    | some n=>
     rw [ex] at hx
     cases hx;have hi:=(fL.mp ex).1;refine g1 ⟨⟨[_],rfl,rfl⟩,yes ?_⟩;refine ⟨_,rfl,zL2,λ t nt=>?_⟩;obtain ⟨H3,zq,s3,ht⟩:=uG (o:=.tup [.str "way",.str n]) nt;rw [zq];have h3:=s3 _ _ h2;have lts:ts.length=i:=by rw [hv.1,fG,fZ];omega
     refine ⟨_,h3,aE (by omega),cP (by rw [fG];exact hi) ⟨hi,aH nl (s2.trans s3),_,ae,?_⟩⟩;rw [gf,ex,gv,gj];exact RowAt.snoc (hv.mono λ v x z=>(z.mono s3).lst h3) (FtIs.lst h3 ⟨t,rfl,ht⟩)
   ·rintro H2 ⟨_,s2,ts,h2,hv⟩;rw [fG,ge] at hv;exact ⟨l,ts,rfl,s1.free nl,s1.trans s2,h2,hv⟩
  rintro σ' H1 ⟨l,ts1,rfl,nl,s1,hl1,hv1⟩;have lt1:ts1.length<=100:=by rw [hv1.1,fG];exact lo
  refine ⟨λ σ' H'=>∃ ts z3,σ'=[some (.ref p),some (.ref d),some (.ref l),z3,none,none]/\Same H H'/\H' l=some (.lst ts)/\RowAt FtIs H' ts ((bj ds ks).map (λ n=>(("way":Str),n))++bx A ds),?_,?_⟩
  ·obtain ⟨dx,dw,dy,hp,hw,hy⟩:=(ok.net.mono s1).at_;refine ⟨_,rfl,p,a.Net,dx,_,1,["self"],spNAll a,rfl,hp,cG _ _ (by decide +kernel) (by decide +kernel),T.cl_Net,by decide,bJ T,p,ps,ds,rfl,⟨dx,dw,dy,hp,hw,hy⟩,λ lw H2 tw nlw s2 hlw hw2=>?_⟩;have s12:=s1.trans s2
   refine ⟨lw,rfl,⟨_,SqL.of hlw⟩,bT (K:=K) (a:=lw) (xs:=tw) (λ i σ H3=>i<=ds.length/\∃ ts z3,σ=[some (.ref p),some (.ref d),some (.ref l),z3,none,none]/\Same H H3/\(∀ b u,H2 b=some u->b≠l->H3 b=some u)/\H3 l=some (.lst ts)/\RowAt FtIs H3 ts ((bj ds ks).map (λ n=>(("way":Str),n))++bx A (ds.take i)))
    ⟨fY _,ts1,_,rfl,s12,(λ _ _ e _=>e),s2 _ _ hl1,by rw [List.take_zero,show bx A []=[] from rfl,List.append_nil];exact hv1.mono λ v x z=>z.mono s2⟩ (λ i σ H3 _ ⟨_,_,_,_,_,kb,_⟩=>SqL.of (kb _ _ hlw (λ z=>by rw [z,hl1] at nlw;cases nlw))) ?_ ?_⟩
   ·rintro i t σ H3 ht ⟨_,ts,z3,rfl,s3,kb,hl3,hv3⟩;obtain ⟨y,ey,wy⟩:=hw2.get ht;have hi:=(fL.mp ey).1;have my:=fK ey;have wy3:WayIs a H3 t y:=wy.keep λ b C dx fs _ e=>kb _ _ e (λ z=>by rw [z,s2 _ _ hl1] at e;cases e);have wyo:=id wy3;obtain ⟨p1,vh,vc,q1,rfl,W,hk⟩:=wy3;obtain ⟨dx1,fs1,ho,h5,_⟩:=id W.ob;have c:=cv T y.kd;have tk:ds.take (i+1)=ds.take i++[y]:=by rw [gf,ey];rfl
    have lts:ts.length<=200:=by
     have:=cS A (ds.take i)
     rw [fZ] at this;rw [hv3.1,fX,fG];omega
    refine ⟨_,rfl,_,rfl,_,rfl,p1,_,dx1,fs1,_,rfl,ho,c.cl,c.n1,h5.nm,d,kvs,ks,f,y.nm,rfl,.inl (s3 _ _ ok.hd),ok.tb.mono (λ v x z=>FrIs.mono z s3),λ q H4 s4 f4=>?_⟩;rw [eA] at f4;refine ⟨_,q,y,A y.nm,rfl,wyo.mono s4,f4,(so.sa y my).1,ok.hi y my,λ hov r H5 s5 fr=>?_,λ hov=>?_⟩
    ·refine ⟨rfl,_,rfl,iteT ?_⟩;have s45:=s4.trans s5;have hl5:=s45 _ _ hl3;refine ⟨_,rfl,.inl ⟨rfl,_,SqL.of hl5⟩,_,rfl,p1,_,dx1,fs1,_,rfl,s45 _ _ ho,c.cl,c.n1,h5.nm,zL2,λ u nu=>?_⟩;obtain ⟨H6,zq,s6,hu⟩:=uG (o:=.tup [.str "bound",.str y.nm]) nu;rw [zq];have s36:=s45.trans s6;have hl6:=s36 _ _ hl3;refine ⟨l,_,_,rfl,rfl,hl6,aE (by omega),?_⟩;refine ⟨hi,_,_,rfl,aH nl (s3.trans s36),(λ b w e ne=>by rw [ai ne];exact s36 _ _ (kb _ _ e ne)),ae,?_⟩;rw [tk,fE,if_pos hov,<- List.append_assoc];exact RowAt.snoc (hv3.mono λ v x z=>(z.mono s36).lst hl6) (FtIs.lst hl6 ⟨u,rfl,hu⟩)
    ·refine ⟨rfl,_,rfl,iteF ?_⟩;refine ⟨hi,ts,_,rfl,s3.trans s4,(λ b w e ne=>s4 _ _ (kb _ _ e ne)),s4 _ _ hl3,?_⟩;rw [tk,fE,if_neg (by rw [hov];decide),List.append_nil];exact hv3.mono λ v x z=>z.mono s4
   ·rintro σ H3 ⟨_,ts,z3,rfl,s3,kb,hl3,hv3⟩;rw [hw2.1,ge] at hv3;exact ⟨ts,_,rfl,s3,hl3,hv3⟩
  rintro σ' H2 ⟨ts2,z3,rfl,s2,hl2,hv2⟩
  have lt2:ts2.length<=200:=by
   have:=cS A ds
   rw [hv2.1,fX,fG];omega
  refine ⟨_,rfl,_,rfl,p,d,ps,ds,kvs,ks,f,rfl,(ok.net.mono s2).at_,s2 _ _ ok.hd,ok.tb.mono (λ v x z=>FrIs.mono z s2),ok.so,λ r H3 kvr nr s3 hr3 tr=>?_⟩;rw [eA] at tr;have s23:=s2.trans s3;have hl3:=s3 _ _ hl2;obtain ⟨dx,dw,dy,hp,hw,hy⟩:=(ok.net.mono s23).at_;refine ⟨_,rfl,p,a.Net,dx,_,1,["self"],spNNames a,rfl,hp,cG _ _ (by decide +kernel) (by decide +kernel),T.cl_Net,by decide,ft T,p,ps,ds,rfl,⟨dx,dw,dy,hp,hw,hy⟩,λ ln nln=>?_⟩;obtain ⟨H4,zq,s4,hln⟩:=uG (o:=.lst (ps.map λ x=>V.str x.1)) nln;rw [zq];have lnl:ln≠l:=λ z=>by rw [z,hl3] at nln;cases nln
  have rl:r≠l:=λ z=>by rw [z,hl2] at nr;cases nr
  have hl4:=s4 _ _ hl3;have hr4:=s4 _ _ hr3;have tr4:=tr.mono λ v x z=>FrIs.mono z s4
  refine ⟨ln,rfl,⟨_,SqL.of hln⟩,bT (K:=K) (a:=ln) (xs:=ps.map λ x=>V.str x.1) (λ i σ H5=>i<=ps.length/\∃ ts z5,σ=[some (.ref p),some (.ref d),some (.ref l),z3,some (.ref r),z5]/\Same H H5/\(∀ b u,H4 b=some u->b≠l->H5 b=some u)/\H5 l=some (.lst ts)/\RowAt FtIs H5 ts ((bj ds ks).map (λ n=>(("way":Str),n))++bx A ds++bI (bC A ds) (ps.take i)))
   ⟨fY _,ts2,_,rfl,s23.trans s4,(λ _ _ e _=>e),hl4,by rw [List.take_zero,show bI (bC A ds) []=[] from rfl,List.append_nil];exact hv2.mono λ v x z=>(z.mono s3).mono s4⟩ (λ i σ H5 _ ⟨_,_,_,_,_,kb,_⟩=>SqL.of (kb _ _ hln lnl)) ?_ ?_⟩
  ·rintro i t σ H5 ht ⟨_,ts,z5,rfl,s5,kb,hl5,hv5⟩;rw [fN] at ht
   cases ex:ps[i]? with
   | none=>rw [ex] at ht;cases ht
   | some x=>
    rw [ex] at ht
    cases ht;have hi:=(fL.mp ex).1;have mx:=fK ex;have tk:ps.take (i+1)=ps.take i++[x]:=by rw [gf,ex];rfl
    have lts:ts.length<=300:=by
     have:=cS A ds
     have:=placesF_len (bC A ds) (ps.take i)
     rw [fZ] at this;rw [hv5.1,fX,fX,fG];omega
    obtain ⟨v,ev,x',rfl,fx⟩:=tr4.vals x.1 (fQ.mpr ⟨x,mx,rfl⟩);have hr5:=kb _ _ hr4 rl
    have fx5:FrAt a.Fraction H5 x' (bC A ds x.1):=by
     obtain ⟨dq,g⟩:=fx;exact ⟨dq,kb _ _ g (λ z=>by rw [z,hl4] at g;cases g)⟩
    obtain ⟨dx5,dw5,dy5,hp5,hw5,hy5⟩:=(ok.net.mono s5).at_
    have sf:SmR (bC A ds x.1):=by
     have:=so.sf ds.length x.1
     rwa [ge] at this
    refine ⟨_,rfl,_,rfl,r,.ref x',rfl,.inl ⟨kvr,Sum.inr x.1,.inl hr5,rfl,ev.symm⟩,x',_,rfl,fx5,_,rfl,p,a.Net,dx5,_,1,["self","place"],spNWant a,rfl,hp5,cG _ _ (by decide +kernel) (by decide +kernel),T.cl_Net,by decide,ok_Net_want T,_,rfl,p,ps,ds,i,x.1,x.2,rfl,⟨dx5,dw5,dy5,hp5,hw5,hy5⟩,so.np,ex,λ q fq=>?_⟩;refine ⟨x',q,_,_,rfl,fx5,fq,sf,ok.wa x mx,_,rfl,?_⟩;by_cases hlt:bC A ds x.1<x.2
    ·refine eD (fV hlt) ?_;refine ⟨_,rfl,.inl ⟨rfl,_,SqL.of hl5⟩,_,rfl,zL2,λ u nu=>?_⟩;obtain ⟨H6,zq,s6,hu⟩:=uG (o:=.tup [.str "place",.str x.1]) nu;rw [zq];have hl6:=s6 _ _ hl5;refine ⟨l,_,_,rfl,rfl,hl6,aE (by omega),?_⟩;refine ⟨hi,_,_,rfl,aH nl (s5.trans s6),(λ b w e ne=>by rw [ai ne];exact s6 _ _ (kb _ _ e ne)),ae,?_⟩;rw [tk,fe,if_pos hlt,<- List.append_assoc];exact RowAt.snoc (hv5.mono λ v x z=>(z.mono s6).lst hl6) (FtIs.lst hl6 ⟨u,rfl,hu⟩)
    ·refine b9 (fU hlt) ?_;refine ⟨hi,ts,_,rfl,s5,kb,hl5,?_⟩;rw [tk,fe,if_neg hlt,List.append_nil];exact hv5
  ·rintro σ H5 ⟨_,ts,z5,rfl,s5,kb,hl5,hv5⟩;rw [fG,ge] at hv5;exact ⟨_,rfl,k l H5 ts nl s5 hl5 hv5⟩
noncomputable def RefE (a:Ad) (H:Hp) (ps:List (Str × Rat)) (ds:List WD) (ks:List Str) (A:Str->Rat) (E:XK) (w n:Str):Prop:=
 (w = "way"/\NoWayE a H n E)∨
 (w = "bound"/\∃ y∈ds,y.nm=n/\cg y.hi (A n)=true/\∀ H' dx q,Same H H'->FrAt a.Fraction H' q (bndB y.hi (A n))->H' dx=some (.xd [("bound",.ref q),("name",.str n)])->E (.ref a.OverBound) (some dx) H')∨
 (w = "place"/\(∀ m∈ks,m∈ds.map (·.nm))/\∃ (i:Nat) (x:Rat),ps[i]?=some (n,x)/\∀ H' dx q,Same H H'->FrAt a.Fraction H' q (x-bC A ds n)->H' dx=some (.xd [("lacking",.ref q),("place",.str n)])->E (.ref a.Short) (some dx) H')
theorem RefE.mono {H H':Hp} {ps:List (Str × Rat)} {ds:List WD} {ks:List Str} {A:Str->Rat} {E:XK} {w n:Str} (h:RefE a H ps ds ks A E w n) (s:Same H H'):RefE a H' ps ds ks A E w n:=by
 rcases h with ⟨e,h⟩ | ⟨e,y,my,ey,ov,h⟩ | ⟨e,sub,i,x,hi,h⟩
 ·exact .inl ⟨e,λ H2 dx s2=>h H2 dx (s.trans s2)⟩
 ·exact .inr (.inl ⟨e,y,my,ey,ov,λ H2 dx q s2=>h H2 dx q (s.trans s2)⟩)
 ·exact .inr (.inr ⟨e,sub,i,x,hi,λ H2 dx q s2=>h H2 dx q (s.trans s2)⟩)
inductive IspRefuse (a:Ad) (vs:List V) (H:Hp) (E:XK):Prop
 | mk (p d t:Addr) (ps:List (Str × Rat)) (ds:List WD) (kvs:List (Key × V)) (ks:List Str) (f:Str->Rat) (w n:Str) (h1:vs=[.ref p,.ref d,.ref t]) (h2:FltOk a H p d ps ds kvs ks f) (h3:H t=some (.tup [.str w,.str n])) (h4:n.length<=1000) (h5:RefE a H ps ds ks (bn ks f) E w n):IspRefuse a vs H E
noncomputable def spRefuse (a:Ad):Sp:=λ vs H _ E=>IspRefuse a vs H E
theorem ok_refuseX (T:TX K mg a):FnB P w K mg base (CX1 P w) "refuse" 12 ["net","plan","fault"] (spRefuse a):=by
 refine T.d_refuse.okX sc_refuse (λ vs H Q E h=>?_) (λ f cdv A outer s H vs Q E hr h=>?_)
 ·obtain ⟨_,_,_,_,_,_,_,_,_,_,rfl,_⟩:=h;rfl
 ·obtain ⟨p,d,t,ps,ds,kvs,ks,f,wd,n,rfl,ok,ht,ln,hE⟩:=h
  refine ⟨_,(af (al (i:=3) sc_refuse.nd rfl (Or.inl rfl) (ao aB (pv 2) ac (λ _ _=>rfl)))
   (af (al (i:=4) sc_refuse.nd rfl (Or.inl rfl) (ao aB (pv 2) ac (λ _ _=>rfl)))
   (af (aD (ar bO (pv 3) bh (aA _)) (ag (ps_raiseI xout1 rfl hr (by rfl) T.mg_NoWay (xi_NoWay T) (aa (pv 4) ad))) ap)
   (af (aD (ar bO (pv 3) bh (aA _)) (ag (ps_raiseI xout1 rfl hr (by rfl) T.mg_OverBound (xi_OverBound T) (aa (pv 4) (aa (aw (dG T) hr ak (aa (pe_mtD (CX:=CX0) (pv 0) hr ak (aa (pv 4) ad)) (aa (aw (ok_amount T) hr ak (aa (pv 1) (aa (pv 4) ad))) ad))) ad)))) ap)
   (ag (ps_raiseI xout1 rfl hr (by rfl) T.mg_Short (xi_Short T) (aa (pv 4) (aa (cU T.fr (pe_mtD (CX:=CX0) (pv 0) hr ak (aa (pv 4) ad)) (ok_minus T) hr ak (aa (cL (bB hr) (aw (ok_sums T) hr ak (aa (pv 0) (aa (pv 1) ad))) (pv 4) (λ _ _=>rfl)) ad)) ad)))))))),?_⟩
  try dsimp only [aG,Cx.nox,Cx.wish]
  refine ⟨_,rfl,t,_,_,_,rfl,rfl,SqT.of ht,rfl,_,rfl,t,_,_,_,rfl,rfl,SqT.of ht,rfl,?_⟩;have so:=ok.so;rcases hE with ⟨rfl,hE⟩ | ⟨rfl,y,my,rfl,ov,hE⟩ | ⟨rfl,sub,i,x,hi,hE⟩
  ·refine ⟨_,rfl,rfl,_,rfl,eD (by decide +kernel) ?_⟩;exact ⟨_,rfl,raise_nw ln hE⟩
  ·skip
   refine ⟨_,rfl,rfl,_,rfl,b9 (by decide +kernel) ?_⟩;refine ⟨_,rfl,rfl,_,rfl,eD (by decide +kernel) ?_⟩;obtain ⟨dx,dw,dy,hp,hw,hy⟩:=ok.net.at_;refine ⟨_,rfl,_,rfl,p,a.Net,dx,_,1,["self","name"],eY a,rfl,hp,cG _ _ (by decide +kernel) (by decide +kernel),T.cl_Net,by decide,eP T,_,rfl,p,ps,ds,y,rfl,⟨dx,dw,dy,hp,hw,hy⟩,ok.nd,my,λ v hv=>?_⟩;refine ⟨_,rfl,_,rfl,d,kvs,ks,f,y.nm,rfl,.inl ok.hd,ok.tb,λ q H1 s1 f1=>?_⟩;refine ⟨v,q,y,_,rfl,hv.mono s1,f1,(so.sa y my).1,ok.hi y my,λ _ r H2 s2 fr=>?_,λ z=>absurd (z.symm.trans ov) (by decide)⟩;exact raise_OverBound ln λ H3 dx' s3 hx=>hE H3 dx' r ((s1.trans s2).trans s3) (fr.mono s3) hx
  ·skip
   refine ⟨_,rfl,rfl,_,rfl,b9 (by decide +kernel) ?_⟩;refine ⟨_,rfl,rfl,_,rfl,b9 (by decide +kernel) ?_⟩;obtain ⟨dx,dw,dy,hp,hw,hy⟩:=ok.net.at_;refine ⟨_,rfl,_,rfl,p,a.Net,dx,_,1,["self","place"],spNWant a,rfl,hp,cG _ _ (by decide +kernel) (by decide +kernel),T.cl_Net,by decide,ok_Net_want T,_,rfl,p,ps,ds,i,n,x,rfl,⟨dx,dw,dy,hp,hw,hy⟩,so.np,hi,λ q fq=>?_⟩;refine ⟨q,_,rfl,fq,_,rfl,_,rfl,p,d,ps,ds,kvs,ks,f,rfl,ok.net,ok.nd,ok.hd,ok.tb,ok.nk,sub,so,λ r H1 kvr nr s1 hr1 tr=>?_⟩;have mn:n∈ps.map (·.1):=fQ.mpr ⟨(n,x),fK hi,rfl⟩;obtain ⟨v,ev,x',rfl,fx⟩:=tr.vals n mn
   have sf:SmR (bC (bn ks f) ds n):=by
    have:=so.sf ds.length n
    rwa [ge] at this
   refine ⟨_,rfl,r,.ref x',rfl,.inl ⟨kvr,Sum.inr n,.inl hr1,rfl,ev.symm⟩,q,x',_,_,rfl,fq.mono s1,fx,ok.wa (n,x) (fK hi),sf,True.intro,λ r2 H2 nr2 s2 f2=>?_⟩;exact raise_Short ln λ H3 dx' s3 hx=>hE H3 dx' r2 ((s1.trans s2).trans s3) (f2.mono s3) hx
inductive IspCheckedX (a:Ad) (vs:List V) (H:Hp) (E:XK):Prop
 | mk (p d:Addr) (ps:List (Str × Rat)) (ds:List WD) (kvs:List (Key × V)) (ks:List Str) (f:Str->Rat) (w n:Str) (rest:List (Str × Str)) (h1:vs=[.ref p,.ref d]) (h2:FltOk a H p d ps ds kvs ks f) (h3:aK ks (bn ks f) ps ds=(w,n)::rest) (h4:n.length<=1000) (h5:RefE a H ps ds ks (bn ks f) E w n):IspCheckedX a vs H E
noncomputable def spCheckedX (a:Ad):Sp:=λ vs H _ E=>IspCheckedX a vs H E
theorem ok_checkedX (T:TX K mg a):FnB P w K mg base (CX1 P w) "checked" 13 ["net","plan"] (spCheckedX a):=by
 refine T.d_checked.okX sc_checked (λ vs H Q E h=>?_) (λ f cdv A outer s H vs Q E hr h=>?_)
 ·obtain ⟨_,_,_,_,_,_,_,_,_,_,rfl,_⟩:=h;rfl
 ·obtain ⟨p,d,ps,ds,kvs,ks,f,wd,n,rest,rfl,ok,ef,ln,hE⟩:=h
  refine ⟨_,(af (al (i:=2) sc_checked.nd rfl (Or.inl rfl) (aw (cy T) hr ak (aa (pv 0) (aa (pv 1) ad))))
   (af (aD (ar (op_neN hr.units0) (pv 2) (cT ad) (aA _)) (ag (bD (aw (ok_refuseX T) hr pass1 (aa (pv 0) (aa (pv 1) (aa (ao au (pv 2) ac (λ _ _=>rfl)) ad)))))) ap)
   (ag (aq (aw (c9 T) hr ak (aa (pv 0) (aa (pv 1) ad))))))),?_⟩
  try dsimp only [aG,Cx.nox,Cx.wish]
  refine ⟨_,rfl,_,rfl,p,d,ps,ds,kvs,ks,f,rfl,ok,λ l H1 ts nl s1 hl hv=>?_⟩;rw [ef] at hv;obtain ⟨t0,et0,t,rfl,ht⟩:=hv.get' (i:=0) (x:=(wd,n)) rfl;have lts:ts.length=rest.length+1:=by rw [hv.1];rfl
  refine ⟨_,rfl,by decide,λ l0 nl0=>?_⟩;obtain ⟨H2,zq,s2,h0⟩:=uG (o:=.lst []) nl0;rw [zq];refine ⟨l,l0,_,rfl,rfl,SqL.of (s2 _ _ hl),SqL.of h0,_,rfl,?_⟩;refine eD (by cases ts with | nil=>cases lts | cons _ _=>rfl) ?_;have s12:=s1.trans s2;exact ⟨_,rfl,_,rfl,_,rfl,l,_,_,_,rfl,rfl,SqL.of (s2 _ _ hl),atI_nat (j:=0) et0,p,d,t,ps,ds,kvs,ks,f,wd,n,rfl,ok.mono s12,s2 _ _ ht,ln,hE.mono s12⟩
inductive IspChecked (a:Ad) (vs:List V) (H:Hp) (Q:VK):Prop
 | mk (p d:Addr) (ps:List (Str × Rat)) (ds:List WD) (kvs:List (Key × V)) (ks:List Str) (f co:Str->Rat) (N:Nat) (h1:vs=[.ref p,.ref d]) (h2:FltOk a H p d ps ds kvs ks f) (h3:aK ks (bn ks f) ps ds=[]) (h4:(∀ n∈ks,n∈ds.map (·.nm))) (h5:(∀ x∈ds,x.co=co x.nm)) (h6:(∀ n∈ks,SmR (f n)/\SmR (co n))) (h7:BdS (ks.map λ n=>co n*f n) N) (h8:N<9000) (h9:∀ r H',H r=none->Same H H'->FrAt a.Fraction H' r (ks.map λ n=>co n*f n).sum->Q (.ref r) H'):IspChecked a vs H Q
noncomputable def spChecked (a:Ad):Sp:=λ vs H Q _=>IspChecked a vs H Q
theorem ok_checked (T:TX K mg a):FnB P w K mg base (CX1 P w) "checked" 13 ["net","plan"] (spChecked a):=by
 refine T.d_checked.okX sc_checked (λ vs H Q E h=>?_) (λ f cdv A outer s H vs Q E hr h=>?_)
 ·obtain ⟨_,_,_,_,_,_,_,_,_,rfl,_⟩:=h;rfl
 ·obtain ⟨p,d,ps,ds,kvs,ks,f,co,N,rfl,ok,ef,sub,hco,sm,bN,hN,k⟩:=h
  refine ⟨_,(af (al (i:=2) sc_checked.nd rfl (Or.inl rfl) (aw (cy T) hr ak (aa (pv 0) (aa (pv 1) ad))))
   (af (aD (ar (op_neN hr.units0) (pv 2) (cT ad) (aA _)) (ag (bD (aw (ok_refuseX T) hr pass1 (aa (pv 0) (aa (pv 1) (aa (ao au (pv 2) ac (λ _ _=>rfl)) ad)))))) ap)
   (ag (aq (aw (c9 T) hr ak (aa (pv 0) (aa (pv 1) ad))))))),?_⟩
  try dsimp only [aG,Cx.nox,Cx.wish]
  refine ⟨_,rfl,_,rfl,p,d,ps,ds,kvs,ks,f,rfl,ok,λ l H1 ts nl s1 hl hv=>?_⟩;rw [ef] at hv;have ets:ts=[]:=List.length_eq_zero_iff.mp hv.1;refine ⟨_,rfl,by decide,λ l0 nl0=>?_⟩;obtain ⟨H2,zq,s2,h0⟩:=uG (o:=.lst []) nl0;rw [zq];refine ⟨l,l0,_,rfl,rfl,SqL.of (s2 _ _ hl),SqL.of h0,_,rfl,?_⟩;refine b9 (by rw [ets];rfl) ?_;have s12:=s1.trans s2;have ok2:=ok.mono s12;exact ⟨_,rfl,_,rfl,p,d,ps,ds,kvs,ks,f,co,N,rfl,ok2.net,ok2.nd,ok2.hd,ok2.tb,ok2.nk,fO ok2.lk (by decide),sub,hco,sm,bN,hN,λ r H' nr s' fr=>k r H' (s12.free nr) (s12.trans s') fr⟩
inductive IspName (vs:List V) (H:Hp) (Q:VK):Prop
 | mk (k c:Int) (h1:vs=[.int k,.int c]) (h2:0<=k) (h3:k<37) (h4:Q (.str (cV k c)) H):IspName vs H Q
noncomputable def spName:Sp:=λ vs H Q _=>IspName vs H Q
theorem one_len {c:Nat}:(⟨#[c]⟩:Str).length=1:=rfl
theorem sm_lt {z:Int} {n:Nat} (h:z.natAbs<1000):Sm z:=Sm.of_le (n:=10) (by omega) (by decide)
theorem ok_law_name (T:TX K mg a):FnB P w K mg base CX0 "_law_name" 1 ["_law_k","_law_cell"] spName:=by
 refine T.d_law_name.ok sc_law_name (λ vs H Q E h=>?_) (λ f cdv A outer s H vs Q E hr h=>?_)
 ·obtain ⟨k,c,rfl,_⟩:=h;rfl
 ·obtain ⟨i,c,rfl,h0,h1,k⟩:=h
  refine ⟨_,(af (al (i:=2) sc_law_name.nd rfl (Or.inl rfl) bh)
   (af (al (i:=0) sc_law_name.nd rfl (Or.inl rfl) (aj aJ (aj aY (aj aP (pv 0) (aj aY ac (aj aJ (aj aR (pv 1) ac) ac))) (aj aR (pv 1) ac)) ac))
   (af (aD (ar bO (aj aJ (pv 1) ac) ac (aA _)) (ag (aq (aj eN (ao ix_str (pv 2) (aj aJ (aj aR (pv 1) ac) ac) (λ _ _=>rfl)) (aj aY (pv 0) ac)))) ap)
   (ag (aq (aj op_add_str (aj op_add_str (aj eN bh (aj aJ (aj aR (pv 1) ac) ac)) (ao ix_str (pv 2) (pv 0) (λ _ _=>rfl))) (aj eN bh (aj aJ (aj aR (pv 1) ac) ac)))))))),?_⟩
  try dsimp only [aG,Cx.nox,Cx.wish]
  have m1:=ii (c / 5) (show (36:Int)≠0 by decide);have m2:=g6 (c / 5) (show (0:Int)<36 by decide);have q1:=ii (c / 3) (show (25:Int)≠0 by decide);have q2:=g6 (c / 3) (show (0:Int)<25 by decide);have r1:=ii (c / 75) (show (25:Int)≠0 by decide);have r2:=g6 (c / 75) (show (0:Int)<25 by decide);have p1:=ii (c / 3) (show (37:Int)≠0 by decide);have p2:=g6 (c / 3) (show (0:Int)<37 by decide);obtain ⟨t1,t2⟩:=eV i c;walk_at "rd"
  refine ⟨⟨sm_lt (n:=0) (by omega),sm_lt (n:=0) (by omega)⟩,?_⟩;walk_at "rd"
  refine ifV (λ h2=>?_) (λ h2=>?_)
  ·unfold cV at k;rw [if_pos h2] at k;walk_at "rd"
   refine ⟨by rw [gc];decide,sgAt_some p1 p2,?_⟩;walk_at "rd"
   have t2':dz i c+1<1000:=by omega
   refine ⟨show (dz i c+1).natAbs<1000 by omega,?_⟩;exact k
  ·unfold cV at k;rw [if_neg h2] at k;have l:=nameOf_len i c;have x1:("x":Str)=⟨#[120]⟩:=by decide +kernel
   have l1:(Txt.mul ("x":Str) (c / 3 % 25)).length<=25:=by rw [x1,len_cps,eo,gI];omega
   have l2:(Txt.mul ("x":Str) (c / 75 % 25)).length<=25:=by rw [x1,len_cps,eo,gI];omega
   walk_at "rd"
   refine ⟨by omega,?_⟩;walk_at "rd"
   refine ⟨by rw [gc];decide,sgAt_some t1 t2,?_⟩;walk_at "rd"
   refine ⟨by rw [gc,one_len];omega,?_⟩;walk_at "rd"
   refine ⟨by omega,?_⟩;walk_at "rd"
   refine ⟨by rw [gc,PySem.strLen_append,one_len];omega,?_⟩;exact k
theorem aT (x:Int) {m:Int} (h:0<m):0<=x % m/\x % m<m:=⟨ii x (by omega),g6 x h⟩
theorem turnK_inj {i j c:Int} (i0:0<=i) (i1:i<37) (j0:0<=j) (j1:j<37) (h:dz i c=dz j c):i=j:=by
 unfold dz at h;obtain ⟨m1,m2⟩:=aT (c / 5) (show (0:Int)<36 by decide);generalize c / 5 % 36=m at *;generalize c / 180=d at *
 have h1:(37:Int)∣(i-j)*(1+m):=by
  have:(i-j)*(1+m)=(i*(1+m)+d)-(j*(1+m)+d):=by rw [Int.sub_mul];omega
  rw [this];generalize i*(1+m)+d=u at *;generalize j*(1+m)+d=v at *;omega
 have cop:∀ m<37,0<m->Nat.gcd 37 m=1:=by decide
 have h2:37∣(i-j).natAbs*(1+m).natAbs:=by rw [<- gu];exact Int.natAbs_dvd_natAbs.mpr h1
 have h3:37∣(i-j).natAbs:=Nat.Coprime.dvd_of_dvd_mul_right (cop _ (by omega) (by omega)) h2;have h4:=Nat.eq_zero_of_dvd_of_lt h3 (by omega);omega
theorem nameOf_inj {i j c:Int} (i0:0<=i) (i1:i<37) (j0:0<=j) (j1:j<37) (h:cV i c=cV j c):i=j:=by
 obtain ⟨a1,a2⟩:=eV i c;obtain ⟨b1,b2⟩:=eV j c;refine turnK_inj (c:=c) i0 i1 j0 j1 ?_;unfold cV at h
 split at h
 ·have:=gK (λ u:Str=>u.cps.toList.length) h
  simp only [eo,gI] at this;omega
 ·have:=app_left (app_right h)
  injection this with e
  have e2:sgAt (dz i c)=sgAt (dz j c):=by simpa using e
  have:=sgAt_inj _ (by omega) _ (by omega) e2
  omega
noncomputable def aS (c:Int) (n:Nat):List Str:=(List.range n).map λ i:Nat=>cV (i:Int) c
theorem namesOf_nd {c:Int} {n:Nat} (h:n<=37):(aS c n).Nodup:=by
 unfold aS;rw [List.nodup_iff_pairwise_ne,List.pairwise_map];refine (List.nodup_range (n:=n)).imp_of_mem ?_;intro i j hi hj ne e;have hi:=List.mem_range.mp hi;have hj:=List.mem_range.mp hj
 have:=nameOf_inj (by omega) (by omega) (by omega) (by omega) e
 omega
theorem cQ (c:Int) (n:Nat):(aS c n).length=n:=by unfold aS;simp
theorem fu (c:Int) (n:Nat):aS c (n+1)=aS c n++[cV (n:Int) c]:=by unfold aS;rw [List.range_succ,gj];rfl
theorem eS {sp:List Str} {j:Nat} {x:Str} (h:sp[j]?=some x):atI (sp.map V.str) (j:Int)=some (.str x):=atI_nat (by rw [fN,h];rfl)
noncomputable def DueIs (H:Hp) (v:V) (c:Int × Int):Prop:=∃ t,v=.ref t/\H t=some (.tup [.int c.1,.int c.2])
theorem DueIs.mono {H H':Hp} {v:V} {c:Int × Int} (h:DueIs H v c) (s:Same H H'):DueIs H' v c:=by
 obtain ⟨t,e,f⟩:=h
 exact ⟨t,e,s _ _ f⟩
noncomputable def OptIs (H:Hp) (v:V):Option (Int × Int)->Prop
 | none=>v=.non
 | some c=>DueIs H v c
theorem OptIs.mono {H H':Hp} {v:V} {o:Option (Int × Int)} (h:OptIs H v o) (s:Same H H'):OptIs H' v o:=by
 cases o with
 | none=>exact h
 | some c=>exact DueIs.mono h s
structure KeepO (H H':Hp):Prop where
 tup:∀ b xs,H b=some (.tup xs)->H' b=some (.tup xs)
 ins:∀ b C dx fs,H b=some (.ins C dx fs)->H' b=some (.ins C dx fs)
theorem KeepO.lst {H:Hp} {l:Addr} {xs:List V} {o:HO} (h:H l=some (.lst xs)):KeepO H (upd H l o):=⟨λ b ys e=>by rw [ai (bS e h (by intro z;cases z))];exact e,λ b C dx fs e=>by rw [ai (bS e h (by intro z;cases z))];exact e⟩
theorem KeepO.dct {H:Hp} {l:Addr} {xs:List (Key × V)} {o:HO} (h:H l=some (.dK xs)):KeepO H (upd H l o):=⟨λ b ys e=>by rw [ai (bS e h (by intro z;cases z))];exact e,λ b C dx fs e=>by rw [ai (bS e h (by intro z;cases z))];exact e⟩
theorem DueIs.ko {H H':Hp} {v:V} {c:Int × Int} (h:DueIs H v c) (s:KeepO H H'):DueIs H' v c:=by
 obtain ⟨t,e,f⟩:=h
 exact ⟨t,e,s.tup _ _ f⟩
theorem OptIs.ko {H H':Hp} {v:V} {o:Option (Int × Int)} (h:OptIs H v o) (s:KeepO H H'):OptIs H' v o:=by
 cases o with
 | none=>exact h
 | some c=>exact DueIs.ko h s
theorem FrIs.ko {H H':Hp} {v:V} {x:Rat} (h:FrIs a H v x) (s:KeepO H H'):FrIs a H' v x:=by
 obtain ⟨q,e,d,f⟩:=h
 exact ⟨q,e,d,s.ins _ _ _ _ f⟩
theorem PlIs.ko {H H':Hp} {v:V} {p:Str × Rat} (h:PlIs a H v p) (s:KeepO H H'):PlIs a H' v p:=by
 obtain ⟨t,q,e,h1,d,f⟩:=h
 exact ⟨t,q,e,s.tup _ _ h1,d,s.ins _ _ _ _ f⟩
theorem WayIs.ko {H H':Hp} {v:V} {x:WD} (h:WayIs a H v x) (s:KeepO H H'):WayIs a H' v x:=h.keep λ b C dx fs _ e=>s.ins b C dx fs e
noncomputable def vC (c:Int × Int):Rat:=Rat.divInt c.1 c.2
structure R7 where
 kd:Int
 st:Nat
 go:Nat
 gain:Int × Int
 put:Option (Int × Int)
 hi:Option (Int × Int)
 co:Int × Int
noncomputable def R7Is (H:Hp) (v:V) (r:R7):Prop:=∃ p vg vp vh vc,v=.ref p/\H p=some (.tup [.int r.kd,.int r.st,.int r.go,vg,vp,vh,vc])/\DueIs H vg r.gain/\OptIs H vp r.put/\OptIs H vh r.hi/\DueIs H vc r.co
theorem R7Is.mono {H H':Hp} {v:V} {r:R7} (h:R7Is H v r) (s:Same H H'):R7Is H' v r:=by
 obtain ⟨p,vg,vp,vh,vc,e,f,h1,h2,h3,h4⟩:=h
 exact ⟨p,vg,vp,vh,vc,e,s _ _ f,h1.mono s,h2.mono s,h3.mono s,h4.mono s⟩
theorem R7Is.ko {H H':Hp} {v:V} {r:R7} (h:R7Is H v r) (s:KeepO H H'):R7Is H' v r:=by
 obtain ⟨p,vg,vp,vh,vc,e,f,h1,h2,h3,h4⟩:=h
 exact ⟨p,vg,vp,vh,vc,e,s.tup _ _ f,h1.ko s,h2.ko s,h3.ko s,h4.ko s⟩
structure R7Ok (n:Nat) (r:R7):Prop where
 st:r.st<n
 go:r.go<n
 ne:r.st≠r.go
 k0:r.kd=0->r.gain=(1,1)
 k3:r.kd=0∨r.kd=1∨r.kd=2
 g1:1<=r.gain.1/\r.gain.1<=9
 g2:1<=r.gain.2/\r.gain.2<=10
 gl:r.kd=2->r.gain.1<r.gain.2
 gd:(2520:Int) % r.gain.2=0
 pt:∀ c,r.put=some c->c.1.natAbs<=2 ^ 150/\1<=c.2/\c.2<=6
 hi:∀ c,r.hi=some c->0<=c.1/\c.1.natAbs<=2 ^ 200/\1<=c.2/\c.2<=100
 co:1<=r.co.2/\r.co.2<=4/\r.co.1.natAbs<=100
inductive IspMixA (K:W.Frag) (vs:List V) (H:Hp) (Q:VK):Prop
 | mk (l:Addr) (ns:List Int) (k:Nat) (h1:vs=[.ref l,.int (k:Int)]) (h2:SqL K H l (ns.map V.int)) (h3:k<=100) (h4:∀ m:Int,Q (.int m) H):IspMixA K vs H Q
noncomputable def spMixA (K:W.Frag):Sp:=λ vs H Q _=>IspMixA K vs H Q
theorem eO (T:TX K mg a):FnB P w K mg base CX0 "_law_mix" 2 ["_law_script","_law_k"] (spMixA K):=by
 refine T.d_law_mix.ok sc_law_mix (λ vs H Q E h=>?_) (λ f cdv A outer s H vs Q E hr h=>?_)
 ·obtain ⟨_,_,_,rfl,_⟩:=h;rfl
 ·obtain ⟨l,ns,j,rfl,hS,hj,k⟩:=h
  refine ⟨_,(ax (aD (PW.pt (dk (ar op_gt (aC aW (by rfl) T.z_len gM (aa (pv 0) ad)) ac (aA _)) (cq (ar bO (aj aJ (ao au (pv 0) ac (λ _ _=>rfl)) ac) ac (aA _))))) (ag (aq (ao au (pv 0) (aj aJ (pv 1) (aC aW (by rfl) T.z_len gM (aa (pv 0) ad))) (λ _ _=>rfl)))) ap)
   (ag (aq (aj aJ (aj op_mul (aj aJ (aj op_mul (aj aY (aj aY (aw (aO T) hr ak (aa (pv 0) (aa (pv 1) ad))) (aj op_mul (aj op_mul ac (pv 1)) (pv 1))) ac) ac) ac) ac) ac)))),?_⟩
  try dsimp only [aG,Cx.nox,Cx.wish]
  have get:∀ j:Int,0<=j->j<ns.length->∃ c,atI (ns.map V.int) j=some (.int c):=λ j h0 h1=>by
   obtain ⟨n,rfl⟩:=gH h0;have hn:n<ns.length:=by omega
   exact ⟨ns[n],atI_nat (by rw [fN,fF hn];rfl)⟩
  refine ⟨λ σ' H'=>σ'=[some (.ref l),some (.int j)]/\H'=H,?_,?_⟩
  ·refine ⟨_,rfl,l,_,rfl,.inl hS,_,_,rfl,rfl,_,rfl,?_⟩;rw [fG];refine ifB (λ hlt=>?_) (λ hge=>⟨rfl,rfl⟩);have hp:(0:Int)<ns.length:=hlt;obtain ⟨c,hc⟩:=get 0 (by decide) hp;refine ⟨_,rfl,l,_,_,_,rfl,rfl,hS,hc,_,_,rfl,rfl,zI2,rfl,_,rfl,ifV (λ h1=>?_) (λ h1=>⟨rfl,rfl⟩)⟩;obtain ⟨e0,e1⟩:=aT (j:Int) hp;obtain ⟨c2,hc2⟩:=get _ e0 e1;exact ⟨_,rfl,_,rfl,_,rfl,l,_,rfl,.inl hS,_,_,rfl,rfl,by rw [fG];exact hp,l,_,_,_,rfl,rfl,hS,by rw [fG];exact hc2,k c2⟩
  rintro σ' H' ⟨rfl,rfl⟩;have h1:(j:Int)*j<=100*100:=Int.mul_le_mul (by omega) (by omega) (by omega) (by decide);refine ⟨_,rfl,_,rfl,l,ns,j,rfl,hS,_,rfl,_,_,rfl,rfl,.inl ⟨by decide,by decide⟩,_,rfl,_,_,rfl,rfl,.inr ⟨by omega,by omega⟩,_,_,rfl,rfl,_,_,rfl,rfl,_,_,rfl,rfl,.inr ⟨by decide,by decide⟩,_,_,rfl,rfl,zI2147483647,_,_,rfl,rfl,.inr ⟨by decide,by decide⟩,_,_,rfl,rfl,zI1000000007,?_⟩;exact k _
inductive IspPlus (vs:List V) (H:Hp) (Q:VK):Prop
 | mk (p q:Addr) (n d m e:Int) (h1:vs=[.ref p,.ref q]) (h2:H p=some (.tup [.int n,.int d])) (h3:H q=some (.tup [.int m,.int e])) (h4:Sm n) (h5:Sm d) (h6:Sm m) (h7:Sm e) (h8:∀ r,H r=none->Q (.ref r) (upd H r (.tup [.int (n*e+m*d),.int (d*e)]))):IspPlus vs H Q
noncomputable def spPlus (K:W.Frag):Sp:=λ vs H Q _=>IspPlus vs H Q
theorem cO (T:TX K mg a):FnB P w K mg base CX0 "_law_plus" 1 ["_law_one","_law_other"] (spPlus K):=by
 refine T.d_law_plus.ok sc_law_plus (λ vs H Q E h=>?_) (λ f cdv A outer s H vs Q E hr h=>?_)
 ·obtain ⟨_,_,_,_,_,_,rfl,_⟩:=h;rfl
 ·obtain ⟨p,q,n,d,m,e,rfl,hp,hq,sn,sd,sm,se,k⟩:=h;refine ⟨_,(ag (aq (aF (aa (aj aY (aj aP (ao aB (pv 0) ac (λ _ _=>rfl)) (ao aB (pv 1) ac (λ _ _=>rfl))) (aj aP (ao aB (pv 1) ac (λ _ _=>rfl)) (ao aB (pv 0) ac (λ _ _=>rfl)))) (aa (aj aP (ao aB (pv 0) ac (λ _ _=>rfl)) (ao aB (pv 1) ac (λ _ _=>rfl))) ad))))),?_⟩;try dsimp only [aG,Cx.nox,Cx.wish]
  refine ⟨_,rfl,p,_,_,_,rfl,rfl,SqT.of hp,rfl,_,rfl,q,_,_,_,rfl,rfl,SqT.of hq,rfl,_,_,rfl,rfl,⟨sn,se⟩,?_⟩;refine ⟨_,rfl,q,_,_,_,rfl,rfl,SqT.of hq,rfl,_,rfl,p,_,_,_,rfl,rfl,SqT.of hp,rfl,_,_,rfl,rfl,⟨sm,sd⟩,_,_,rfl,rfl,?_⟩;refine ⟨_,rfl,p,_,_,_,rfl,rfl,SqT.of hp,rfl,_,rfl,q,_,_,_,rfl,rfl,SqT.of hq,rfl,_,_,rfl,rfl,⟨sd,se⟩,zL2,λ r nr=>k r nr⟩
inductive IspTimes (vs:List V) (H:Hp) (Q:VK):Prop
 | mk (p q:Addr) (n d m e:Int) (h1:vs=[.ref p,.ref q]) (h2:H p=some (.tup [.int n,.int d])) (h3:H q=some (.tup [.int m,.int e])) (h4:Sm n) (h5:Sm d) (h6:Sm m) (h7:Sm e) (h8:∀ r,H r=none->Q (.ref r) (upd H r (.tup [.int (n*m),.int (d*e)]))):IspTimes vs H Q
noncomputable def spTimes (K:W.Frag):Sp:=λ vs H Q _=>IspTimes vs H Q
theorem bq (T:TX K mg a):FnB P w K mg base CX0 "_law_times" 1 ["_law_one","_law_other"] (spTimes K):=by
 refine T.d_law_times.ok sc_law_times (λ vs H Q E h=>?_) (λ f cdv A outer s H vs Q E hr h=>?_)
 ·obtain ⟨_,_,_,_,_,_,rfl,_⟩:=h;rfl
 ·obtain ⟨p,q,n,d,m,e,rfl,hp,hq,sn,sd,sm,se,k⟩:=h;refine ⟨_,(ag (aq (aF (aa (aj aP (ao aB (pv 0) ac (λ _ _=>rfl)) (ao aB (pv 1) ac (λ _ _=>rfl))) (aa (aj aP (ao aB (pv 0) ac (λ _ _=>rfl)) (ao aB (pv 1) ac (λ _ _=>rfl))) ad))))),?_⟩;try dsimp only [aG,Cx.nox,Cx.wish]
  refine ⟨_,rfl,p,_,_,_,rfl,rfl,SqT.of hp,rfl,_,rfl,q,_,_,_,rfl,rfl,SqT.of hq,rfl,_,_,rfl,rfl,⟨sn,sm⟩,?_⟩;refine ⟨_,rfl,p,_,_,_,rfl,rfl,SqT.of hp,rfl,_,rfl,q,_,_,_,rfl,rfl,SqT.of hq,rfl,_,_,rfl,rfl,⟨sd,se⟩,zL2,λ r nr=>k r nr⟩
inductive IspHigh (vs:List V) (H:Hp) (Q:VK):Prop
 | mk (v:V) (o:Option (Int × Int)) (mode c:Int) (h1:vs=[v,.int mode,.int c]) (h2:OptIs H v o) (h3:(∀ z,o=some z->z.1.natAbs<=2 ^ 150/\1<=z.2/\z.2<=6)) (h4:∀ v' o' H',Same H H'->OptIs H' v' o'->(∀ z,o'=some z->0<=z.1/\z.1.natAbs<=2 ^ 200/\1<=z.2/\z.2<=100)->Q v' H'):IspHigh vs H Q
noncomputable def spHigh (K:W.Frag):Sp:=λ vs H Q _=>IspHigh vs H Q
theorem ok_law_high (T:TX K mg a):FnB P w K mg base CX0 "_law_high" 2 ["_law_put","_law_mode","_law_cell"] (spHigh K):=by
 refine T.d_law_high.ok sc_law_high (λ vs H Q E h=>?_) (λ f cdv A outer s H vs Q E hr h=>?_)
 ·obtain ⟨_,_,_,_,rfl,_⟩:=h;rfl
 ·obtain ⟨v,o,mode,c,rfl,hv,ho,k⟩:=h
  refine ⟨_,(ax (aD (ar op_isN (pv 0) bG (aA _)) (ag (al (i:=0) sc_law_high.nd rfl (Or.inl rfl) (aF (aa ac (aa ac ad))))) ap)
   (af (aD (ar bO (aj aJ (pv 2) ac) ac (aA _)) (ag (aq bG)) ap)
   (ax (al (i:=3) sc_law_high.nd rfl (Or.inl rfl) (ao au (cT (aa (aF (aa ac (aa ac ad))) (aa (aF (aa ac (aa ac ad))) (aa (aF (aa (pe_un un_neg ac) (aa ac ad))) (aa (aF (aa ac (aa ac ad))) ad))))) (aj aJ (pv 2) ac) (λ _ _=>rfl)))
   (ax (aD (ar dX (pv 1) ac (aA _)) (ag (al (i:=3) sc_law_high.nd rfl (Or.inl rfl) (aF (aa (aC cH (by rfl) T.z_abs g9 (aa (ao aB (pv 3) ac (λ _ _=>rfl)) ad)) (aa (ao aB (pv 3) ac (λ _ _=>rfl)) ad))))) ap)
   (af (al (i:=4) sc_law_high.nd rfl (Or.inl rfl) (aw (cO T) hr ak (aa (pv 0) (aa (pv 3) ad))))
   (af (aD (ar dX (ao aB (pv 4) ac (λ _ _=>rfl)) ac (aA _)) (ag (aq (aF (aa ac (aa ac ad))))) ap)
   (ag (aq (pv 4))))))))),?_⟩
  try dsimp only [aG,Cx.nox,Cx.wish]
  refine ⟨λ σ' H'=>∃ (p:Addr) (z:Int × Int) (z3 z4:Option V),σ'=[some (.ref p),some (.int mode),some (.int c),z3,z4]/\Same H H'/\H' p=some (.tup [.int z.1,.int z.2])/\z.1.natAbs<=2 ^ 150/\1<=z.2/\z.2<=6,?_,?_⟩
  ·walk_at "rd"
   cases o with
   | none=>
    refine eD (fV hv) ⟨zL2,λ p np=>?_⟩;exact ⟨p,(0,1),_,_,rfl,ay np,ae,by decide,by decide,by decide⟩
   | some z=>
    obtain ⟨p,rfl,hp⟩:=hv;refine b9 (fU (by nofun)) ?_;obtain ⟨z1,z2,z3⟩:=ho z rfl;exact ⟨p,z,_,_,rfl,Same.refl _,hp,z1,z2,z3⟩
  rintro σ' H1 ⟨p,z,z3,z4,rfl,s1,hp,b1,b2,b3⟩;refine ⟨_,rfl,_,_,rfl,rfl,zI5,rfl,_,rfl,ifV (λ h5=>?_) (λ h5=>?_)⟩
  ·exact k .non none H1 s1 rfl (by nofun)
  refine ⟨λ σ' H'=>∃ (q:Addr) (y:Int × Int) (z4:Option V),σ'=[some (.ref p),some (.int mode),some (.int c),some (.ref q),z4]/\Same H1 H'/\H' q=some (.tup [.int y.1,.int y.2])/\y.1.natAbs<=1/\1<=y.2/\y.2<=9,?_,?_⟩
  ·obtain ⟨e0,e1⟩:=aT c (show (0:Int)<4 by decide);obtain ⟨j,hj⟩:=gH e0;refine ⟨zL2,λ t0 n0=>?_⟩;obtain ⟨G0,zq,S0,m0⟩:=uG (o:=.tup [.int 0,.int 1]) n0;rw [zq];refine ⟨zL2,λ t1 n1=>?_⟩;obtain ⟨G1,zq,S1,m1⟩:=uG (o:=.tup [.int 1,.int 9]) n1;rw [zq];refine ⟨_,rfl,zL2,λ t2 n2=>?_⟩;obtain ⟨G2,zq,S2,m2⟩:=uG (o:=.tup [.int (-1),.int 9]) n2;rw [zq];refine ⟨zL2,λ t3 n3=>?_⟩;obtain ⟨G3,zq,S3,m3⟩:=uG (o:=.tup [.int 0,.int 1]) n3;rw [zq];refine ⟨zL4,λ q nq=>?_⟩;obtain ⟨G4,zq,S4,ml⟩:=uG (o:=.lst [.ref t0,.ref t1,.ref t2,.ref t3]) nq;rw [zq];have ss:=S0.trans (S1.trans (S2.trans (S3.trans S4)))
   have ex:∃ (u:Addr) (y:Int × Int),atI [V.ref t0,.ref t1,.ref t2,.ref t3] (c % 4)=some (.ref u)/\G4 u=some (.tup [.int y.1,.int y.2])/\y.1.natAbs<=1/\1<=y.2/\y.2<=9:=by
    rw [hj]
    match j,hj with
    | 0,_=>exact ⟨t0,(0,1),atI_nat rfl,S4 _ _ (S3 _ _ (S2 _ _ (S1 _ _ m0))),by decide,by decide,by decide⟩
    | 1,_=>exact ⟨t1,(1,9),atI_nat rfl,S4 _ _ (S3 _ _ (S2 _ _ m1)),by decide,by decide,by decide⟩
    | 2,_=>exact ⟨t2,(-1,9),atI_nat rfl,S4 _ _ (S3 _ _ m2),by decide,by decide,by decide⟩
    | 3,_=>exact ⟨t3,(0,1),atI_nat rfl,S4 _ _ m3,by decide,by decide,by decide⟩
    | j+4,hj=>omega
   obtain ⟨u,y,a4,hu,y1,y2,y3⟩:=ex;refine ⟨_,rfl,_,_,rfl,rfl,zI4,q,_,_,_,rfl,rfl,SqL.of ml,a4,?_⟩;exact ⟨u,y,_,rfl,ss,hu,y1,y2,y3⟩
  rintro σ' H2 ⟨q,y,z4,rfl,s2,hq,y1,y2,y3⟩;refine ⟨λ σ' H'=>∃ (q:Addr) (y:Int × Int) (z4:Option V),σ'=[some (.ref p),some (.int mode),some (.int c),some (.ref q),z4]/\Same H1 H'/\H' q=some (.tup [.int y.1,.int y.2])/\y.1.natAbs<=1/\1<=y.2/\y.2<=9,?_,?_⟩
  ·refine ⟨_,rfl,_,_,rfl,rfl,_,rfl,ifB (λ hm=>?_) (λ hm=>⟨q,y,_,rfl,s2,hq,y1,y2,y3⟩)⟩;refine ⟨_,rfl,q,_,_,_,rfl,rfl,SqT.of hq,rfl,_,rfl,_,rfl,q,_,_,_,rfl,rfl,SqT.of hq,rfl,zL2,λ r nr=>?_⟩;exact ⟨r,(if y.1<0 then -y.1 else y.1,y.2),_,rfl,s2.trans (ay nr),ae,by show (if y.1<0 then -y.1 else y.1).natAbs<=1;split <;> omega,y2,y3⟩
  rintro σ' H3 ⟨q,y,z4,rfl,s3,hq,y1,y2,y3⟩;have s13:=s1.trans s3;have p60:(2:Nat) ^ 150<=2 ^ 160:=by decide
  refine ⟨_,rfl,_,rfl,p,q,_,_,_,_,rfl,s3 _ _ hp,hq,Sm.of_le b1 (by decide),Sm.of_le (n:=10) (by omega) (by decide),Sm.of_le (n:=10) (by omega) (by decide),Sm.of_le (n:=10) (by omega) (by decide),λ r nr=>?_⟩;obtain ⟨H4,zq,s4,hr4⟩:=uG (o:=.tup [.int (z.1*y.2+y.1*z.2),.int (z.2*y.2)]) nr;rw [zq];refine ⟨_,rfl,r,_,_,_,rfl,rfl,SqT.of hr4,rfl,_,_,rfl,rfl,_,rfl,ifB (λ hn=>?_) (λ hn=>?_)⟩
  ·refine ⟨zL2,λ u nu=>k (.ref u) (some (0,1)) _ (s13.trans (s4.trans (ay nu))) ⟨u,rfl,ae⟩ λ z hz=>?_⟩
   cases hz;exact ⟨by decide,by decide,by decide,by decide⟩
  ·refine ⟨_,rfl,k (.ref r) (some (z.1*y.2+y.1*z.2,z.2*y.2)) H4 (s13.trans s4) ⟨r,rfl,hr4⟩ λ x hx=>?_⟩
   cases hx;have hn:¬ (z.1*y.2+y.1*z.2)<0:=hn;have q1:1*1<=z.2*y.2:=Int.mul_le_mul b2 y2 (by decide) (by omega);have q2:z.2*y.2<=6*9:=Int.mul_le_mul b3 y3 (by omega) (by decide);refine ⟨by show 0<=z.1*y.2+y.1*z.2;omega,?_,by show 1<=z.2*y.2;omega,by show z.2*y.2<=100;omega⟩;have t:=(tot_bd (T:=z.1) (B:=z.2) (o:=y.2) (c:=y.1) (u:=z.2) (s:=150) (m:=4) b1 (fO (show z.2.natAbs<=2 ^ 3 by omega) (bv (by decide))) (by omega) (by omega) (fM _)).1;exact fO t (bv (by decide))
inductive IspRow (vs:List V) (H:Hp) (Q:VK):Prop
 | mk (c mode far:Int) (n:Nat) (h1:vs=[.int c,.int n,.int mode,.int far]) (h2:2<=n) (h3:n<=1000) (h4:far.natAbs<=2 ^ 140) (h5:∀ v r H',Same H H'->R7Is H' v r->R7Ok n r->Q v H'):IspRow vs H Q
noncomputable def spRow (K:W.Frag):Sp:=λ vs H Q _=>IspRow vs H Q
theorem goal_ne {n s u:Int} (s0:0<=s) (s1:s<n) (u0:0<=u) (u1:u<n-1):0<=(s+1+u) % n/\(s+1+u) % n<n/\s≠(s+1+u) % n:=by
 obtain ⟨e0,e1⟩:=aT (s+1+u) (show 0<n by omega);refine ⟨e0,e1,?_⟩;by_cases h:s+1+u<n
 ·rw [Int.emod_eq_of_lt (by omega) h];omega
 ·rw [show s+1+u=(s+1+u-n)+n by omega,Int.add_emod_right,Int.emod_eq_of_lt (by omega) (by omega)];omega
theorem ok_law_row (T:TX K mg a):FnB P w K mg base CX0 "_law_row" 3 ["_law_cell","_law_n","_law_mode","_law_far"] (spRow K):=by
 refine T.d_law_row.ok sc_law_row (λ vs H Q E h=>?_) (λ f cdv A outer s H vs Q E hr h=>?_)
 ·obtain ⟨_,_,_,_,rfl,_⟩:=h;rfl
 ·obtain ⟨c,mode,far,n,rfl,n2,n9,hfar,k⟩:=h
  refine ⟨_,(af (al (i:=4) sc_law_row.nd rfl (Or.inl rfl) (aj aJ (pv 0) (pv 1)))
   (af (al (i:=5) sc_law_row.nd rfl (Or.inl rfl) (aj aJ (aj aY (aj aY (pv 4) ac) (aj aJ (aj aR (pv 0) ac) (aj b6 (pv 1) ac))) (pv 1)))
   (af (al (i:=6) sc_law_row.nd rfl (Or.inl rfl) (aj aJ (aj aR (pv 0) ac) ac))
   (af (al (i:=7) sc_law_row.nd rfl (Or.inl rfl) (aF (aa ac (aa ac ad))))
   (ax (aD (ar bO (pv 6) ac (aA _)) (ag (al (i:=7) sc_law_row.nd rfl (Or.inl rfl) (aF (aa (aj aY ac (aj aJ (aj aR (pv 0) ac) ac)) (aa (aj aY ac (aj aJ (aj aR (pv 0) ac) ac)) ad))))) ap)
   (ax (aD (ar bO (pv 6) ac (aA _)) (ag (al (i:=7) sc_law_row.nd rfl (Or.inl rfl) (aF (aa (aj aY ac (aj aJ (aj aR (pv 0) ac) ac)) (aa ac ad))))) ap)
   (ax (al (i:=8) sc_law_row.nd rfl (Or.inl rfl) (aj aJ (aj op_mul (pv 0) ac) ac))
   (af (al (i:=9) sc_law_row.nd rfl (Or.inl rfl) (aF (aa (aj op_mul (aj b6 (aj aJ (pv 8) ac) ac) (pv 3)) (aa (aj aY ac (aj aJ (aj aR (pv 8) ac) ac)) ad))))
   (ax (aD (ar dX (pv 2) ac (aA _)) (ag (al (i:=9) sc_law_row.nd rfl (Or.inl rfl) (aF (aa (aC cH (by rfl) T.z_abs g9 (aa (ao aB (pv 9) ac (λ _ _=>rfl)) ad)) (aa (ao aB (pv 9) ac (λ _ _=>rfl)) ad))))) ap)
   (ax (aD (ar bO (aj aJ (aj aR (pv 8) ac) ac) ac (aA _)) (ag (al (i:=9) sc_law_row.nd rfl (Or.inl rfl) bG)) ap)
   (af (al (i:=10) sc_law_row.nd rfl (Or.inl rfl) (aF (aa (aj b6 (aj aJ (aj aR (pv 8) ac) ac) ac) (aa (aj aY ac (aj aJ (aj aR (pv 8) ac) ac)) ad))))
   (ag (aq (aF (aa (pv 6) (aa (pv 4) (aa (pv 5) (aa (pv 7) (aa (pv 9) (aa (aw (ok_law_high T) hr ak (aa (pv 9) (aa (pv 2) (aa (aj aR (pv 8) ac) ad)))) (aa (pv 10) ad))))))))))))))))))))),?_⟩
  try dsimp only [aG,Cx.nox,Cx.wish]
  have np:(0:Int)<n:=by omega
  have np1:(0:Int)<(n:Int)-1:=by omega
  obtain ⟨s0,s1⟩:=aT c np;obtain ⟨u0,u1⟩:=aT (c / 14) np1;obtain ⟨g0,g1,gne⟩:=goal_ne s0 s1 u0 u1;obtain ⟨k0,k1⟩:=aT (c / 10710) (show (0:Int)<3 by decide);obtain ⟨st,hst⟩:=gH s0;obtain ⟨go,hgo⟩:=gH g0;obtain ⟨x0,x1⟩:=aT (c / 170) (show (0:Int)<9 by decide);obtain ⟨y0,y1⟩:=aT (c / 1530) (show (0:Int)<7 by decide);walk_at "rd"
  refine ⟨zL2,λ g ng=>?_⟩;generalize hkd:c / 10710 % 3=kd at k0 k1;refine ⟨λ σ' H'=>∃ (g:Addr) (gn:Int × Int) (z8 z9 z10:Option V),σ'=[some (.int c),some (.int n),some (.int mode),some (.int far),some (.int (c % n)),some (.int ((c % n+1+c / 14 % (n-1)) % n)),some (.int (c / 10710 % 3)),some (.ref g),z8,z9,z10]/\Same H H'/\H' g=some (.tup [.int gn.1,.int gn.2])/\(kd≠1->gn=(1,1))/\1<=gn.1/\gn.1<=9/\1<=gn.2/\gn.2<=7,?_,?_⟩
  ·obtain ⟨H1,zq,s1,hg⟩:=uG (o:=.tup [.int 1,.int 1]) ng;rw [zq];refine ⟨_,rfl,rfl,_,rfl,ifV (λ h1=>?_) (λ h1=>?_)⟩
   ·refine ⟨_,rfl,_,_,rfl,rfl,⟨by decide,by decide⟩,_,_,rfl,rfl,zI9,_,_,rfl,rfl,_,rfl,_,_,rfl,rfl,⟨by decide,by decide⟩,_,_,rfl,rfl,zI7,_,_,rfl,rfl,zL2,λ r nr=>?_⟩;exact ⟨r,(1+c / 170 % 9,1+c / 1530 % 7),_,_,_,rfl,s1.trans (ay nr),ae,λ z=>absurd (hkd.symm.trans h1) z,by show 1<=1+c / 170 % 9;omega,by show 1+c / 170 % 9<=9;omega,by show 1<=1+c / 1530 % 7;omega,by show 1+c / 1530 % 7<=7;omega⟩
   ·exact ⟨g,(1,1),_,_,_,rfl,s1,hg,λ _=>rfl,by decide,by decide,by decide,by decide⟩
  rintro σ' H1 ⟨g,gn,z8,z9,z10,rfl,s1,hg,gk,g1',g2',g3',g4'⟩;refine ⟨λ σ' H'=>∃ (g:Addr) (gn:Int × Int) (z8 z9 z10:Option V),σ'=[some (.int c),some (.int n),some (.int mode),some (.int far),some (.int (c % n)),some (.int ((c % n+1+c / 14 % (n-1)) % n)),some (.int (c / 10710 % 3)),some (.ref g),z8,z9,z10]/\Same H H'/\H' g=some (.tup [.int gn.1,.int gn.2])/\(kd=0->gn=(1,1))/\(kd=2->gn.1<gn.2)/\(1<=gn.1/\gn.1<=9)/\(1<=gn.2/\gn.2<=10)/\(2520:Int) % gn.2=0,?_,?_⟩
  ·refine ⟨_,rfl,rfl,_,rfl,ifV (λ h1=>?_) (λ h1=>?_)⟩
   ·refine ⟨_,rfl,_,_,rfl,rfl,⟨by decide,by decide⟩,_,_,rfl,rfl,zI9,_,_,rfl,rfl,zL2,λ r nr=>?_⟩;have e2:kd=2:=hkd.symm.trans h1;exact ⟨r,(1+c / 170 % 9,10),_,_,_,rfl,s1.trans (ay nr),ae,λ z=>by omega,λ _=>by show 1+c / 170 % 9<10;omega,⟨by show 1<=1+c / 170 % 9;omega,by show 1+c / 170 % 9<=9;omega⟩,⟨by show (1:Int)<=10;decide,by show (10:Int)<=10;decide⟩,by show (2520:Int) % 10=0;decide⟩
   ·have h1:¬ c / 10710 % 3=2:=h1;refine ⟨g,gn,_,_,_,rfl,s1,hg,λ z=>gk (by omega),λ z=>absurd (hkd.trans z) h1,⟨g1',g2'⟩,⟨g3',by omega⟩,?_⟩;obtain ⟨ga,gb⟩:=gn;have q1:1<=gb:=g3';have q2:gb<=7:=g4';show (2520:Int) % gb=0
    have:gb=1∨gb=2∨gb=3∨gb=4∨gb=5∨gb=6∨gb=7:=by omega
    rcases this with rfl | rfl | rfl | rfl | rfl | rfl | rfl <;> decide
  rintro σ' H2 ⟨g,gn,z8,z9,z10,rfl,s2,hg,gk0,gk2,gb1,gb2,gb3⟩;refine ⟨λ σ' H'=>∃ (more:Int) (z9 z10:Option V),σ'=[some (.int c),some (.int n),some (.int mode),some (.int far),some (.int (c % n)),some (.int ((c % n+1+c / 14 % (n-1)) % n)),some (.int (c / 10710 % 3)),some (.ref g),some (.int more),z9,z10]/\H'=H2,?_,?_⟩
  ·exact ⟨_,rfl,_,_,rfl,rfl,.inr ⟨by decide,by decide⟩,_,_,rfl,rfl,zI998244353,_,_,_,rfl,rfl⟩
  rintro σ' H2' ⟨more,z9,z10,rfl,rfl⟩;obtain ⟨m0,m1⟩:=aT more (show (0:Int)<23 by decide);obtain ⟨m2,m3⟩:=aT (more / 23) (show (0:Int)<6 by decide);refine ⟨_,rfl,_,_,rfl,rfl,zI23,_,_,rfl,rfl,_,rfl,_,_,rfl,rfl,.inl ⟨by omega,by omega⟩,_,rfl,_,_,rfl,rfl,⟨by decide,by decide⟩,_,_,rfl,rfl,zI6,_,_,rfl,rfl,zL2,λ pt npt=>?_⟩
  have pb:((more % 23-8)*far).natAbs<=2 ^ 150:=by
   rw [gu];exact fO (hG (show (more % 23-8).natAbs<=2 ^ 10 by omega) hfar) (by rw [<- Nat.pow_add];exact fM _)
  refine ⟨λ σ' H'=>∃ (pt:Addr) (z:Int × Int) (z10:Option V),σ'=[some (.int c),some (.int n),some (.int mode),some (.int far),some (.int (c % n)),some (.int ((c % n+1+c / 14 % (n-1)) % n)),some (.int (c / 10710 % 3)),some (.ref g),some (.int more),some (.ref pt),z10]/\Same H2' H'/\H' pt=some (.tup [.int z.1,.int z.2])/\z.1.natAbs<=2 ^ 150/\1<=z.2/\z.2<=6,?_,?_⟩
  ·obtain ⟨H3,zq,s3,hp3⟩:=uG (o:=.tup [.int ((more % 23-8)*far),.int (1+more / 23 % 6)]) npt;rw [zq];refine ⟨_,rfl,_,_,rfl,rfl,_,rfl,ifB (λ hm=>?_) (λ hm=>?_)⟩
   ·refine ⟨_,rfl,pt,_,_,_,rfl,rfl,SqT.of hp3,rfl,_,rfl,_,rfl,pt,_,_,_,rfl,rfl,SqT.of hp3,rfl,zL2,λ r nr=>?_⟩;exact ⟨r,(if (more % 23-8)*far<0 then -((more % 23-8)*far) else (more % 23-8)*far,1+more / 23 % 6),_,rfl,s3.trans (ay nr),ae,by show (if (more % 23-8)*far<0 then -((more % 23-8)*far) else (more % 23-8)*far).natAbs<=_;split <;> omega,by show 1<=1+more / 23 % 6;omega,by show 1+more / 23 % 6<=6;omega⟩
   ·exact ⟨pt,((more % 23-8)*far,1+more / 23 % 6),_,rfl,s3,hp3,pb,by show 1<=1+more / 23 % 6;omega,by show 1+more / 23 % 6<=6;omega⟩
  rintro σ' H3 ⟨pt,z,z10,rfl,s3,hp3,b1,b2,b3⟩;refine ⟨λ σ' H'=>∃ (vp:V) (o:Option (Int × Int)) (z10:Option V),σ'=[some (.int c),some (.int n),some (.int mode),some (.int far),some (.int (c % n)),some (.int ((c % n+1+c / 14 % (n-1)) % n)),some (.int (c / 10710 % 3)),some (.ref g),some (.int more),some vp,z10]/\H'=H3/\OptIs H3 vp o/\(∀ z,o=some z->z.1.natAbs<=2 ^ 150/\1<=z.2/\z.2<=6),?_,?_⟩
  ·refine ⟨_,rfl,_,_,rfl,rfl,⟨by decide,by decide⟩,_,_,rfl,rfl,zI6,rfl,_,rfl,ifV (λ h1=>?_) (λ h1=>?_)⟩
   ·exact ⟨.non,none,_,rfl,rfl,rfl,by nofun⟩
   ·exact ⟨.ref pt,some z,_,rfl,rfl,⟨pt,rfl,hp3⟩,λ y hy=>by cases hy;exact ⟨b1,b2,b3⟩⟩
  rintro σ' H3' ⟨vp,o,z10',rfl,rfl,hvp,ho⟩;obtain ⟨w0,w1⟩:=aT (more / 248400) (show (0:Int)<4 by decide);obtain ⟨w2,w3⟩:=aT (more / 16560) (show (0:Int)<15 by decide);refine ⟨_,rfl,_,_,rfl,rfl,⟨by decide,by decide⟩,_,_,rfl,rfl,zI15,_,_,rfl,rfl,_,rfl,_,_,rfl,rfl,⟨by decide,by decide⟩,_,_,rfl,rfl,zI4,_,_,rfl,rfl,zL2,λ pc npc=>?_⟩;obtain ⟨H4,zq,s4,hpc⟩:=uG (o:=.tup [.int (more / 16560 % 15-7),.int (1+more / 248400 % 4)]) npc;rw [zq];refine ⟨_,rfl,_,rfl,_,rfl,_,rfl,_,rfl,_,rfl,_,rfl,_,rfl,_,_,rfl,rfl,⟨by decide,by decide⟩,vp,o,mode,_,rfl,hvp.mono s4,ho,λ vh oh H5 s5 hvh hoh=>?_⟩;refine ⟨_,rfl,zL7,λ p np'=>?_⟩;have s6:=ay (o:=.tup [.int (c / 10710 % 3),.int (c % n),.int ((c % n+1+c / 14 % (n-1)) % n),.ref g,vp,vh,.ref pc]) np';have s56:=s5.trans s6;refine k (.ref p) ⟨kd,st,go,gn,o,oh,(more / 16560 % 15-7,1+more / 248400 % 4)⟩ _ (s2.trans (s3.trans (s4.trans s56))) ⟨p,.ref g,vp,vh,.ref pc,rfl,?_,⟨g,rfl,s56 _ _ (s4 _ _ (s3 _ _ hg))⟩,(hvp.mono s4).mono s56,hvh.mono s6,⟨pc,rfl,s56 _ _ hpc⟩⟩ ⟨by show st<n;omega,by show go<n;omega,by show st≠go;omega,gk0,by show kd=0∨kd=1∨kd=2;omega,gb1,gb2,gk2,gb3,ho,hoh,⟨by show 1<=1+more / 248400 % 4;omega,by show 1+more / 248400 % 4<=4;omega,by show (more / 16560 % 15-7).natAbs<=100;omega⟩⟩;show _=some (HO.tup [V.int kd,V.int (st:Int),V.int (go:Int),.ref g,vp,vh,.ref pc]);rw [<- hst,<- hgo,<- hkd];exact ae
theorem RowAt.set {α:Type} {R:Hp->V->α->Prop} {H:Hp} {ts:List V} {xs:List α} {t:V} {x:α} (d:RowAt R H ts xs) (j:Nat) (h:R H t x):RowAt R H (ts.set j t) (xs.set j x):=by
 refine ⟨by rw [hV,hV,d.1],λ i u y h1 h2=>?_⟩;by_cases hj:j=i
 ·subst hj;have hi:=(fL.mp h1).1;have hi2:=(fL.mp h2).1;rw [hV] at hi hi2;rw [gS hi] at h1;rw [gS hi2] at h2
  cases h1
  cases h2;exact h
 ·rw [ia hj] at h1 h2;exact d.2 i u y h1 h2
theorem sum_snocR (xs:List Rat) (y:Rat):(xs++[y]).sum=xs.sum+y:=by
 induction xs with
 | nil=>show y+0=0+y;grind
 | cons x xs ih=>rw [List.cons_append,iu,iu,ih];grind
theorem ixN_nat {n j:Nat} (h:j<n):ixN n (j:Int)=some j:=by
 unfold ixN;rw [if_pos (by omega),if_pos (by omega)];rfl
noncomputable def rowS (r:R7) (k:Nat):Rat:=match r.put with | none=>0 | some c=>if k=r.go then Rat.divInt c.1 c.2*Rat.divInt r.gain.1 r.gain.2 else if k=r.st then -(Rat.divInt c.1 c.2) else 0
noncomputable def rowsS (rs:List R7) (k:Nat):Rat:=(rs.map λ r=>rowS r k).sum
theorem rowsS_snoc (rs:List R7) (r:R7) (k:Nat):rowsS (rs++[r]) k=rowsS rs k+rowS r k:=by
 unfold rowsS;rw [gj,gN,List.map_nil,sum_snocR]
structure SumAt (i:Nat) (rs:List R7) (k:Nat) (c:Int × Int):Prop where
 b1:c.1.natAbs<=2 ^ (160+8*i)
 b2:c.2.natAbs<=2 ^ (8*i)
 b3:1<=c.2
 eq:Rat.divInt c.1 c.2=rowsS rs k
theorem SumAt.skip {i:Nat} {rs:List R7} {k:Nat} {c:Int × Int} (h:SumAt i rs k c) {r:R7} (hv:rowS r k=0):SumAt (i+1) (rs++[r]) k c:=
 ⟨fO h.b1 (bv (by omega)),fO h.b2 (bv (by omega)),h.b3,by rw [rowsS_snoc,hv,h.eq];grind⟩
theorem SumAt.step {i:Nat} {rs:List R7} {k:Nat} {c:Int × Int} (h:SumAt i rs k c) {r:R7} {m e:Int} (h3:m.natAbs<=2 ^ 158) (h4:e.natAbs<=2 ^ 7) (e1:1<=e) (hv:Rat.divInt m e=rowS r k) :
  SumAt (i+1) (rs++[r]) k (c.1*e+m*c.2,c.2*e):=by
 have a1:(c.1*e).natAbs<=2 ^ (160+8*i+7):=by
  rw [gu,Nat.pow_add];exact hG h.b1 h4
 have a2:(m*c.2).natAbs<=2 ^ (160+8*i+7):=by
  rw [gu];refine fO (hG h3 h.b2) ?_;rw [<- Nat.pow_add];exact bv (by omega)
 have b3:=h.b3;refine ⟨fO (Int.natAbs_add_le _ _) ?_,?_,Int.mul_pos (by omega) (by omega),?_⟩
 ·have:2 ^ (160+8*(i+1))=2 ^ (160+8*i+7)*2:=by rw [show 160+8*(i+1)=160+8*i+7+1 by omega,Nat.pow_succ]
  show _<=2 ^ (160+8*(i+1));omega
 ·show (c.2*e).natAbs<=_;rw [gu];refine fO (hG h.b2 h4) ?_;rw [<- Nat.pow_add];exact bv (by omega)
 ·rw [rowsS_snoc,<- hv,<- h.eq];exact (Rat.divInt_add_divInt _ _ (by omega) (by omega)).symm
inductive IspSumsR (K:W.Frag) (vs:List V) (H:Hp) (Q:VK):Prop
 | mk (l:Addr) (n:Nat) (us:List V) (rs:List R7) (h1:vs=[.ref l,.int n]) (h2:n<=12) (h3:SqL K H l us) (h4:RowAt R7Is H us rs) (h5:(∀ r∈rs,R7Ok n r)) (h6:rs.length<=24) (h7:∀ p H' ts (cs:List (Int × Int)),H p=none->Same H H'->H' p=some (.lst ts)->RowAt DueIs H' ts cs->cs.length=n->(∀ k c,cs[k]?=some c->c.1.natAbs<=2 ^ 400/\c.2.natAbs<=2 ^ 400/\1<=c.2/\Rat.divInt c.1 c.2=rowsS rs k)->Q (.ref p) H'):IspSumsR K vs H Q
noncomputable def spSumsR (K:W.Frag):Sp:=λ vs H Q _=>IspSumsR K vs H Q
theorem ok_law_sums (T:TX K mg a):FnB P w K mg base CX0 "_law_sums" 2 ["_law_rows","_law_n"] (spSumsR K):=by
 refine T.d_law_sums.ok sc_law_sums (λ vs H Q E h=>?_) (λ f cdv A outer s H vs Q E hr h=>?_)
 ·obtain ⟨_,_,_,_,rfl,_⟩:=h;rfl
 ·obtain ⟨l,n,us,rs,rfl,n12,hR,hr7,ok,l24,k⟩:=h
  refine ⟨_,(ax (cD (i:=2) (xs:=["_law_k"]) (rest:=[]) sc_law_sums.nd rfl rfl rfl (aU rfl T.z_range (aa (pv 1) ad))
   (λ pins fp C' s' H'=>(az (i:=0) (show (["_law_k"]:List Str).Nodup by decide +kernel) rfl (Or.inl rfl))) (λ pins fp C' s' H'=>bH)
   (λ pins fp C' s' H'=>(aF (aa ac (aa ac ad))))
   (Clos.none (by decide +kernel) (by decide +kernel)) (Reads.many (ys:=[]) (js:=[]) True.intro))
   (af (bK gA rfl (cb (pv 0)) (pg_tup rfl (aI (az (i:=3) sc_law_sums.nd rfl (Or.inl rfl)) (aI (az (i:=4) sc_law_sums.nd rfl (Or.inl rfl)) (aI (az (i:=5) sc_law_sums.nd rfl (Or.inl rfl)) (aI (az (i:=6) sc_law_sums.nd rfl (Or.inl rfl)) (aI (az (i:=7) sc_law_sums.nd rfl (Or.inl rfl)) (aI (az (i:=8) sc_law_sums.nd rfl (Or.inl rfl)) (aI (az (i:=9) sc_law_sums.nd rfl (Or.inl rfl)) fg)))))))) (ag (aD (ar cM (pv 7) bG (aA _)) (af (ps_asg (aw (cO T) hr ak (aa (ao au (pv 2) (pv 4) (λ _ _=>rfl)) (aa (aF (aa (aj b6 ac (ao aB (pv 7) ac (λ _ _=>rfl))) (aa (ao aB (pv 7) ac (λ _ _=>rfl)) ad))) ad))) (pg_sub (pv 2) (pv 4) eZ))
   (ag (ps_asg (aw (cO T) hr ak (aa (ao au (pv 2) (pv 5) (λ _ _=>rfl)) (aa (aw (bq T) hr ak (aa (pv 7) (aa (pv 6) ad))) ad))) (pg_sub (pv 2) (pv 5) eZ)))) ap)))
   (ag (aq (pv 2))))),?_⟩
  try dsimp only [aG,Cx.nox,Cx.wish]
  refine ⟨λ σ' H'=>∃ (p:Addr) (ts:List V),σ'=[some (.ref l),some (.int n),some (.ref p),none,none,none,none,none,none,none]/\H p=none/\Same H H'/\H' p=some (.lst ts)/\RowAt DueIs H' ts (List.replicate n (0,1)),?_,?_⟩
  ·refine ⟨_,rfl,(n:Int),rfl,by omega,by omega,λ p np=>?_⟩;refine a8 (n:=(n:Int).toNat) (λ i H2=>i<=n/\Same H H2/\∃ ts,H2 p=some (.lst ts)/\RowAt DueIs H2 ts (List.replicate i (0,1))) ⟨fY _,ay np,[],ae,RowAt.nil⟩ ?_ ?_
   ·rintro i H2 hi ⟨_,s2,ts,h2,hv⟩;refine g1 ⟨⟨[_],rfl,rfl⟩,yes ?_⟩;have hi':i<n:=by simpa using hi
    refine ⟨zL2,λ t nt=>?_⟩;obtain ⟨H3,zq,s3,ht⟩:=uG (o:=.tup [.int 0,.int 1]) nt;rw [zq];have h3:=s3 _ _ h2;have lts:ts.length=i:=by rw [hv.1,gI]
    refine ⟨_,h3,aE (by omega),cP (by simpa using hi) ⟨hi',aH np (s2.trans s3),_,ae,?_⟩⟩;rw [List.replicate_succ'];exact RowAt.snoc (hv.mono λ v x z=>(z.mono s3).ko (.lst h3)) (DueIs.ko ⟨t,rfl,ht⟩ (.lst h3))
   ·rintro H2 ⟨_,s2,ts,h2,hv⟩;exact ⟨p,ts,rfl,np,s2,h2,by simpa using hv⟩
  rintro σ' H1 ⟨p,ts0,rfl,np,s1,hp,hv⟩;refine ⟨_,rfl,l,rfl,⟨_,s1.seq hR⟩,bT (K:=K) (a:=l) (xs:=us) (λ i σ H2=>i<=rs.length/\∃ (ts:List V) (cs:List (Int × Int)) (z3 z4 z5 z6 z7 z8 z9:Option V),σ=[some (.ref l),some (.int n),some (.ref p),z3,z4,z5,z6,z7,z8,z9]/\Same H H2/\H2 p=some (.lst ts)/\RowAt DueIs H2 ts cs/\cs.length=n/\∀ k c,cs[k]?=some c->SumAt i (rs.take i) k c) ⟨fY _,ts0,_,_,_,_,_,_,_,_,rfl,s1,hp,hv,gI,λ k c hc=>?_⟩ (λ i σ H2 _ ⟨_,_,_,_,_,_,_,_,_,_,_,s2,_⟩=>s2.seq hR) ?_ ?_⟩
  ·obtain rfl:=(List.mem_replicate.mp (fK hc)).2;exact ⟨fY _,by show (1:Int).natAbs<=_;decide,by show (1:Int)<=1;decide,by show Rat.divInt 0 1=_;rw [Rat.zero_divInt];rfl⟩
  ·rintro i x σ H2 hx ⟨_,ts,cs,z3,z4,z5,z6,z7,z8,z9,rfl,s2,hp2,hv2,lc,hs⟩;obtain ⟨r,er,hr1⟩:=hr7.get hx;have hi:=(fL.mp er).1;have okr:=ok r (fK er);have tk:rs.take (i+1)=rs.take i++[r]:=by rw [gf,er];rfl
   obtain ⟨q0,vg,vp,vh,vc,rfl,hq0,⟨pg,rfl,hg⟩,hpt,_,_⟩:=hr1.mono s2;refine ⟨q0,_,rfl,SqT.of hq0,rfl,_,_,rfl,_,_,rfl,_,_,rfl,_,_,rfl,_,_,rfl,_,_,rfl,_,_,rfl,rfl,?_⟩
   cases ho:r.put with
   | none=>
    rw [ho] at hpt;obtain rfl:vp=.non:=hpt;refine ⟨_,rfl,rfl,_,rfl,iteF ?_⟩;refine ⟨hi,ts,cs,_,_,_,_,_,_,_,rfl,s2,hp2,hv2,lc,λ k c hc=>?_⟩;rw [tk];exact (hs k c hc).skip (by unfold rowS;rw [ho])
   | some q=>
    rw [ho] at hpt;obtain ⟨pq,rfl,hq⟩:=hpt;obtain ⟨q1,q2,q3⟩:=okr.pt q ho;obtain ⟨g1',g2'⟩:=okr.g1;obtain ⟨g3',g4'⟩:=okr.g2;refine ⟨_,rfl,rfl,_,rfl,iteT ?_⟩;have lst:r.st<cs.length:=by rw [lc];exact okr.st
    have lgo:r.go<cs.length:=by rw [lc];exact okr.go
    have ec1:cs[r.st]?=some (cs[r.st]'lst):=fF lst;have ec2:cs[r.go]?=some (cs[r.go]'lgo):=fF lgo;generalize cs[r.st]'lst=c1 at ec1;generalize cs[r.go]'lgo=c2 at ec2;obtain ⟨t1,et1,p1,rfl,hp1⟩:=hv2.get' ec1;obtain ⟨t2,et2,p2,rfl,hp3⟩:=hv2.get' ec2;have S1:=hs _ _ ec1;have S2:=hs _ _ ec2;have lts:ts.length=n:=by rw [hv2.1,lc]
    have m2:(q.1*r.gain.1).natAbs<=2 ^ 158:=by
     rw [gu];refine fO (hG q1 (show r.gain.1.natAbs<=2 ^ 8 by omega)) ?_;rw [<- Nat.pow_add];exact bv (by decide)
    have m3:(q.2*r.gain.2).natAbs<=2 ^ 7:=by
     rw [gu];refine fO (hG (show q.2.natAbs<=6 by omega) (show r.gain.2.natAbs<=10 by omega)) (by decide)
    have m4:1<=q.2*r.gain.2:=Int.mul_pos (by omega) (by omega);have m1:(0-q.1).natAbs<=2 ^ 158:=fO (show _<=2 ^ 150 by omega) (bv (by decide));have b160:160+8*i<9000:=by omega
    refine ⟨_,rfl,_,rfl,p,_,_,_,rfl,rfl,SqL.of hp2,atI_nat et1,_,rfl,pq,_,_,_,rfl,rfl,SqT.of hq,rfl,_,_,rfl,rfl,_,rfl,pq,_,_,_,rfl,rfl,SqT.of hq,rfl,zL2,λ r1 nr1=>?_⟩;obtain ⟨H3,zq,s3,hr1'⟩:=uG (o:=.tup [.int (0-q.1),.int q.2]) nr1;rw [zq];refine ⟨p1,r1,_,_,_,_,rfl,s3 _ _ hp1,hr1',Sm.of_le S1.b1 b160,Sm.of_le S1.b2 (by omega),Sm.of_le m1 (by decide),Sm.of_le (n:=10) (by omega) (by decide),λ t nt=>?_⟩;obtain ⟨H4,zq,s4,ht⟩:=uG (o:=.tup [.int (c1.1*q.2+(0-q.1)*c1.2),.int (c1.2*q.2)]) nt;rw [zq];have s24:=s3.trans s4;have hp4:=s24 _ _ hp2;refine ⟨_,rfl,_,rfl,p,ts,_,r.st,rfl,rfl,hp4,ixN_nat (by rw [lts];exact okr.st),?_⟩;have k5:KeepO H4 (upd H4 p (.lst (ts.set r.st (.ref t)))):=.lst hp4;have hp5:upd H4 p (.lst (ts.set r.st (.ref t))) p=some (.lst (ts.set r.st (.ref t))):=ae;have s5:Same H (upd H4 p (.lst (ts.set r.st (.ref t)))):=aH np (s2.trans s24);generalize upd H4 p (.lst (ts.set r.st (.ref t)))=H5 at k5 hp5 s5 ⊢;have hv5:RowAt DueIs H5 (ts.set r.st (.ref t)) (cs.set r.st (c1.1*q.2+(0-q.1)*c1.2,c1.2*q.2)):=RowAt.set (hv2.mono λ v x z=>(z.mono s24).ko k5) _ (DueIs.ko ⟨t,rfl,ht⟩ k5);have et2':(ts.set r.st (.ref t))[r.go]?=some (.ref p2):=by rw [ia okr.ne];exact et2
    have hq5:=k5.tup _ _ (s24 _ _ hq);have hg5:=k5.tup _ _ (s24 _ _ hg);have hp35:=k5.tup _ _ (s24 _ _ hp3);refine ⟨_,rfl,_,rfl,p,_,_,_,rfl,rfl,SqL.of hp5,atI_nat et2',_,rfl,_,rfl,pq,pg,_,_,_,_,rfl,hq5,hg5,Sm.of_le q1 (by decide),Sm.of_le (n:=10) (by omega) (by decide),Sm.of_le (n:=10) (by omega) (by decide),Sm.of_le (n:=10) (by omega) (by decide),λ u nu=>?_⟩;obtain ⟨H6,zq,s6,hu⟩:=uG (o:=.tup [.int (q.1*r.gain.1),.int (q.2*r.gain.2)]) nu;rw [zq];refine ⟨p2,u,_,_,_,_,rfl,s6 _ _ hp35,hu,Sm.of_le S2.b1 b160,Sm.of_le S2.b2 (by omega),Sm.of_le m2 (by decide),Sm.of_le m3 (by decide),λ v nv=>?_⟩;obtain ⟨H7,zq,s7,hvv⟩:=uG (o:=.tup [.int (c2.1*(q.2*r.gain.2)+q.1*r.gain.1*c2.2),.int (c2.2*(q.2*r.gain.2))]) nv;rw [zq];have s57:=s6.trans s7;have hp7:=s57 _ _ hp5;refine ⟨_,rfl,_,rfl,p,_,_,r.go,rfl,rfl,hp7,ixN_nat (by rw [hV,lts];exact okr.go),?_⟩;have k8:KeepO H7 (upd H7 p (.lst ((ts.set r.st (.ref t)).set r.go (.ref v)))):=.lst hp7;refine ⟨hi,_,_,_,_,_,_,_,_,_,rfl,aH np (s5.trans s57),ae,RowAt.set (hv5.mono λ v x z=>(z.mono s57).ko k8) _ (DueIs.ko (c:=(c2.1*(q.2*r.gain.2)+q.1*r.gain.1*c2.2,c2.2*(q.2*r.gain.2))) ⟨v,rfl,hvv⟩ k8),by rw [hV,hV,lc],λ k c hc=>?_⟩;rw [tk];by_cases k1:r.go=k
    ·subst k1;rw [gS (by rw [hV];exact lgo)] at hc
     cases hc;refine S2.step m2 m3 m4 ?_;unfold rowS;rw [ho];show _=if r.go=r.go then _ else _
     rw [if_pos rfl,Rat.divInt_mul_divInt]
    ·rw [ia k1] at hc;by_cases k2:r.st=k
     ·subst k2;rw [gS lst] at hc
      cases hc;refine S1.step m1 (show q.2.natAbs<=2 ^ 7 by omega) q2 ?_;unfold rowS;rw [ho];show _=if r.st=r.go then _ else if r.st=r.st then _ else _
      rw [if_neg okr.ne,if_pos rfl,Int.zero_sub,Rat.neg_divInt]
     ·rw [ia k2] at hc;refine (hs k c hc).skip ?_;unfold rowS;rw [ho];show (if k=r.go then _ else if k=r.st then _ else _)=_;rw [if_neg (ib k1),if_neg (ib k2)]
  ·rintro σ H2 ⟨_,ts,cs,z3,z4,z5,z6,z7,z8,z9,rfl,s2,hp2,hv2,lc,hs⟩;rw [hr7.1,ge] at hs;refine ⟨_,rfl,k p H2 ts cs np s2 hp2 hv2 lc λ k c hc=>?_⟩;have S:=hs k c hc;exact ⟨fO S.b1 (bv (by omega)),fO S.b2 (bv (by omega)),S.b3,S.eq⟩
structure WB (c:Int × Int):Prop where
 b1:c.1.natAbs<=2 ^ 420
 b2:1<=c.2
 b3:c.2.natAbs<=2 ^ 420
inductive IspLWants (K:W.Frag) (vs:List V) (H:Hp) (Q:VK):Prop
 | mk (l lr:Addr) (n:Nat) (mode:Int) (ns:List Int) (us:List V) (rs:List R7) (h1:vs=[.ref l,.int n,.int mode,.ref lr]) (h2:n<=12) (h3:SqL K H l (ns.map V.int)) (h4:SqL K H lr us) (h5:RowAt R7Is H us rs) (h6:(∀ r∈rs,R7Ok n r)) (h7:rs.length<=24) (h8:∀ p H' ts (ws:List (Int × Int)),H p=none->Same H H'->H' p=some (.lst ts)->RowAt DueIs H' ts ws->ws.length=n->(∀ c∈ws,WB c)->Q (.ref p) H'):IspLWants K vs H Q
noncomputable def spLWants (K:W.Frag):Sp:=λ vs H Q _=>IspLWants K vs H Q
theorem ok_law_wants (T:TX K mg a):FnB P w K mg base CX0 "_law_wants" 3 ["_law_script","_law_n","_law_mode","_law_rows"] (spLWants K):=by
 refine T.d_law_wants.ok sc_law_wants (λ vs H Q E h=>?_) (λ f cdv A outer s H vs Q E hr h=>?_)
 ·obtain ⟨_,_,_,_,_,_,_,rfl,_⟩:=h;rfl
 ·obtain ⟨l,lr,n,mode,ns,us,rs,rfl,n12,hS,hR,hr7,ok,l24,k⟩:=h
  refine ⟨_,(af (al (i:=4) sc_law_wants.nd rfl (Or.inl rfl) (aw (ok_law_sums T) hr ak (aa (pv 3) (aa (pv 1) ad))))
   (af (bK gA rfl (aU rfl T.z_range (aa (pv 1) ad)) (az (i:=5) sc_law_wants.nd rfl (Or.inl rfl)) (af (al (i:=6) sc_law_wants.nd rfl (Or.inl rfl) (ao au (cT (aa (aF (aa ac (aa ac ad))) (aa (aF (aa (pe_un un_neg ac) (aa ac ad))) (aa (aF (aa ac (aa ac ad))) (aa (aF (aa ac (aa ac ad))) (aa (aF (aa (pe_un un_neg ac) (aa ac ad))) (aa (aF (aa ac (aa ac ad))) ad))))))) (aj aJ (aw (eO T) hr ak (aa (pv 0) (aa (aj aY ac (pv 5)) ad))) ac) (λ _ _=>rfl)))
   (ax (aD (ar bO (pv 2) ac (aA _)) (ag (al (i:=6) sc_law_wants.nd rfl (Or.inl rfl) (aF (aa (aj b6 ac (aC cH (by rfl) T.z_abs g9 (aa (ao aB (pv 6) ac (λ _ _=>rfl)) ad))) (aa (ao aB (pv 6) ac (λ _ _=>rfl)) ad))))) ap)
   (ag (ps_asg (aw (cO T) hr ak (aa (ao au (pv 4) (pv 5) (λ _ _=>rfl)) (aa (pv 6) ad))) (pg_sub (pv 4) (pv 5) eZ))))))
   (ag (aq (pv 4))))),?_⟩
  try dsimp only [aG,Cx.nox,Cx.wish]
  refine ⟨_,rfl,_,rfl,lr,n,us,rs,rfl,n12,hR,hr7,ok,l24,λ p H1 ts cs np s1 hp hcs lcs hcv=>?_⟩
  have wb0:∀ c∈cs,c.1.natAbs<=2 ^ 400/\c.2.natAbs<=2 ^ 400/\1<=c.2:=λ c hc=>by
   obtain ⟨i,hi⟩:=gr.mp hc;obtain ⟨c1,c2,c3,_⟩:=hcv i c hi;exact ⟨c1,c2,c3⟩
  refine ⟨_,rfl,(n:Int),rfl,by omega,by omega,eC (n:=(n:Int).toNat) (λ i σ H2=>i<=n/\∃ (ts:List V) (ws:List (Int × Int)) (z5 z6:Option V),σ=[some (.ref l),some (.int n),some (.int mode),some (.ref lr),some (.ref p),z5,z6]/\Same H H2/\H2 p=some (.lst ts)/\RowAt DueIs H2 ts ws/\ws.length=n/\(∀ c∈ws.take i,WB c)/\∀ c∈ws.drop i,c.1.natAbs<=2 ^ 400/\c.2.natAbs<=2 ^ 400/\1<=c.2) ⟨fY _,ts,cs,_,_,rfl,s1,hp,hcs,lcs,λ c hc=>by simp at hc,λ c hc=>wb0 c (by simpa using hc)⟩ ?_ ?_⟩
  ·rintro i σ H2 hi ⟨_,ts,ws,z5,z6,rfl,s2,hp2,hv,lws,w1,w2⟩;have hi':i<n:=by simpa using hi
   refine ⟨zL2,λ b0 nb0=>?_⟩;obtain ⟨G0,zq,e0,h0⟩:=uG (o:=.tup [.int 0,.int 1]) nb0;rw [zq];refine ⟨_,rfl,zL2,λ b1 nb1=>?_⟩;obtain ⟨G1,zq,e1,h1⟩:=uG (o:=.tup [.int (-1),.int 7]) nb1;rw [zq];refine ⟨zL2,λ b2 nb2=>?_⟩;obtain ⟨G2,zq,e2,h2⟩:=uG (o:=.tup [.int 1,.int 7]) nb2;rw [zq];refine ⟨zL2,λ b3 nb3=>?_⟩;obtain ⟨G3,zq,e3,h3⟩:=uG (o:=.tup [.int 0,.int 1]) nb3;rw [zq];refine ⟨_,rfl,zL2,λ b4 nb4=>?_⟩;obtain ⟨G4,zq,e4,h4⟩:=uG (o:=.tup [.int (-30),.int 1]) nb4;rw [zq];refine ⟨zL2,λ b5 nb5=>?_⟩;obtain ⟨G5,zq,e5,h5⟩:=uG (o:=.tup [.int 2,.int 1]) nb5;rw [zq];refine ⟨zL6,λ lb nlb=>?_⟩;obtain ⟨G6,zq,e6,hlb⟩:=uG (o:=.lst [.ref b0,.ref b1,.ref b2,.ref b3,.ref b4,.ref b5]) nlb;rw [zq];have f5:=e6;have f4:=e5.trans f5;have f3:=e4.trans f4;have f2:=e3.trans f3;have f1:=e2.trans f2;have f0:=e1.trans f1;have s26:=e0.trans f0;have s06:=s2.trans s26;refine ⟨_,rfl,_,rfl,_,_,rfl,rfl,l,ns,34+i,by show [V.ref l,V.int (34+(0+(i:Int)))]=[V.ref l,V.int ((34+i:Nat):Int)];rw [show 34+(0+(i:Int))=((34+i:Nat):Int) by omega],s06.seq hS,by omega,λ c=>?_⟩;obtain ⟨c0,c1⟩:=aT c (show (0:Int)<6 by decide);obtain ⟨j,hj⟩:=gH c0
   have pick:∃ (b:Addr) (x:Int × Int),([V.ref b0,.ref b1,.ref b2,.ref b3,.ref b4,.ref b5])[j]?=some (.ref b)/\G6 b=some (.tup [.int x.1,.int x.2])/\x.1.natAbs<=30/\1<=x.2/\x.2<=7:=by
    match j,hj with
    | 0,_=>exact ⟨b0,(0,1),rfl,f0 _ _ h0,by decide,by decide,by decide⟩
    | 1,_=>exact ⟨b1,(-1,7),rfl,f1 _ _ h1,by decide,by decide,by decide⟩
    | 2,_=>exact ⟨b2,(1,7),rfl,f2 _ _ h2,by decide,by decide,by decide⟩
    | 3,_=>exact ⟨b3,(0,1),rfl,f3 _ _ h3,by decide,by decide,by decide⟩
    | 4,_=>exact ⟨b4,(-30,1),rfl,f4 _ _ h4,by decide,by decide,by decide⟩
    | 5,_=>exact ⟨b5,(2,1),rfl,f5 _ _ h5,by decide,by decide,by decide⟩
    | j+6,hj=>omega
   obtain ⟨b,x,eb,hb,x1,x2,x3⟩:=pick;refine ⟨_,_,rfl,rfl,zI6,lb,_,_,_,rfl,rfl,SqL.of hlb,(by rw [hj];exact atI_nat eb),?_⟩;have hp6:=s26 _ _ hp2;have hv6:=hv.mono λ v x z=>DueIs.mono z s26;clear e0 h0 e1 h1 e2 h2 e3 h3 e4 h4 e5 h5 e6 hlb f0 f1 f2 f3 f4 f5 eb;refine ⟨λ σ' H'=>∃ (b:Addr) (x:Int × Int),σ'=[some (.ref l),some (.int n),some (.int mode),some (.ref lr),some (.ref p),some (.int (0+(i:Int))),some (.ref b)]/\Same G6 H'/\H' b=some (.tup [.int x.1,.int x.2])/\x.1.natAbs<=30/\1<=x.2/\x.2<=7,?_,?_⟩
   ·refine ⟨_,rfl,rfl,_,rfl,ifV (λ hm=>?_) (λ hm=>⟨b,x,rfl,Same.refl _,hb,x1,x2,x3⟩)⟩;refine ⟨_,rfl,b,_,_,_,rfl,rfl,SqT.of hb,rfl,_,rfl,_,_,rfl,rfl,_,rfl,b,_,_,_,rfl,rfl,SqT.of hb,rfl,zL2,λ t nt=>?_⟩;exact ⟨t,(0-(if x.1<0 then -x.1 else x.1),x.2),rfl,ay nt,ae,by show (0-(if x.1<0 then -x.1 else x.1)).natAbs<=30;split <;> omega,x2,x3⟩
   rintro σ' H7 ⟨b,x,rfl,s7,hb,x1,x2,x3⟩;have hp7:=s7 _ _ hp6;have hv7:=hv6.mono λ v x z=>DueIs.mono z s7;have lts:ts.length=n:=by rw [hv.1,lws]
   have ec:ws[i]?=some (ws[i]'(by omega)):=fF (by omega);generalize hcc:ws[i]'(by omega)=c at ec
   have mc:c∈ws.drop i:=by
    refine fK (i:=0) ?_;rw [List.getElem?_drop];exact ec
   obtain ⟨cb1,cb2,cb3⟩:=w2 c mc;obtain ⟨u1,eu1,p1,rfl,hp1⟩:=hv7.get' ec;have a1:atI ts (0+(i:Int))=some (.ref p1):=by rw [iw];exact atI_nat eu1
   refine ⟨_,rfl,_,rfl,p,_,_,_,rfl,rfl,SqL.of hp7,a1,_,rfl,p1,b,_,_,_,_,rfl,hp1,hb,Sm.of_le cb1 (by decide),Sm.of_le cb2 (by decide),Sm.of_le (n:=10) (by omega) (by decide),Sm.of_le (n:=10) (by omega) (by decide),λ t nt=>?_⟩;obtain ⟨H8,zq,s8,ht⟩:=uG (o:=.tup [.int (c.1*x.2+x.1*c.2),.int (c.2*x.2)]) nt;rw [zq];have hp8:=s8 _ _ hp7;refine ⟨_,rfl,_,rfl,p,ts,_,i,rfl,by rw [iw],hp8,ixN_nat (by omega),?_⟩;have k9:KeepO H8 (upd H8 p (.lst (ts.set i (.ref t)))):=.lst hp8
   have wbn:WB (c.1*x.2+x.1*c.2,c.2*x.2):=by
    have m1:(c.1*x.2).natAbs<=2 ^ (400+3):=by rw [gu,Nat.pow_add];exact hG cb1 (by omega)
    have m2:(x.1*c.2).natAbs<=2 ^ (5+400):=by rw [gu,Nat.pow_add];exact hG (show _<=32 by omega) cb2
    have m3:(c.2*x.2).natAbs<=2 ^ (400+3):=by rw [gu,Nat.pow_add];exact hG cb2 (by omega)
    refine ⟨fO (Int.natAbs_add_le _ _) (fO (Nat.add_le_add (fO m1 (bv (show 403<=419 by decide))) (fO m2 (bv (show 405<=419 by decide)))) ?_),Int.mul_pos (by omega) (by omega),fO m3 (bv (by decide))⟩;rw [show 2 ^ 420=2 ^ 419*2 from Nat.pow_add 2 419 1];omega
   have hil:i<ws.length:=by omega
   have tkn:(ws.set i (c.1*x.2+x.1*c.2,c.2*x.2)).take (i+1)=ws.take i++[(c.1*x.2+x.1*c.2,c.2*x.2)]:=by
    rw [gf,gS hil,gv,List.take_set_of_le (fM _)]
   have dpn:(ws.set i (c.1*x.2+x.1*c.2,c.2*x.2)).drop (i+1)=ws.drop (i+1):=by
    rw [List.drop_set_of_lt (Nat.lt_succ_self _)]
   refine ⟨hi',ts.set i (.ref t),ws.set i (c.1*x.2+x.1*c.2,c.2*x.2),_,_,rfl,aH np (s06.trans (s7.trans s8)),ae,RowAt.set (hv7.mono λ v x z=>(DueIs.mono z s8).ko k9) _ (DueIs.ko ⟨t,rfl,ht⟩ k9),by rw [hV,lws],λ y hy=>?_,λ y hy=>?_⟩
   ·rw [tkn] at hy;rcases List.mem_append.mp hy with z | z
    ·exact w1 y z
    ·rw [List.mem_singleton.mp z];exact wbn
   ·rw [dpn] at hy;refine w2 y ?_;rw [<- List.drop_drop] at hy;exact List.mem_of_mem_drop hy
  ·rintro σ H2 ⟨_,ts,ws,z5,z6,rfl,s2,hp2,hv,lws,w1,w2⟩;rw [show (n:Int).toNat=ws.length by rw [lws];rfl,ge] at w1;exact ⟨_,rfl,k p H2 ts ws np s2 hp2 hv lws w1⟩
theorem dn {b:Int} (h:b≠0):Rat.divInt b b=1:=by
 rw [show (1:Rat)=Rat.divInt 1 1 from rfl,Rat.divInt_eq_divInt_iff h (by decide)];omega
theorem lt_one {n d:Int} (hd:0<d) (h:n<d):Rat.divInt n d<1:=by
 rw [show (1:Rat)=Rat.divInt 1 1 from rfl,lt_div hd (by decide)];omega
theorem nn_num {n d:Int} (hd:0<d) (h:0<=n):0<=(Rat.divInt n d).num:=Rat.num_nonneg.mpr ((divInt_nn n hd).mpr h)
theorem pos_num {n d:Int} (hd:0<d) (h:0<n):0<(Rat.divInt n d).num:=by
 have h1:=nn_num hd (Int.le_of_lt h)
 have h2:(Rat.divInt n d).num≠0:=λ e=>by
  have h3:=Rat.num_divInt_den (Rat.divInt n d);rw [e,Rat.zero_divInt] at h3
  have:=(Rat.divInt_eq_divInt_iff (show (1:Int)≠0 by decide) (show d≠0 by omega)).mp (show Rat.divInt 0 1=Rat.divInt n d from by rw [<- h3,Rat.zero_divInt])
  omega
 omega
structure PB (n:Nat) (c:Int × Int):Prop where
 t:c.1.natAbs<=2 ^ n
 o:1<=c.2
 b:c.2.natAbs<=2 ^ n
theorem PB.sm {n:Nat} {c:Int × Int} (h:PB n c) (hn:n<9000:=by decide):Sm c.1/\Sm c.2:=⟨Sm.of_le h.t hn,Sm.of_le h.b hn⟩
theorem PB.bd {n:Nat} {c:Int × Int} (h:PB n c):Bd n (vC c):=Bd.divInt h.t h.b
theorem PB.mono {n m:Nat} {c:Int × Int} (h:PB n c) (l:n<=m):PB m c:=⟨fO h.t (Nat.pow_le_pow_right (by decide) l),h.o,fO h.b (Nat.pow_le_pow_right (by decide) l)⟩
theorem mul_b {x y:Int} {n m:Nat} (h1:x.natAbs<=2 ^ n) (h2:y.natAbs<=2 ^ m):(x*y).natAbs<=2 ^ (n+m):=by
 rw [gu,Nat.pow_add];exact hG h1 h2
theorem PB.times {n m:Nat} {a b:Int × Int} (h:PB n a) (h':PB m b):PB (n+m) (a.1*b.1,a.2*b.2):=⟨mul_b h.t h'.t,Int.mul_pos (show 0<a.2 from h.o) (show 0<b.2 from h'.o),mul_b h.b h'.b⟩
theorem cX (a b:Int × Int):vC (a.1*b.1,a.2*b.2)=vC a*vC b:=(Rat.divInt_mul_divInt _ _).symm
theorem vC_pos {c:Int × Int} (h1:1<=c.1) (h2:1<=c.2):0<vC c:=by
 have:=pos_num (show 0<c.2 by omega) (show 0<c.1 by omega)
 exact Rat.lt_of_le_of_ne (Rat.num_nonneg.mp (Int.le_of_lt this)) (λ e=>by rw [show Rat.divInt c.1 c.2=0 from e.symm] at this;exact absurd this (by decide))
structure R7W (n:Nat) (r:R7):Prop where
 st:r.st<n
 go:r.go<n
 ne:r.st≠r.go
 k3:r.kd=0∨r.kd=1∨r.kd=2
 g0:1<=r.gain.1
 g:PB 150 r.gain
 pt:∀ c,r.put=some c->PB 250 c
 hi:∀ c,r.hi=some c->0<=c.1/\PB 300 c
 co:PB 150 r.co
theorem R7Ok.wide {n:Nat} {r:R7} (h:R7Ok n r):R7W n r:=by
 have e1:(10:Nat)<=2 ^ 150:=by decide
 have e2:(6:Nat)<=2 ^ 250:=by decide
 have e3:(100:Nat)<=2 ^ 300:=by decide
 have e4:(2:Nat) ^ 150<=2 ^ 250:=Nat.pow_le_pow_right (by decide) (by decide);have e5:(2:Nat) ^ 200<=2 ^ 300:=Nat.pow_le_pow_right (by decide) (by decide);have e6:(100:Nat)<=2 ^ 150:=by decide
 obtain ⟨a1,a2⟩:=h.g1;obtain ⟨b1,b2⟩:=h.g2;obtain ⟨c1,c2,c3⟩:=h.co
 exact ⟨h.st,h.go,h.ne,h.k3,a1,⟨by omega,b1,by omega⟩,λ c e=>(by
  obtain ⟨x,y,z⟩:=h.pt c e;exact ⟨by omega,y,by omega⟩),λ c e=>(by
  obtain ⟨x,y,z,u⟩:=h.hi c e;exact ⟨x,by omega,z,by omega⟩),⟨by omega,c1,by omega⟩⟩
noncomputable def R7.d (r:R7) (nm:Str) (sp:List Str):WD:=if r.kd=0/\r.gain.1=r.gain.2 then ⟨nm,sp.getD r.st "",sp.getD r.go "",.way,0,r.hi.map vC,vC r.co⟩ else if r.kd=2/\r.gain.1<=r.gain.2 then ⟨nm,sp.getD r.st "",sp.getD r.go "",.lea,Rat.divInt (r.gain.2-r.gain.1) r.gain.2,r.hi.map vC,vC r.co⟩ else ⟨nm,sp.getD r.st "",sp.getD r.go "",.gro,Rat.divInt r.gain.1 r.gain.2,r.hi.map vC,vC r.co⟩
theorem R7.d_nm (r:R7) (nm:Str) (sp:List Str):(r.d nm sp).nm=nm:=by unfold R7.d;split <;> (try split) <;> rfl
theorem R7.d_st (r:R7) (nm:Str) (sp:List Str):(r.d nm sp).st=sp.getD r.st "":=by unfold R7.d;split <;> (try split) <;> rfl
theorem R7.d_go (r:R7) (nm:Str) (sp:List Str):(r.d nm sp).go=sp.getD r.go "":=by unfold R7.d;split <;> (try split) <;> rfl
theorem R7.d_co (r:R7) (nm:Str) (sp:List Str):(r.d nm sp).co=vC r.co:=by unfold R7.d;split <;> (try split) <;> rfl
theorem R7.d_hi (r:R7) (nm:Str) (sp:List Str):(r.d nm sp).hi=r.hi.map vC:=by unfold R7.d;split <;> (try split) <;> rfl
theorem R7.d_gain {r:R7} {n:Nat} (h:R7W n r) (nm:Str) (sp:List Str):cW (r.d nm sp).kd (r.d nm sp).x=vC r.gain:=by
 have g2:=h.g.o;have hb:r.gain.2≠0:=by omega
 unfold R7.d vC
 split
 ·rename_i e;rw [e.2,dn hb];rfl
 ·split
  ·show 1-Rat.divInt (r.gain.2-r.gain.1) r.gain.2=_;rw [show (1:Rat)=Rat.divInt r.gain.2 r.gain.2 from (dn hb).symm,Rat.divInt_sub_divInt _ _ hb hb,Rat.divInt_eq_divInt_iff (Int.mul_ne_zero hb hb) hb];grind
  ·rfl
theorem R7.d_sm {r:R7} {n:Nat} (h:R7W n r) (nm:Str) (sp:List Str):SmR (r.d nm sp).x/\Bd 150 (cW (r.d nm sp).kd (r.d nm sp).x):=by
 have g0:=h.g0;have gt:=h.g.t;have go:=h.g.o;have gb:=h.g.b;refine ⟨?_,by rw [R7.d_gain h];exact h.g.bd⟩;unfold R7.d
 split
 ·exact ⟨Nat.two_pow_pos _,sm1⟩
 ·split
  ·rename_i e;exact (Bd.divInt (n:=150) (fO (by omega) gb) gb).smr (by decide)
  ·exact (Bd.divInt (n:=150) gt gb).smr (by decide)
inductive IspWay7 (K:W.Frag) (a:Ad) (vs:List V) (H:Hp) (Q:VK):Prop
 | mk (v:V) (r:R7) (nm:Str) (ln:Addr) (sp:List Str) (h1:vs=[v,.str nm,.ref ln]) (h2:R7Is H v r) (h3:R7W sp.length r) (h4:sp.Nodup) (h5:SqL K H ln (sp.map V.str)) (h6:∀ p H',H p=none->Same H H'->WayIs a H' (.ref p) (r.d nm sp)->Q (.ref p) H'):IspWay7 K a vs H Q
noncomputable def spWay7 (K:W.Frag) (a:Ad):Sp:=λ vs H Q _=>IspWay7 K a vs H Q
theorem ok_law_way (T:TX K mg a):FnB P w K mg base CX0 "_law_way" 7 ["_law_row_here","_law_name_here","_law_names"] (spWay7 K a):=by
 refine T.d_law_way.ok sc_law_way (λ vs H Q E h=>?_) (λ f cdv A outer s H vs Q E hr h=>?_)
 ·obtain ⟨_,_,_,_,_,rfl,_⟩:=h;rfl
 ·obtain ⟨v,r,nm,ln,sp,rfl,⟨p,vg,vp,vh,vc,rfl,hp,⟨pg,rfl,hg⟩,hpt,hhi,⟨pc,rfl,hc⟩⟩,ok,nd,hS,k⟩:=h
  refine ⟨_,(af (ps_asg (pv 0) (pg_tup rfl (aI (az (i:=3) sc_law_way.nd rfl (Or.inl rfl)) (aI (az (i:=4) sc_law_way.nd rfl (Or.inl rfl)) (aI (az (i:=5) sc_law_way.nd rfl (Or.inl rfl)) (aI (az (i:=6) sc_law_way.nd rfl (Or.inl rfl)) (aI (az (i:=7) sc_law_way.nd rfl (Or.inl rfl)) (aI (az (i:=8) sc_law_way.nd rfl (Or.inl rfl)) (aI (az (i:=9) sc_law_way.nd rfl (Or.inl rfl)) fg)))))))))
   (af (al (i:=10) sc_law_way.nd rfl (Or.inl rfl) bG)
   (ax (aD (ar cM (pv 8) bG (aA _)) (ag (al (i:=10) sc_law_way.nd rfl (Or.inl rfl) (bo (mk2 T) hr T.mg_Fraction ak (aa (ao aB (pv 8) ac (λ _ _=>rfl)) (aa (ao aB (pv 8) ac (λ _ _=>rfl)) ad))))) ap)
   (af (al (i:=11) sc_law_way.nd rfl (Or.inl rfl) (bo (mk2 T) hr T.mg_Fraction ak (aa (ao aB (pv 9) ac (λ _ _=>rfl)) (aa (ao aB (pv 9) ac (λ _ _=>rfl)) ad))))
   (ax (aD (PW.pt (dk (ar bO (pv 3) ac (aA _)) (cq (ar bO (ao aB (pv 6) ac (λ _ _=>rfl)) (ao aB (pv 6) ac (λ _ _=>rfl)) (aA _))))) (ag (aq (pe_mk (mk_Way T) hr T.mg_Way ak (aa (pv 1) (aa (ao au (pv 2) (pv 4) (λ _ _=>rfl)) (aa (ao au (pv 2) (pv 5) (λ _ _=>rfl)) (aa (pv 10) (aa (pv 11) ad)))))))) ap)
   (ax (aD (PW.pt (dk (ar bO (pv 3) ac (aA _)) (cq (ar op_le (ao aB (pv 6) ac (λ _ _=>rfl)) (ao aB (pv 6) ac (λ _ _=>rfl)) (aA _))))) (ag (aq (pe_mk (mk_Leaking T) hr T.mg_Leaking ak (aa (pv 1) (aa (ao au (pv 2) (pv 4) (λ _ _=>rfl)) (aa (ao au (pv 2) (pv 5) (λ _ _=>rfl)) (aa (bo (mk2 T) hr T.mg_Fraction ak (aa (aj b6 (ao aB (pv 6) ac (λ _ _=>rfl)) (ao aB (pv 6) ac (λ _ _=>rfl))) (aa (ao aB (pv 6) ac (λ _ _=>rfl)) ad))) (aa (pv 10) (aa (pv 11) ad))))))))) ap)
   (ag (aq (pe_mk (mk_Growing T) hr T.mg_Growing ak (aa (pv 1) (aa (ao au (pv 2) (pv 4) (λ _ _=>rfl)) (aa (ao au (pv 2) (pv 5) (λ _ _=>rfl)) (aa (bo (mk2 T) hr T.mg_Fraction ak (aa (ao aB (pv 6) ac (λ _ _=>rfl)) (aa (ao aB (pv 6) ac (λ _ _=>rfl)) ad))) (aa (pv 10) (aa (pv 11) ad))))))))))))))),?_⟩
  try dsimp only [aG,Cx.nox,Cx.wish]
  refine ⟨_,rfl,p,_,rfl,SqT.of hp,rfl,_,_,rfl,_,_,rfl,_,_,rfl,_,_,rfl,_,_,rfl,_,_,rfl,_,_,rfl,rfl,?_⟩;refine ⟨λ σ' H'=>∃ (vb:V) (z11:Option V),σ'=[some (.ref p),some (.str nm),some (.ref ln),some (.int r.kd),some (.int r.st),some (.int r.go),some (.ref pg),some vp,some vh,some (.ref pc),some vb,z11]/\Same H H'/\HiOk a.Fraction H' vb/\HiT a H' vb (r.hi.map vC),?_,?_⟩
  ·cases ho:r.hi with
   | none=>
    rw [ho] at hhi;obtain rfl:vh=.non:=hhi;refine ⟨_,rfl,rfl,_,rfl,iteF ?_⟩;exact ⟨V.non,_,rfl,Same.refl _,.inl rfl,rfl⟩
   | some c=>
    rw [ho] at hhi;obtain ⟨ph,rfl,hph⟩:=hhi;obtain ⟨h0,hP⟩:=ok.hi c ho;have ho1:=hP.o;refine ⟨_,rfl,rfl,_,rfl,iteT ?_⟩;refine ⟨_,rfl,ph,_,_,_,rfl,rfl,SqT.of hph,rfl,_,rfl,ph,_,_,_,rfl,rfl,SqT.of hph,rfl,_,_,rfl,by omega,hP.sm.2,λ q H1 nq s1 f1=>?_⟩;exact ⟨.ref q,_,rfl,s1,.inr ⟨q,_,rfl,f1,nn_num (by omega) h0⟩,⟨q,rfl,f1⟩⟩
  rintro σ' H1 ⟨vb,z11,rfl,s1,hb,hT⟩;have co1:=ok.co.o;have ga:=ok.g0;have gb:=ok.g.o;have hc1:=s1 _ _ hc;refine ⟨_,rfl,pc,_,_,_,rfl,rfl,SqT.of hc1,rfl,_,rfl,pc,_,_,_,rfl,rfl,SqT.of hc1,rfl,_,_,rfl,by omega,ok.co.sm.2,λ qc H2 nqc s2 f2=>?_⟩;have s12:=s1.trans s2;have hS2:=s12.seq hS;have hg2:=s12 _ _ hg;have sg2:=SqT.of (K:=K) hg2;have hb2:=hb.mono s2;have e1:sp[r.st]?=some (sp.getD r.st ""):=by rw [fP,fF ok.st];rfl
  have e2:sp[r.go]?=some (sp.getD r.go ""):=by rw [fP,fF ok.go];rfl
  have ne:sp.getD r.st ""≠sp.getD r.go "":=λ e=>ok.ne ((gL ok.st nd).mp (by rw [e1,e2,e]));have t1:=eS e1;have t2:=eS e2
  have cof:∀ (H':Hp) (p:Addr) {vc':V},CoIs a.Fraction H' p (.ref qc) vc'->Same H2 H'->∃ z,vc'=.ref z/\FrAt a.Fraction H' z (vC r.co):=λ H' p vc' co ss=>by
   rcases co with ⟨_,e⟩ | ⟨e,_⟩
   ·exact ⟨qc,e,f2.mono ss⟩
   ·cases e
  refine ⟨λ σ' H'=>σ'=[some (.ref p),some (.str nm),some (.ref ln),some (.int r.kd),some (.int r.st),some (.int r.go),some (.ref pg),some vp,some vh,some (.ref pc),some vb,some (.ref qc)]/\H'=H2/\¬ (r.kd=0/\r.gain.1=r.gain.2),?_,?_⟩
  ·refine ⟨_,rfl,rfl,_,rfl,?_⟩;by_cases k0:r.kd=0
   case neg=>exact b9 (fU λ z=>k0 (V.int.inj z)) (iteF ⟨rfl,rfl,λ z=>k0 z.1⟩)
   refine eD (fV (gK V.int k0)) ⟨_,rfl,pg,_,_,_,rfl,rfl,sg2,rfl,_,rfl,pg,_,_,_,rfl,rfl,sg2,rfl,rfl,_,rfl,ifV (λ hg=>?_) (λ hg=>⟨rfl,rfl,λ z=>hg z.2⟩)⟩;refine ⟨_,rfl,_,rfl,_,rfl,ln,_,_,_,rfl,rfl,hS2,t1,_,rfl,_,rfl,ln,_,_,_,rfl,rfl,hS2,t2,_,rfl,_,rfl,?_⟩;exact mkW (x:=0) T ne hb2 λ q H' vc' q' nq ss W co=>k q H' (s12.free nq) (s12.trans ss) (by unfold R7.d;rw [if_pos ⟨k0,hg⟩];exact ⟨q,_,_,q',rfl,W,by nofun,cof _ _ co ss,hT.mono (s2.trans ss)⟩)
  rintro σ' H' ⟨rfl,rfl,n0⟩;refine ⟨λ σ' H2=>σ'=[some (.ref p),some (.str nm),some (.ref ln),some (.int r.kd),some (.int r.st),some (.int r.go),some (.ref pg),some vp,some vh,some (.ref pc),some vb,some (.ref qc)]/\H2=H'/\¬ (r.kd=2/\r.gain.1<=r.gain.2),?_,?_⟩
  ·refine ⟨_,rfl,rfl,_,rfl,?_⟩;by_cases k0:r.kd=2
   case neg=>exact b9 (fU λ z=>k0 (V.int.inj z)) (iteF ⟨rfl,rfl,λ z=>k0 z.1⟩)
   refine eD (fV (gK V.int k0)) ⟨_,rfl,pg,_,_,_,rfl,rfl,sg2,rfl,_,rfl,pg,_,_,_,rfl,rfl,sg2,rfl,_,_,rfl,rfl,_,rfl,ifB (λ hg=>?_) (λ hg=>⟨rfl,rfl,λ z=>hg z.2⟩)⟩;have hg:r.gain.1<=r.gain.2:=hg;refine ⟨_,rfl,_,rfl,_,rfl,ln,_,_,_,rfl,rfl,hS2,t1,_,rfl,_,rfl,ln,_,_,_,rfl,rfl,hS2,t2,_,rfl,pg,_,_,_,rfl,rfl,sg2,rfl,_,rfl,pg,_,_,_,rfl,rfl,sg2,rfl,_,_,rfl,rfl,_,rfl,pg,_,_,_,rfl,rfl,sg2,rfl,_,_,rfl,by omega,ok.g.sm.2,λ q3 H3 nq3 s3 f3=>⟨_,rfl,_,rfl,?_⟩⟩;refine mkL T ne f3 ⟨nn_num (by omega) (by omega),lt_one (by omega) (by omega),(Bd.divInt (n:=150) (fO (by omega) ok.g.b) ok.g.b).smr (by decide)⟩ (hb2.mono s3) λ q H' vc' q' nq ss W co=>k q H' (s12.free (s3.free nq)) (s12.trans (s3.trans ss)) (by unfold R7.d;rw [if_neg n0,if_pos ⟨k0,hg⟩];exact ⟨q,_,_,q',rfl,W,by nofun,cof _ _ co (s3.trans ss),hT.mono (s2.trans (s3.trans ss))⟩)
  rintro σ' H2' ⟨rfl,rfl,n2⟩;refine ⟨_,rfl,_,rfl,_,rfl,ln,_,_,_,rfl,rfl,hS2,t1,_,rfl,_,rfl,ln,_,_,_,rfl,rfl,hS2,t2,_,rfl,pg,_,_,_,rfl,rfl,sg2,rfl,_,rfl,pg,_,_,_,rfl,rfl,sg2,rfl,_,_,rfl,by omega,ok.g.sm.2,λ q3 H3 nq3 s3 f3=>⟨_,rfl,_,rfl,?_⟩⟩;exact mkG T ne f3 (pos_num (by omega) (by omega)) (hb2.mono s3) λ q H' vc' q' nq ss W co=>k q H' (s12.free (s3.free nq)) (s12.trans (s3.trans ss)) (by unfold R7.d;rw [if_neg n0,if_neg n2];exact ⟨q,_,_,q',rfl,W,by nofun,cof _ _ co (s3.trans ss),hT.mono (s2.trans (s3.trans ss))⟩)
theorem getSx {xs:List Str} {i:Nat} (h:i<xs.length):xs[i]?=some (xs.getD i ""):=by rw [fP,fF h];rfl
noncomputable def zD (sp:List Str) (rs:List R7) (wn:List Str):List WD:=(rs.zip wn).map λ z=>z.1.d z.2 sp
inductive IspLNet (K:W.Frag) (a:Ad) (vs:List V) (H:Hp) (Q:VK):Prop
 | mk (lr lw ln lq:Addr) (us tq:List V) (rs:List R7) (wn sp:List Str) (ws:List (Int × Int)) (h1:vs=[.ref lr,.ref lw,.ref ln,.ref lq]) (h2:SqL K H lr us) (h3:RowAt R7Is H us rs) (h4:SqL K H lw (wn.map V.str)) (h5:SqL K H ln (sp.map V.str)) (h6:SqL K H lq tq) (h7:RowAt DueIs H tq ws) (h8:(∀ r∈rs,R7W sp.length r)) (h9:sp.Nodup) (h10:wn.Nodup) (h11:rs.length=wn.length) (h12:ws.length=sp.length) (h13:sp.length<=12) (h14:rs.length<=12) (h15:(∀ c∈ws,PB 900 c)) (h16:∀ p H',H p=none->Same H H'->NetAt a H' p (sp.zip (ws.map vC)) (zD sp rs wn)->Q (.ref p) H'):IspLNet K a vs H Q
noncomputable def spLNet (K:W.Frag) (a:Ad):Sp:=λ vs H Q _=>IspLNet K a vs H Q
theorem ok_law_net (T:TX K mg a):FnB P w K mg base CX0 "_law_net" 8 ["_law_rows","_law_ways","_law_names","_law_wants_here"] (spLNet K a):=by
 refine T.d_law_net.ok sc_law_net (λ vs H Q E h=>?_) (λ f cdv A outer s H vs Q E hr h=>?_)
 ·obtain ⟨_,_,_,_,_,_,_,_,_,_,rfl,_⟩:=h;rfl
 ·obtain ⟨lr,lw,ln,lq,us,tq,rs,wn,sp,ws,rfl,hlr,hrs,hlw,hln,hlq,hws,ok,nd,ndw,lrw,lws,l12,r12,wb,k⟩:=h
  refine ⟨_,(ax (cD (i:=4) (xs:=["_law_k"]) (rest:=["_law_names","_law_wants_here"]) sc_law_net.nd rfl rfl rfl (aU rfl T.z_range (aa (aC aW (by rfl) T.z_len gM (aa (pv 2) ad)) ad))
   (λ pins fp C' s' H'=>(az (i:=0) (show (["_law_k","_law_names","_law_wants_here"]:List Str).Nodup by decide +kernel) rfl (Or.inl rfl))) (λ pins fp C' s' H'=>bH)
   (λ pins fp C' s' H'=>(aF (aa (ao (r:=rIxL K) au (pv 1) (pv 0) (λ _ _=>rfl)) (aa (bo (mk2 T) hr T.mg_Fraction ak (aa (ao (r:=rIxT K) aB (ao (r:=rIxL K) au (pv 2) (pv 0) (λ _ _=>rfl)) ac (λ _ _=>rfl)) (aa (ao (r:=rIxT K) aB (ao (r:=rIxL K) au (pv 2) (pv 0) (λ _ _=>rfl)) ac (λ _ _=>rfl)) ad))) ad))))
   (Clos.many (ys:=["_law_wants_here","_law_names"]) rfl ⟨rfl,rfl,True.intro⟩ rfl (by decide +kernel)) (Reads.many (ys:=["_law_names","_law_wants_here"]) (js:=[2,3]) ⟨⟨rfl,rfl,rfl⟩,⟨rfl,rfl,rfl⟩,True.intro⟩))
   (ag (aq (pe_mk (mk_Net T) hr T.mg_Net ak (aa (pv 4) (aa (c7 (xs:=["_law_k"]) (rest:=["_law_names","_law_rows","_law_ways"]) rfl (aU rfl T.z_range (aa (aC aW (by rfl) T.z_len gM (aa (pv 0) ad)) ad))
   (λ pins fp C' s' H'=>(az (i:=0) (show (["_law_k","_law_names","_law_rows","_law_ways"]:List Str).Nodup by decide +kernel) rfl (Or.inl rfl))) (λ pins fp C' s' H'=>bH)
   (λ pins fp C' s' H'=>(aw (ok_law_way T) hr ak (aa (ao (r:=rIxL K) au (pv 2) (pv 0) (λ _ _=>rfl)) (aa (ao (r:=rIxL K) au (pv 3) (pv 0) (λ _ _=>rfl)) (aa (pv 1) ad)))))
   (Clos.many (ys:=["_law_ways","_law_rows","_law_names"]) rfl ⟨rfl,rfl,rfl,True.intro⟩ rfl (by decide +kernel)) (Reads.many (ys:=["_law_names","_law_rows","_law_ways"]) (js:=[2,0,1]) ⟨⟨rfl,rfl,rfl⟩,⟨rfl,rfl,rfl⟩,⟨rfl,rfl,rfl⟩,True.intro⟩)) ad)))))),?_⟩
  try dsimp only [aG,Cx.nox,Cx.wish]
  refine ⟨λ σ' H'=>∃ q tp,σ'=[some (.ref lr),some (.ref lw),some (.ref ln),some (.ref lq),some (.ref q)]/\Same H H'/\H' q=some (.lst tp)/\RowAt (PlIs a) H' tp (sp.zip (ws.map vC)),?_,?_⟩
  ·refine ⟨_,rfl,ln,_,rfl,.inl hln,_,rfl,by omega,by rw [fG];omega,λ q nq=>?_⟩;rw [fG];have lz:(sp.zip (ws.map vC)).length=sp.length:=by rw [hX,fG];omega
   refine a8 (λ i H2=>i<=sp.length/\Same H H2/\∃ ts,H2 q=some (.lst ts)/\RowAt (PlIs a) H2 ts ((sp.zip (ws.map vC)).take i)) ⟨fY _,ay nq,[],ae,RowAt.nil⟩ ?_ ?_
   ·rintro i H2 hi ⟨_,s2,ts,h2,hv⟩;have hi':i<sp.length:=by omega
    rw [iw];refine g1 ⟨⟨[_],rfl,rfl⟩,yes ?_⟩;obtain ⟨x,ex⟩:∃ x,sp[i]?=some x:=⟨_,fF hi'⟩;obtain ⟨c,ec⟩:∃ c,ws[i]?=some c:=⟨_,fF (by omega)⟩;obtain ⟨v,ev,pv,rfl,hpv⟩:=(hws.mono λ v x z=>DueIs.mono z s2).get' ec;have pb:=wb c (fK ec);have po:=pb.o;have sq:=SqT.of (K:=K) hpv;refine ⟨_,rfl,_,rfl,ln,_,_,_,rfl,rfl,s2.seq hln,eS ex,_,rfl,_,rfl,lq,_,_,_,rfl,rfl,s2.seq hlq,atI_nat ev,pv,_,_,_,rfl,rfl,sq,rfl,_,rfl,_,rfl,lq,_,_,_,rfl,rfl,s2.seq hlq,atI_nat ev,pv,_,_,_,rfl,rfl,sq,rfl,_,_,rfl,by omega,pb.sm.2,λ fq H3 nfq s3 ff=>?_⟩;refine ⟨zL2,λ t nt=>?_⟩;obtain ⟨H4,zq,s4,ht⟩:=uG (o:=.tup [.str x,.ref fq]) nt;rw [zq];have h4:=s4 _ _ (s3 _ _ h2);have lts:ts.length=i:=by rw [hv.1,fZ];omega
    refine ⟨_,h4,aE (by omega),cP hi ⟨hi',aH nq ((s2.trans s3).trans s4),_,ae,?_⟩⟩;have ez:(sp.zip (ws.map vC))[i]?=some (x,vC c):=by rw [gx];exact ⟨ex,by rw [fN,ec];rfl⟩
    rw [gf,ez,gv];exact RowAt.snoc (hv.mono λ v x z=>(z.mono (s3.trans s4)).ko (.lst h4)) (PlIs.ko ⟨t,fq,rfl,ht,ff.mono s4⟩ (.lst h4))
   ·rintro H2 ⟨_,s2,ts,h2,hv⟩;rw [show ((sp.length:Nat):Int).toNat=(sp.zip (ws.map vC)).length by omega,ge] at hv;exact ⟨q,ts,rfl,s2,h2,hv⟩
  rintro σ' H1 ⟨q,tp,rfl,s1,hq,hP⟩;refine ⟨_,rfl,_,rfl,lr,_,rfl,.inl (s1.seq hlr),_,rfl,by omega,by rw [hrs.1];omega,λ q2 nq2=>?_⟩;rw [hrs.1];have lz:(zD sp rs wn).length=rs.length:=by unfold zD;rw [fG,hX];omega
  refine a8 (λ i H2=>i<=rs.length/\Same H1 H2/\∃ ts,H2 q2=some (.lst ts)/\RowAt (WayIs a) H2 ts ((zD sp rs wn).take i)) ⟨fY _,ay nq2,[],ae,RowAt.nil⟩ ?_ ?_
  ·rintro i H2 hi ⟨_,s2,ts,h2,hv⟩;have hi':i<rs.length:=by omega
   rw [iw];refine g1 ⟨⟨[_],rfl,rfl⟩,yes ?_⟩;have s12:=s1.trans s2;obtain ⟨r,er⟩:∃ r,rs[i]?=some r:=⟨_,fF hi'⟩;obtain ⟨n,en⟩:∃ n,wn[i]?=some n:=⟨_,fF (by omega)⟩;obtain ⟨v,ev,hr7⟩:=(hrs.mono λ v x z=>R7Is.mono z s12).get' er;refine ⟨_,rfl,_,rfl,lr,_,_,_,rfl,rfl,s12.seq hlr,atI_nat ev,_,rfl,_,rfl,lw,_,_,_,rfl,rfl,s12.seq hlw,eS en,_,rfl,v,r,n,ln,sp,rfl,hr7,ok r (fK er),nd,s12.seq hln,λ p H3 np s3 W=>?_⟩;have h3:=s3 _ _ h2;have lts:ts.length=i:=by rw [hv.1,fZ];omega
   refine ⟨_,h3,aE (by omega),cP hi ⟨hi',aH nq2 (s2.trans s3),_,ae,?_⟩⟩
   have ez:(zD sp rs wn)[i]?=some (r.d n sp):=by
    unfold zD;rw [fN,gx (z:=(r,n)) |>.mpr ⟨er,en⟩];rfl
   rw [gf,ez,gv];exact RowAt.snoc (hv.mono λ v x z=>(z.mono s3).ko (.lst h3)) (W.ko (.lst h3))
  ·rintro H2 ⟨_,s2,ts,h2,hv⟩;rw [show ((rs.length:Nat):Int).toNat=(zD sp rs wn).length by omega,ge] at hv
   have nk:NetOk (sp.zip (ws.map vC)) (zD sp rs wn):=by
    have np:(sp.zip (ws.map vC)).map (·.1)=sp:=by rw [List.map_fst_zip];rw [fG];omega
    refine ⟨by rw [np];exact nd,by rw [hX];omega,?_,by omega,λ d hd=>?_⟩
    ·rw [show (zD sp rs wn).map (·.nm)=wn by unfold zD;rw [gB,show ((λ x:WD=>x.nm) ∘ λ z:R7 × Str=>z.1.d z.2 sp)=(λ z=>z.2) from funext λ z=>R7.d_nm _ _ _,List.map_snd_zip];omega];exact ndw
    ·unfold zD at hd;obtain ⟨z,hz,rfl⟩:=fQ.mp hd;have o:=ok z.1 (hJ hz).1;rw [np,R7.d_st,R7.d_go];exact ⟨fK (getSx o.st),fK (getSx o.go)⟩
   exact mkN (SqL.of (s2 _ _ hq)) (hP.mono λ v x z=>z.mono s2) (SqL.of h2) hv nk λ p H4 np s4 hn=>k p H4 (s1.free (s2.free np)) ((s1.trans s2).trans s4) hn
noncomputable def rpv (r:R7):Rat:=(r.put.map vC).getD 0
noncomputable def plK (zs:List (R7 × Str)):List Str:=(zs.filter λ z=>z.1.put.isSome).map (·.2)
noncomputable def pA (zs:List (R7 × Str)) (n:Str):Rat:=((zs.find? λ z=>decide (z.2=n)).map λ z=>rpv z.1).getD 0
theorem pA_at {zs:List (R7 × Str)} (nd:(zs.map (·.2)).Nodup) {z:R7 × Str} (h:z∈zs):pA zs z.2=rpv z.1:=by
 unfold pA
 induction zs with
 | nil=>cases h
 | cons y r ih=>
  obtain ⟨n1,n2⟩:=List.nodup_cons.mp (show (y.2::r.map (·.2)).Nodup from nd);by_cases e:y.2=z.2
  ·rw [List.find?_cons_of_pos (by rw [e];exact fV rfl)];rcases gw.mp h with q | q
   ·rw [q];rfl
   ·exact absurd (by rw [e];exact fQ.mpr ⟨z,q,rfl⟩) n1
  ·rw [List.find?_cons_of_neg (by rw [fU e];decide)];rcases gw.mp h with q | q
   ·exact absurd (by rw [q]) e
   ·exact ih n2 q
theorem plK_snoc (zs:List (R7 × Str)) (z:R7 × Str):plK (zs++[z])=if z.1.put.isSome=true then plK zs++[z.2] else plK zs:=by
 unfold plK;rw [List.filter_append]
 cases e:z.1.put.isSome with
 | true=>simp [List.filter_cons,e]
 | false=>simp [List.filter_cons,e]
theorem plK_sub {zs:List (R7 × Str)} {n:Str} (h:n∈plK zs):n∈zs.map (·.2):=by
 obtain ⟨z,hz,e⟩:=fQ.mp h;exact fQ.mpr ⟨z,(List.mem_filter.mp hz).1,e⟩
inductive IspLPlan (K:W.Frag) (a:Ad) (vs:List V) (H:Hp) (Q:VK):Prop
 | mk (lr lw:Addr) (us:List V) (rs:List R7) (wn:List Str) (h1:vs=[.ref lr,.ref lw]) (h2:SqL K H lr us) (h3:RowAt R7Is H us rs) (h4:SqL K H lw (wn.map V.str)) (h5:rs.length=wn.length) (h6:rs.length<=12) (h7:wn.Nodup) (h8:(∀ r∈rs,∀ c,r.put=some c->PB 250 c)) (h9:∀ d H' kvs,H d=none->Same H H'->H' d=some (.dK kvs)->Tab (FrIs a) H' kvs (plK (rs.zip wn)) (pA (rs.zip wn))->Q (.ref d) H'):IspLPlan K a vs H Q
noncomputable def spLPlan (K:W.Frag) (a:Ad):Sp:=λ vs H Q _=>IspLPlan K a vs H Q
theorem ok_law_plan (T:TX K mg a):FnB P w K mg base CX0 "_law_plan" 7 ["_law_rows","_law_ways"] (spLPlan K a):=by
 refine T.d_law_plan.ok sc_law_plan (λ vs H Q E h=>?_) (λ f cdv A outer s H vs Q E hr h=>?_)
 ·obtain ⟨_,_,_,_,_,rfl,_⟩:=h;rfl
 ·obtain ⟨lr,lw,us,rs,wn,rfl,hlr,hrs,hlw,lrw,r12,ndw,pb,k⟩:=h
  refine ⟨_,(af (al (i:=2) sc_law_plan.nd rfl (Or.inl rfl) dW)
   (af (bK gA rfl (aU rfl T.z_range (aa (aC aW (by rfl) T.z_len gM (aa (pv 0) ad)) ad)) (az (i:=3) sc_law_plan.nd rfl (Or.inl rfl)) (ag (aD (ar cM (ao aB (ao au (pv 0) (pv 3) (λ _ _=>rfl)) ac (λ _ _=>rfl)) bG (aA _)) (ag (dl (bB hr) (pv 2) (ao au (pv 1) (pv 3) (λ _ _=>rfl)) (bo (mk2 T) hr T.mg_Fraction ak (aa (ao aB (ao aB (ao au (pv 0) (pv 3) (λ _ _=>rfl)) ac (λ _ _=>rfl)) ac (λ _ _=>rfl)) (aa (ao aB (ao aB (ao au (pv 0) (pv 3) (λ _ _=>rfl)) ac (λ _ _=>rfl)) ac (λ _ _=>rfl)) ad))) rfl)) ap)))
   (ag (aq (pv 2))))),?_⟩
  try dsimp only [aG,Cx.nox,Cx.wish]
  intro d nd;obtain ⟨H1,zq,s1,h1⟩:=uG (o:=.dK []) nd;rw [zq];have lz:(rs.zip wn).length=rs.length:=by rw [hX];omega
  have ndz:((rs.zip wn).map (·.2)).Nodup:=by rw [List.map_snd_zip];exact ndw;omega
  refine ⟨_,rfl,lr,_,rfl,.inl (s1.seq hlr),_,rfl,by omega,by rw [hrs.1];omega,?_⟩;rw [hrs.1];refine eC (λ i σ H2=>i<=rs.length/\∃ z3 kvs,σ=[some (.ref lr),some (.ref lw),some (.ref d),z3]/\Same H H2/\H2 d=some (.dK kvs)/\Tab (FrIs a) H2 kvs (plK ((rs.zip wn).take i)) (pA (rs.zip wn))) ⟨fY _,none,[],rfl,s1,h1,Tab.nil⟩ ?_ ?_
  ·rintro i σ H2 hi ⟨_,z3,kvs,rfl,s2,hd,tb⟩;have hi':i<rs.length:=by omega
   rw [iw];obtain ⟨r,er⟩:∃ r,rs[i]?=some r:=⟨_,fF hi'⟩;obtain ⟨n,en⟩:∃ n,wn[i]?=some n:=⟨_,fF (by omega)⟩;have ez:(rs.zip wn)[i]?=some (r,n):=gx (z:=(r,n)) |>.mpr ⟨er,en⟩
   have tk:(rs.zip wn).take (i+1)=(rs.zip wn).take i++[(r,n)]:=by rw [gf,ez,gv]
   obtain ⟨v,ev,p,vg,vp,vh,vc,rfl,hp,hg,hpt,hhi,hc⟩:=(hrs.mono λ v x z=>R7Is.mono z s2).get' er;have sp:=SqT.of (K:=K) hp;refine ⟨_,rfl,_,rfl,lr,_,_,_,rfl,rfl,s2.seq hlr,atI_nat ev,p,_,_,_,rfl,rfl,sp,rfl,rfl,_,rfl,?_⟩
   cases ho:r.put with
   | none=>
    rw [ho] at hpt;obtain rfl:vp=.non:=hpt;refine iteF ⟨hi',_,kvs,rfl,s2,hd,?_⟩;rw [tk,plK_snoc,if_neg (by rw [ho];decide)];exact tb
   | some c=>
    rw [ho] at hpt;obtain ⟨pp,rfl,hpp⟩:=hpt;have pc:=pb r (fK er) c ho;have po:=pc.o;have spp:=SqT.of (K:=K) hpp;refine iteT ⟨_,rfl,_,rfl,lr,_,_,_,rfl,rfl,s2.seq hlr,atI_nat ev,p,_,_,_,rfl,rfl,sp,rfl,pp,_,_,_,rfl,rfl,spp,rfl,_,rfl,_,rfl,lr,_,_,_,rfl,rfl,s2.seq hlr,atI_nat ev,p,_,_,_,rfl,rfl,sp,rfl,pp,_,_,_,rfl,rfl,spp,rfl,_,_,rfl,by omega,pc.sm.2,λ q H3 nq s3 fq=>?_⟩;have hd3:=s3 _ _ hd
    have lk:kvs.length<=900:=by
     rw [tb.len]
     have:=List.length_filter_le (λ z:R7 × Str=>z.1.put.isSome) ((rs.zip wn).take i)
     unfold plK;rw [fG];rw [fZ] at this;omega
    refine ⟨_,rfl,_,rfl,_,rfl,lw,_,_,_,rfl,rfl,(s2.trans s3).seq hlw,eS en,d,_,rfl,DPut.k (k:=Sum.inr n) hd3 (aE (by omega)),?_⟩;refine ⟨hi',_,_,rfl,aH nd (s2.trans s3),ae,?_⟩
    have nn:n ∉ plK ((rs.zip wn).take i):=λ z=>by
     obtain ⟨j,hj⟩:=gr.mp (plK_sub z);rw [List.map_take,List.getElem?_take] at hj
     split at hj
     ·have:j=i:=(gL (fL.mp hj).1 ndz).mp (by rw [hj,fN,ez];rfl)
      omega
     ·cases hj
    have pn:pA (rs.zip wn) n=vC c:=by
     rw [pA_at ndz (fK ez)];unfold rpv;rw [ho];rfl
    rw [tk,plK_snoc,if_pos (by rw [ho];rfl),<- addK_new nn];have ko:KeepO H3 (upd H3 d (.dK (bW kvs (Sum.inr n) (.ref q)))):=.dct hd3
    exact (Tab.put (n:=n) (y:=vC c) (tb.mono λ v x z=>(FrIs.mono z s3).ko ko) (FrIs.ko ⟨q,rfl,fq⟩ ko)).congr λ m hm=>by
     by_cases em:m=n
     ·subst em;rw [upf_same,pn]
     ·rw [upf_ne em]
  ·rintro σ H2 ⟨_,z3,kvs,rfl,s2,hd,tb⟩;rw [show ((rs.length:Nat):Int).toNat=(rs.zip wn).length by omega,ge] at tb;exact ⟨_,rfl,k d H2 kvs nd s2 hd tb⟩
noncomputable def inU (r:R7) (k:Nat) (un:List (Int × Int)):R7:=⟨(r.kd+k) % 3,r.st,r.go,(r.gain.1*((un.getD r.go (1,1)).1*(un.getD r.st (1,1)).2),r.gain.2*((un.getD r.go (1,1)).2*(un.getD r.st (1,1)).1)),r.put.map λ c=>(c.1*(un.getD r.st (1,1)).1,c.2*(un.getD r.st (1,1)).2),r.hi.map λ c=>(c.1*(un.getD r.st (1,1)).1,c.2*(un.getD r.st (1,1)).2),(r.co.1*(un.getD r.st (1,1)).2,r.co.2*(un.getD r.st (1,1)).1)⟩
structure UOk (u:Int × Int):Prop where
 t0:1<=u.1
 b:PB 60 u
theorem inU_ok {n:Nat} {r:R7} (h:R7Ok n r) {un:List (Int × Int)} (hu:∀ u∈un,UOk u) (ln:un.length=n) (k:Nat):R7W n (inU r k un):=by
 have g:∀ i,UOk (un.getD i (1,1)):=λ i=>by
  rw [fP]
  cases e:un[i]? with
  | none=>exact ⟨by decide,by decide,by decide,by decide⟩
  | some u=>exact hu u (fK e)
 have a:=g r.st;have b:=g r.go;have ba:PB 60 ((un.getD r.st (1,1)).2,(un.getD r.st (1,1)).1):=⟨a.b.b,a.t0,a.b.t⟩;have pp:∀ {x y:Int},1<=x->1<=y->1<=x*y:=λ {x y} hx hy=>Int.mul_pos (show 0<x by omega) (show 0<y by omega);have W:=h.wide;obtain ⟨a1,a2⟩:=h.g1;obtain ⟨b1,b2⟩:=h.g2;obtain ⟨c1,c2,c3⟩:=h.co;have e10:(10:Nat)<=2 ^ 30:=by decide
 have e100:(100:Nat)<=2 ^ 30:=by decide
 have gp:PB 30 r.gain:=⟨by omega,b1,by omega⟩;have cp:PB 30 r.co:=⟨by omega,c1,by omega⟩;refine ⟨h.st,h.go,h.ne,?_,pp a1 (pp b.t0 a.b.o),(gp.times (b.b.times ba)).mono (by decide),λ c e=>?_,λ c e=>?_,(cp.times ba).mono (by decide)⟩
 ·show (r.kd+k) % 3=0∨(r.kd+k) % 3=1∨(r.kd+k) % 3=2;obtain ⟨q1,q2⟩:=aT (r.kd+k) (show (0:Int)<3 by decide);omega
 ·obtain ⟨c',e1,rfl⟩:=gW.mp e;obtain ⟨x,y,z⟩:=h.pt c' e1;have e6:(6:Nat)<=2 ^ 150:=by decide
  exact (PB.times ⟨x,y,by omega⟩ a.b).mono (by decide)
 ·obtain ⟨c',e1,rfl⟩:=gW.mp e;obtain ⟨x,y,z,u⟩:=h.hi c' e1;have e6:(100:Nat)<=2 ^ 200:=by decide
  exact ⟨Int.mul_nonneg x (by have:=a.t0;omega),(PB.times ⟨y,z,by omega⟩ a.b).mono (by decide)⟩
theorem getDU {un:List (Int × Int)} {i:Nat} (h:i<un.length):un[i]?=some (un.getD i (1,1)):=by rw [fP,fF h];rfl
inductive IspInU (K:W.Frag) (vs:List V) (H:Hp) (Q:VK):Prop
 | mk (v:V) (lu:Addr) (tu:List V) (r:R7) (k:Nat) (un:List (Int × Int)) (h1:vs=[v,.int (k:Int),.ref lu]) (h2:R7Is H v r) (h3:SqL K H lu tu) (h4:RowAt DueIs H tu un) (h5:R7Ok un.length r) (h6:(∀ u∈un,UOk u)) (h7:∀ v' H',Same H H'->R7Is H' v' (inU r k un)->Q v' H'):IspInU K vs H Q
noncomputable def spInU (K:W.Frag):Sp:=λ vs H Q _=>IspInU K vs H Q
theorem ok_law_in_units (T:TX K mg a):FnB P w K mg base CX0 "_law_in_units" 2 ["_law_row_here","_law_k","_law_units_here"] (spInU K):=by
 refine T.d_law_in_units.ok sc_law_in_units (λ vs H Q E h=>?_) (λ f cdv A outer s H vs Q E hr h=>?_)
 ·obtain ⟨_,_,_,_,_,_,rfl,_⟩:=h;rfl
 ·obtain ⟨v,lu,tu,r,kk,un,rfl,⟨p,vg,vp,vh,vc,rfl,hp,⟨pg,rfl,hg⟩,hpt,hhi,⟨pc,rfl,hc⟩⟩,hlu,hun,ok,uok,k⟩:=h
  refine ⟨_,(af (ps_asg (pv 0) (pg_tup rfl (aI (az (i:=3) sc_law_in_units.nd rfl (Or.inl rfl)) (aI (az (i:=4) sc_law_in_units.nd rfl (Or.inl rfl)) (aI (az (i:=5) sc_law_in_units.nd rfl (Or.inl rfl)) (aI (az (i:=6) sc_law_in_units.nd rfl (Or.inl rfl)) (aI (az (i:=7) sc_law_in_units.nd rfl (Or.inl rfl)) (aI (az (i:=8) sc_law_in_units.nd rfl (Or.inl rfl)) (aI (az (i:=9) sc_law_in_units.nd rfl (Or.inl rfl)) fg)))))))))
   (af (al (i:=10) sc_law_in_units.nd rfl (Or.inl rfl) (ao au (pv 2) (pv 4) (λ _ _=>rfl)))
   (af (al (i:=11) sc_law_in_units.nd rfl (Or.inl rfl) (aF (aa (ao aB (pv 10) ac (λ _ _=>rfl)) (aa (ao aB (pv 10) ac (λ _ _=>rfl)) ad))))
   (af (al (i:=6) sc_law_in_units.nd rfl (Or.inl rfl) (aw (bq T) hr ak (aa (pv 6) (aa (aw (bq T) hr ak (aa (ao au (pv 2) (pv 5) (λ _ _=>rfl)) (aa (pv 11) ad))) ad))))
   (ax (aD (ar cM (pv 7) bG (aA _)) (ag (al (i:=7) sc_law_in_units.nd rfl (Or.inl rfl) (aw (bq T) hr ak (aa (pv 7) (aa (pv 10) ad))))) ap)
   (ax (aD (ar cM (pv 8) bG (aA _)) (ag (al (i:=8) sc_law_in_units.nd rfl (Or.inl rfl) (aw (bq T) hr ak (aa (pv 8) (aa (pv 10) ad))))) ap)
   (ag (aq (aF (aa (aj aJ (aj aY (pv 3) (pv 1)) ac) (aa (pv 4) (aa (pv 5) (aa (pv 6) (aa (pv 7) (aa (pv 8) (aa (aw (bq T) hr ak (aa (pv 9) (aa (pv 11) ad))) ad)))))))))))))))),?_⟩
  try dsimp only [aG,Cx.nox,Cx.wish]
  refine ⟨_,rfl,p,_,rfl,SqT.of hp,rfl,_,_,rfl,_,_,rfl,_,_,rfl,_,_,rfl,_,_,rfl,_,_,rfl,_,_,rfl,rfl,?_⟩;obtain ⟨vs',ev,ps,rfl,hs⟩:=hun.get' (getDU ok.st);obtain ⟨vg',evg,pgo,rfl,hgo⟩:=hun.get' (getDU ok.go);generalize hus:un.getD r.st (1,1)=us at hs;generalize hug:un.getD r.go (1,1)=ug at hgo;have us':UOk us:=uok us (fK (by rw [<- hus];exact getDU ok.st));have ug':UOk ug:=uok ug (fK (by rw [<- hug];exact getDU ok.go));have mS:=us'.b.sm;have mG:=ug'.b.sm;refine ⟨_,rfl,_,rfl,lu,_,_,_,rfl,rfl,hlu,atI_nat ev,?_⟩;refine ⟨_,rfl,ps,_,_,_,rfl,rfl,SqT.of hs,rfl,_,rfl,ps,_,_,_,rfl,rfl,SqT.of hs,rfl,zL2,λ pb nb=>?_⟩;obtain ⟨H1,zq,s1,h1⟩:=uG (o:=.tup [.int us.2,.int us.1]) nb;rw [zq];refine ⟨_,rfl,_,rfl,_,rfl,lu,_,_,_,rfl,rfl,s1.seq hlu,atI_nat evg,_,rfl,pgo,pb,ug.1,ug.2,us.2,us.1,rfl,s1 _ _ hgo,h1,mG.1,mG.2,mS.2,mS.1,λ pm nm=>?_⟩;have s2:=s1.trans (ay (o:=.tup [.int (ug.1*us.2),.int (ug.2*us.1)]) nm);have h2:upd H1 pm (.tup [.int (ug.1*us.2),.int (ug.2*us.1)]) pm=some (.tup [.int (ug.1*us.2),.int (ug.2*us.1)]):=ae;have hb2:=ay (o:=.tup [.int (ug.1*us.2),.int (ug.2*us.1)]) nm _ _ h1;generalize upd H1 pm (.tup [.int (ug.1*us.2),.int (ug.2*us.1)])=H2 at s2 h2 hb2 ⊢;have gs:Sm r.gain.1/\Sm r.gain.2:=ok.wide.g.sm;have mm:PB 120 (ug.1*us.2,ug.2*us.1):=ug'.b.times (b:=(us.2,us.1)) ⟨us'.b.b,us'.t0,us'.b.t⟩;refine ⟨pg,pm,r.gain.1,r.gain.2,ug.1*us.2,ug.2*us.1,rfl,s2 _ _ hg,h2,gs.1,gs.2,mm.sm.1,mm.sm.2,λ pg2 ng2=>?_⟩;have s3:=s2.trans (ay (o:=.tup [.int (r.gain.1*(ug.1*us.2)),.int (r.gain.2*(ug.2*us.1))]) ng2);have h3:upd H2 pg2 (.tup [.int (r.gain.1*(ug.1*us.2)),.int (r.gain.2*(ug.2*us.1))]) pg2=some (.tup [.int (r.gain.1*(ug.1*us.2)),.int (r.gain.2*(ug.2*us.1))]):=ae;have hb3:=ay (o:=.tup [.int (r.gain.1*(ug.1*us.2)),.int (r.gain.2*(ug.2*us.1))]) ng2 _ _ hb2;generalize upd H2 pg2 (.tup [.int (r.gain.1*(ug.1*us.2)),.int (r.gain.2*(ug.2*us.1))])=H3 at s3 h3 hb3 ⊢;have fin:inU r kk un=⟨(r.kd+kk) % 3,r.st,r.go,(r.gain.1*(ug.1*us.2),r.gain.2*(ug.2*us.1)),r.put.map λ c=>(c.1*us.1,c.2*us.2),r.hi.map λ c=>(c.1*us.1,c.2*us.2),(r.co.1*us.2,r.co.2*us.1)⟩:=by unfold inU;rw [hus,hug]
  refine ⟨λ σ' H'=>∃ vp2,σ'=[some (.ref p),some (.int (kk:Int)),some (.ref lu),some (.int r.kd),some (.int r.st),some (.int r.go),some (.ref pg2),some vp2,some vh,some (.ref pc),some (.ref ps),some (.ref pb)]/\Same H3 H'/\OptIs H' vp2 (r.put.map λ c=>(c.1*us.1,c.2*us.2)),?_,?_⟩
  ·cases ho:r.put with
   | none=>
    rw [ho] at hpt;obtain rfl:vp=.non:=hpt;exact ⟨_,rfl,rfl,_,rfl,iteF ⟨_,rfl,Same.refl _,rfl⟩⟩
   | some c=>
    rw [ho] at hpt;obtain ⟨pp,rfl,hpp⟩:=hpt;have pc':=(ok.wide.pt c ho).sm;refine ⟨_,rfl,rfl,_,rfl,iteT ⟨_,rfl,_,rfl,pp,ps,c.1,c.2,us.1,us.2,rfl,s3 _ _ hpp,s3 _ _ hs,pc'.1,pc'.2,mS.1,mS.2,λ q nq=>?_⟩⟩;exact ⟨_,rfl,ay nq,q,rfl,ae⟩
  rintro σ' H4 ⟨vp2,rfl,s4,o4⟩;refine ⟨λ σ' H'=>∃ vh2,σ'=[some (.ref p),some (.int (kk:Int)),some (.ref lu),some (.int r.kd),some (.int r.st),some (.int r.go),some (.ref pg2),some vp2,some vh2,some (.ref pc),some (.ref ps),some (.ref pb)]/\Same H4 H'/\OptIs H' vh2 (r.hi.map λ c=>(c.1*us.1,c.2*us.2)),?_,?_⟩
  ·cases ho:r.hi with
   | none=>
    rw [ho] at hhi;obtain rfl:vh=.non:=hhi;exact ⟨_,rfl,rfl,_,rfl,iteF ⟨_,rfl,Same.refl _,rfl⟩⟩
   | some c=>
    rw [ho] at hhi;obtain ⟨pp,rfl,hpp⟩:=hhi;have pc':=(ok.wide.hi c ho).2.sm;have s34:=s3.trans s4;refine ⟨_,rfl,rfl,_,rfl,iteT ⟨_,rfl,_,rfl,pp,ps,c.1,c.2,us.1,us.2,rfl,s34 _ _ hpp,s34 _ _ hs,pc'.1,pc'.2,mS.1,mS.2,λ q nq=>?_⟩⟩;exact ⟨_,rfl,ay nq,q,rfl,ae⟩
  rintro σ' H5 ⟨vh2,rfl,s5,o5⟩;have s35:=s4.trans s5;have s05:=s3.trans s35;have cs:=ok.wide.co.sm;refine ⟨_,rfl,_,rfl,_,_,rfl,rfl,_,_,rfl,rfl,zI3,_,rfl,_,rfl,_,rfl,_,rfl,_,rfl,_,rfl,_,rfl,pc,pb,r.co.1,r.co.2,us.2,us.1,rfl,s05 _ _ hc,s35 _ _ hb3,cs.1,cs.2,mS.2,mS.1,λ qc nqc=>?_⟩;obtain ⟨H6,zq,s6,h6⟩:=uG (o:=.tup [.int (r.co.1*us.2),.int (r.co.2*us.1)]) nqc;rw [zq];refine ⟨zL7,λ q nq=>?_⟩;have s7:=ay (o:=.tup [.int ((r.kd+kk) % 3),.int r.st,.int r.go,.ref pg2,vp2,vh2,.ref qc]) nq;have s67:=s6.trans s7;refine k _ _ (s05.trans s67) ?_;rw [fin];exact ⟨q,.ref pg2,vp2,vh2,.ref qc,rfl,ae,⟨pg2,rfl,(s35.trans s67) _ _ h3⟩,OptIs.mono (OptIs.mono o4 s5) s67,OptIs.mono o5 s67,⟨qc,rfl,s7 _ _ h6⟩⟩
inductive IspUnits (K:W.Frag) (vs:List V) (H:Hp) (Q:VK):Prop
 | mk (l:Addr) (n:Nat) (ns:List Int) (h1:vs=[.ref l,.int n]) (h2:SqL K H l (ns.map V.int)) (h3:n<=12) (h4:∀ p H' ts (un:List (Int × Int)),H p=none->Same H H'->H' p=some (.lst ts)->RowAt DueIs H' ts un->un.length=n->(∀ u∈un,UOk u)->Q (.ref p) H'):IspUnits K vs H Q
noncomputable def spUnits (K:W.Frag):Sp:=λ vs H Q _=>IspUnits K vs H Q
theorem ok_law_units (T:TX K mg a):FnB P w K mg base CX0 "_law_units" 3 ["_law_script","_law_n"] (spUnits K):=by
 refine T.d_law_units.ok sc_law_units (λ vs H Q E h=>?_) (λ f cdv A outer s H vs Q E hr h=>?_)
 ·obtain ⟨_,_,_,rfl,_⟩:=h;rfl
 ·obtain ⟨l,n,ns,rfl,hS,n12,k⟩:=h
  refine ⟨_,(af (al (i:=2) sc_law_units.nd rfl (Or.inl rfl) (cT ad))
   (af (bK gA rfl (aU rfl T.z_range (aa (pv 1) ad)) (az (i:=3) sc_law_units.nd rfl (Or.inl rfl)) (af (al (i:=4) sc_law_units.nd rfl (Or.inl rfl) (aw (eO T) hr ak (aa (pv 0) (aa (aj aY ac (pv 3)) ad))))
   (af (bD (pe_bm PySem.F.plainAttrs_list PySem.F.slot_list_append PySem.F.type_list_append et (pv 2) (aa (aF (aa (aj aY ac (aj aJ (pv 4) ac)) (aa (aj aY ac (aj aJ (aj aR (pv 4) ac) ac)) ad))) ad)))
   (ag (aD (PW.pt (dk (ar bO (aj aJ (aj aR (aw (aO T) hr ak (aa (pv 0) (aa ac ad))) ac) ac) ac (aA _)) (cq (ar bO (aj aJ (pv 3) ac) ac (aA _))))) (ag (ps_asg (aF (aa (aj aY (aj aP (ao aB (ao au (pv 2) (pv 3) (λ _ _=>rfl)) ac (λ _ _=>rfl)) (aj op_pow ac ac)) ac) (aa (ao aB (ao au (pv 2) (pv 3) (λ _ _=>rfl)) ac (λ _ _=>rfl)) ad))) (pg_sub (pv 2) (pv 3) eZ))) ap)))))
   (ag (aq (pv 2))))),?_⟩
  try dsimp only [aG,Cx.nox,Cx.wish]
  refine ⟨zL0,λ p np=>?_⟩;obtain ⟨H1,zq,s1,h1⟩:=uG (o:=.lst []) np;rw [zq];refine ⟨_,rfl,(n:Int),rfl,by omega,by omega,eC (n:=(n:Int).toNat) (λ i σ H2=>i<=n/\∃ (ts:List V) (un:List (Int × Int)) (z3 z4:Option V),σ=[some (.ref l),some (.int n),some (.ref p),z3,z4]/\Same H H2/\H2 p=some (.lst ts)/\RowAt DueIs H2 ts un/\un.length=i/\∀ u∈un,UOk u) ⟨fY _,[],[],none,none,rfl,s1,h1,RowAt.nil,rfl,λ u hu=>by cases hu⟩ ?_ ?_⟩
  ·rintro i σ H2 hi ⟨_,ts,un,z3,z4,rfl,s2,hp,hv,lun,uok⟩;have hi':i<n:=by simpa using hi
   rw [iw];refine ⟨_,rfl,_,rfl,_,_,rfl,rfl,l,ns,46+i,by show [V.ref l,V.int (46+(i:Int))]=[V.ref l,V.int ((46+i:Nat):Int)];rw [show 46+(i:Int)=((46+i:Nat):Int) by omega],s2.seq hS,by omega,λ c=>?_⟩;obtain ⟨c0,c1⟩:=aT c (show (0:Int)<6 by decide);obtain ⟨c2,c3⟩:=aT (c / 6) (show (0:Int)<5 by decide);refine ⟨_,rfl,.inl ⟨rfl,_,SqL.of hp⟩,_,rfl,_,_,rfl,rfl,zI6,_,_,rfl,rfl,_,rfl,_,_,rfl,rfl,⟨by decide,by decide⟩,_,_,rfl,rfl,zI5,_,_,rfl,rfl,zL2,λ t nt=>?_⟩;generalize hH:upd H2 t _=H3;have s3:Same H2 H3:=hH ▸ ay nt;have h3:H3 t=some (.tup [.int (1+c % 6),.int (1+c / 6 % 5)]):=by rw [<- hH];exact ae
   clear hH
   have ub:UOk (1+c % 6,1+c / 6 % 5):=by
    have e:(6:Nat)<=2 ^ 60:=by decide
    exact ⟨by show 1<=1+c % 6;omega,by show (1+c % 6).natAbs<=_;omega,by show 1<=1+c / 6 % 5;omega,by show (1+c / 6 % 5).natAbs<=_;omega⟩
   have hu1:1<=1+c % 6/\1+c % 6<=6:=by omega
   generalize 1+c % 6=u1 at h3 ub hu1;generalize 1+c / 6 % 5=u2 at h3 ub;have lts:ts.length=i:=by rw [hv.1,lun]
   refine ⟨p,_,_,rfl,rfl,s3 _ _ hp,aE (by omega),?_⟩;have hp3:=s3 _ _ hp;have ko:KeepO H3 (upd H3 p (.lst (ts++[.ref t]))):=.lst hp3;have s4:Same H (upd H3 p (.lst (ts++[.ref t]))):=aH np (s2.trans s3);have h4:upd H3 p (.lst (ts++[.ref t])) p=some (.lst (ts++[.ref t])):=ae;have hv4:RowAt DueIs (upd H3 p (.lst (ts++[.ref t]))) (ts++[.ref t]) (un++[(u1,u2)]):=RowAt.snoc (hv.mono λ v x z=>(DueIs.mono z s3).ko ko) (DueIs.ko ⟨t,rfl,h3⟩ ko);have ht4:upd H3 p (.lst (ts++[.ref t])) t=some (.tup [.int u1,.int u2]):=ko.tup _ _ h3;generalize upd H3 p (.lst (ts++[.ref t]))=H4 at s4 h4 hv4 ht4 ⊢;have uok4:∀ u∈un++[(u1,u2)],UOk u:=λ u hu=>(List.mem_append.mp hu).elim (uok u) λ z=>by rw [List.mem_singleton.mp z];exact ub
   have l4:(un++[(u1,u2)]).length=i+1:=by rw [fX,lun];rfl
   refine ⟨_,rfl,l,ns,1,rfl,s4.seq hS,_,_,rfl,rfl,⟨by decide,by decide⟩,_,_,rfl,rfl,zI3,rfl,_,rfl,ifV (λ _=>?_) (λ _=>iteF ⟨hi',_,_,_,_,rfl,s4,h4,hv4,l4,uok4⟩)⟩;refine ⟨_,rfl,_,_,rfl,rfl,zI2,rfl,_,rfl,ifV (λ _=>?_) (λ _=>⟨hi',_,_,_,_,rfl,s4,h4,hv4,l4,uok4⟩)⟩;have ati:atI (ts++[V.ref t]) (i:Int)=some (.ref t):=atI_nat (by rw [<- lts,gE (fM _),Nat.sub_self];rfl);have q4:=SqL.of (K:=K) h4;have qt:=SqT.of (K:=K) ht4;have e15:(10:Int) ^ (15:Int).toNat=10 ^ 15:=rfl;refine ⟨_,rfl,_,rfl,p,_,_,_,rfl,rfl,q4,ati,t,_,_,_,rfl,rfl,qt,rfl,_,_,rfl,rfl,⟨by decide,by decide,by decide⟩,_,_,rfl,rfl,⟨ub.b.sm.1,by show Sm (10 ^ 15);exact Sm.of_le (n:=60) (by decide) (by decide)⟩,_,_,rfl,rfl,_,rfl,_,rfl,p,_,_,_,rfl,rfl,q4,ati,t,_,_,_,rfl,rfl,qt,rfl,zL2,λ t2 nt2=>?_⟩;generalize hH:upd H4 t2 _=H5;have s5:Same H4 H5:=hH ▸ ay nt2;have h5:H5 t2=some (.tup [.int (u1*10 ^ 15+37),.int u2]):=by rw [<- hH];exact ae
   clear hH;refine ⟨_,rfl,_,rfl,p,_,_,i,rfl,rfl,s5 _ _ h4,ixN_nat (by rw [fX,lts];exact Nat.lt_succ_self i),?_⟩;have ko5:KeepO H5 (upd H5 p (.lst ((ts++[V.ref t]).set i (V.ref t2)))):=.lst (s5 _ _ h4);refine ⟨hi',_,(un++[(u1,u2)]).set i (u1*10 ^ 15+37,u2),_,_,rfl,aH np (s4.trans s5),ae,(hv4.mono λ v x z=>(DueIs.mono z s5).ko ko5).set i (DueIs.ko (c:=(u1*10 ^ 15+37,u2)) ⟨t2,rfl,h5⟩ ko5),by rw [hV];exact l4,λ u hu=>?_⟩;rcases List.mem_or_eq_of_mem_set hu with q | q
   ·exact uok4 u q
   ·rw [q];have e60:(2:Nat) ^ 60=1152921504606846976:=by decide
    exact ⟨by show 1<=u1*10 ^ 15+37;omega,by show (u1*10 ^ 15+37).natAbs<=_;rw [e60];omega,ub.b.o,ub.b.b⟩
  ·rintro σ H2 ⟨_,ts,un,z3,z4,rfl,s2,hp,hv,lun,uok⟩;exact ⟨_,rfl,k p H2 ts un np s2 hp hv (by simpa using lun) uok⟩
inductive IspSame (a:Ad) (vs:List V) (H:Hp) (Q:VK):Prop
 | mk (q r b:Addr) (x y:Rat) (u:Int × Int) (h1:vs=[.ref q,.ref r,.ref b]) (h2:FrAt a.Fraction H q x) (h3:FrAt a.Fraction H r y) (h4:H b=some (.tup [.int u.1,.int u.2])) (h5:SmR x) (h6:Bd 8000 y) (h7:PB 60 u) (h8:x=y*vC u) (h9:Q (.bl true) H):IspSame a vs H Q
noncomputable def spSame (a:Ad):Sp:=λ vs H Q _=>IspSame a vs H Q
theorem cN (T:TX K mg a):FnB P w K mg base CX0 "_law_same" 5 ["_law_found","_law_due","_law_by"] (spSame a):=by
 refine T.d_law_same.ok sc_law_same (λ vs H Q E h=>?_) (λ f cdv A outer s H vs Q E hr h=>?_)
 ·obtain ⟨_,_,_,_,_,_,rfl,_⟩:=h;rfl
 ·obtain ⟨q,r,b,x,y,u,rfl,fq,fr,hb,sx,sy,pb,e,k⟩:=h
  refine ⟨_,(af (aD (bY (bE (aC (df (c:=.ref a.Fraction)) (by rfl) T.z_isinstance gX (aa (pv 1) (aa (pe_glob (v:=.ref a.Fraction) (by rfl) T.mg_Fraction rfl) ad))))) (ag (aq cE)) ap)
   (ag (aq (aw (ok_law_is T) hr ak (aa (pv 0) (aa (aj aP (bF T.fr (pv 1)) (ao aB (pv 2) ac (λ _ _=>rfl))) (aa (aj aP (bp T.fr (pv 1)) (ao aB (pv 2) ac (λ _ _=>rfl))) ad))))))),?_⟩
  try dsimp only [aG,Cx.nox,Cx.wish]
  have sb:=SqT.of (K:=K) hb;have dy:(y.den:Int)≠0:=d6 _;have po:=pb.o;have s8:∀ {i j:Int},i.natAbs<=2 ^ 8000->j.natAbs<=2 ^ 60->Sm (i*j):=λ h1 h2=>Sm.of_le (mul_b h1 h2) (by decide);have y2:(y.den:Int).natAbs<=2 ^ 8000:=by rw [ip];exact sy.2
  refine ⟨_,rfl,_,_,_,_,rfl,(λ u h=>h),fr.ty T.fr,T.k_Fraction_Fraction,_,rfl,iteF ?_⟩;refine ⟨_,rfl,_,rfl,r,y,rfl,fr,_,rfl,b,_,_,_,rfl,rfl,sb,rfl,_,_,rfl,rfl,⟨Sm.of_le sy.1 (by decide),pb.sm.1⟩,_,rfl,r,y,rfl,fr,_,rfl,b,_,_,_,rfl,rfl,sb,rfl,_,_,rfl,rfl,⟨Sm.of_le y2 (by decide),pb.sm.2⟩,q,x,_,_,rfl,fq,sx,s8 sy.1 pb.t,s8 y2 pb.b,Int.mul_ne_zero dy (by omega),?_,k⟩;rw [e];unfold vC;rw [<- Rat.divInt_mul_divInt,Rat.num_divInt_den]
inductive IspSumsBy (K:W.Frag) (a:Ad) (vs:List V) (H:Hp) (Q:VK):Prop
 | mk (p d ln du lu:Addr) (ps:List (Str × Rat)) (ds:List WD) (kvs kvd:List (Key × V)) (ks k2 sp:List Str) (f F:Str->Rat) (tu:List V) (un:List (Int × Int)) (h1:vs=[.ref p,.ref d,.ref ln,.ref du,.ref lu]) (h2:NetAt a H p ps ds) (h3:(ds.map (·.nm)).Nodup) (h4:ds.length<=24) (h5:H d=some (.dK kvs)) (h6:Tab (FrIs a) H kvs ks f) (h7:ks.Nodup) (h8:ks.length<=100) (h9:(∀ n∈ks,n∈ds.map (·.nm))) (h10:NetOff a H p d ps ds) (h11:SumOk (bn ks f) ps ds) (h12:SqL K H ln (sp.map V.str)) (h13:H du=some (.dK kvd)) (h14:Tab (FrIs a) H kvd k2 F) (h15:SqL K H lu tu) (h16:RowAt DueIs H tu un) (h17:sp.length<=12) (h18:ps.length=sp.length) (h19:un.length=sp.length) (h20:(∀ n∈sp,n∈ps.map (·.1)/\n∈k2/\Bd 8000 (F n))) (h21:(∀ u∈un,PB 60 u)) (h22:(∀ (i:Nat) n u,sp[i]?=some n->un[i]?=some u->bC (bn ks f) ds n=F n*vC u/\SmR (bC (bn ks f) ds n))) (h23:∀ H',Same H H'->Q (.bl true) H'):IspSumsBy K a vs H Q
noncomputable def spSumsBy (K:W.Frag) (a:Ad):Sp:=λ vs H Q _=>IspSumsBy K a vs H Q
theorem dY (T:TX K mg a):FnB P w K mg base CX0 "_law_sums_by" 12 ["_law_net_here","_law_plan_here","_law_names","_law_due","_law_units_here"] (spSumsBy K a):=by
 refine T.d_law_sums_by.ok sc_law_sums_by (λ vs H Q E h=>?_) (λ f cdv A outer s H vs Q E hr h=>?_)
 ·obtain ⟨_,_,_,_,_,_,_,_,_,_,_,_,_,_,_,_,rfl,_⟩:=h;rfl
 ·obtain ⟨p,d,ln,du,lu,ps,ds,kvs,kvd,ks,k2,sp,f,F,tu,un,rfl,net,ndd,ld,hd,tb,nk,lk,sub,off,so,hln,hdu,tbd,hlu,hun,l12,lps,lun,mem,pbu,eq,k⟩:=h
  refine ⟨_,(af (al (i:=5) sc_law_sums_by.nd rfl (Or.inl rfl) (aw (ok_sums T) hr ak (aa (pv 0) (aa (pv 1) ad))))
   (af (aD (PW.pt (pw_or (bY (bE (aC (df (c:=.type "dict")) (by rfl) T.z_isinstance gX (aa (pv 5) (aa (pe_bltn (v:=.ty "dict") (by rfl) T.z_dict PyProof.Rows.boot_dict rfl) ad))))) (pw_or1 (ar op_ne (aC call_lenD (by rfl) T.z_len gM (aa (pv 5) ad)) (aC aW (by rfl) T.z_len gM (aa (pv 2) ad)) (aA _))))) (ag (aq cE)) ap)
   (af (bK gA rfl (aU rfl T.z_range (aa (aC aW (by rfl) T.z_len gM (aa (pv 2) ad)) ad)) (az (i:=6) sc_law_sums_by.nd rfl (Or.inl rfl)) (af (aD (eM (c8 (bB hr) (ao au (pv 2) (pv 6) (λ _ _=>rfl)) (pv 5))) (ag (aq cE)) ap)
   (ag (aD (bY (bE (aw (cN T) hr ak (aa (cL (bB hr) (pv 5) (ao au (pv 2) (pv 6) (λ _ _=>rfl)) (λ _ _=>rfl)) (aa (cL (bB hr) (pv 3) (ao au (pv 2) (pv 6) (λ _ _=>rfl)) (λ _ _=>rfl)) (aa (ao au (pv 4) (pv 6) (λ _ _=>rfl)) ad)))))) (ag (aq cE)) ap))))
   (ag (aq cE))))),?_⟩
  try dsimp only [aG,Cx.nox,Cx.wish]
  refine ⟨_,rfl,_,rfl,p,d,ps,ds,kvs,ks,f,rfl,off,ndd,hd,tb,nk,sub,so,λ r H1 kvr nr s1 hr1 tr=>?_⟩;have lr:kvr.length=sp.length:=by rw [tr.len,fG];exact lps
  refine ⟨_,rfl,_,_,_,_,rfl,(λ u h=>h),TyOf.dK hr1,T.k_dict_dict,_,rfl,iteF ?_⟩;refine ⟨_,rfl,r,kvr,rfl,hr1,_,rfl,ln,_,rfl,.inl (s1.seq hln),rfl,_,rfl,b9 (by rw [fG,lr,fV rfl];rfl) ?_⟩;refine ⟨_,rfl,ln,_,rfl,.inl (s1.seq hln),_,rfl,by omega,by rw [fG];omega,?_⟩;rw [fG];refine eC (λ i σ H2=>(∃ z6,σ=[some (.ref p),some (.ref d),some (.ref ln),some (.ref du),some (.ref lu),some (.ref r),z6])/\Same H1 H2) ⟨⟨none,rfl⟩,Same.refl _⟩ ?_ ?_
  ·rintro i σ H2 hi ⟨⟨z6,rfl⟩,s2⟩;have hi':i<sp.length:=by omega
   rw [iw];have s12:=s1.trans s2;obtain ⟨n,en⟩:∃ n,sp[i]?=some n:=⟨_,fF hi'⟩;obtain ⟨u,eu⟩:∃ u,un[i]?=some u:=⟨_,fF (by omega)⟩;obtain ⟨v,ev,pu,rfl,hpu⟩:=(hun.mono λ v x z=>DueIs.mono z s12).get' eu;obtain ⟨m1,m2,b8⟩:=mem n (fK en);obtain ⟨e1,e2⟩:=eq i n u en eu;have tr2:=tr.mono λ v x z=>FrIs.mono z s2;have td2:=tbd.mono λ v x z=>FrIs.mono z s12;obtain ⟨w1,ew1,q1,rfl,f1⟩:=tr2.vals n m1;obtain ⟨w2,ew2,q2,rfl,f2⟩:=td2.vals n m2
   have g1:DGet H2 r (.str n) (some (.ref q1)):=by
    have:=DGet.k (k:=(Sum.inr n:Key)) (s2 _ _ hr1)
    rw [ew1] at this;exact this
   have g2:DGet H2 du (.str n) (some (.ref q2)):=by
    have:=DGet.k (k:=(Sum.inr n:Key)) (s12 _ _ hdu)
    rw [ew2] at this;exact this
   have a1:=eS en;have l2:=s12.seq hln;refine ⟨_,rfl,_,rfl,ln,_,_,_,rfl,rfl,l2,a1,_,rfl,r,_,rfl,g1,_,rfl,iteF ?_⟩;refine ⟨_,rfl,_,rfl,_,rfl,ln,_,_,_,rfl,rfl,l2,a1,r,_,rfl,g1,_,rfl,_,rfl,_,rfl,ln,_,_,_,rfl,rfl,l2,a1,du,_,rfl,g2,_,rfl,_,rfl,lu,_,_,_,rfl,rfl,s12.seq hlu,atI_nat ev,q1,q2,pu,_,_,u,rfl,f1,f2,hpu,e2,b8,pbu u (fK eu),e1,_,rfl,iteF ⟨⟨_,rfl⟩,s2⟩⟩
  ·rintro σ H2 ⟨⟨z6,rfl⟩,s2⟩;exact k _ (s1.trans s2)
inductive FstR (ps:List (Str × Rat)) (ds:List WD) (A:Str->Rat) (W:Rat):List (Str × Str)->Str->Str->Rat->Prop
 | worth:FstR ps ds A W [] "worth" "" W
 | bound (n:Str) (rest:List (Str × Str)) (y:WD) (my:y∈ds) (ey:y.nm=n):FstR ps ds A W ((("bound":Str),n)::rest) "OverBound" n (bndB y.hi (A n))
 | place (n:Str) (rest:List (Str × Str)) (i:Nat) (x:Rat) (hi:ps[i]?=some (n,x)):FstR ps ds A W ((("place":Str),n)::rest) "Short" n (x-bC A ds n)
theorem bL {ds:List WD} {ks:List Str} (h:∀ n∈ks,n∈ds.map (·.nm)):bj ds ks=[]:=by
 unfold bj;rw [List.filter_eq_nil_iff];intro n hn;simpa using h n hn
theorem head_fault {ks:List Str} {A:Str->Rat} {ps:List (Str × Rat)} {ds:List WD} (sub:∀ n∈ks,n∈ds.map (·.nm)) {w n:Str} {rest:List (Str × Str)} (h:aK ks A ps ds=(w,n)::rest) :
  (w = "bound"/\∃ y∈ds,y.nm=n/\cg y.hi (A n)=true)∨(w = "place"/\∃ (i:Nat) (x:Rat),ps[i]?=some (n,x)):=by
 have m:(w,n)∈aK ks A ps ds:=by rw [h];exact gR
 unfold aK at m;rw [bL sub,List.map_nil,List.nil_append] at m;rcases List.mem_append.mp m with q | q
 ·obtain ⟨y,my,e⟩:=fQ.mp q;obtain ⟨m1,m2⟩:=List.mem_filter.mp my;obtain ⟨rfl,rfl⟩:=Prod.mk.inj e;exact .inl ⟨rfl,y,m1,rfl,m2⟩
 ·obtain ⟨z,mz,e⟩:=fQ.mp q;obtain ⟨rfl,rfl⟩:=Prod.mk.inj e;obtain ⟨i,hi⟩:=gr.mp (List.mem_filter.mp mz).1;exact .inr ⟨rfl,i,z.2,hi⟩
structure FsOk (a:Ad) (H:Hp) (p d:Addr) (ps:List (Str × Rat)) (ds:List WD) (kvs:List (Key × V)) (ks:List Str) (f co:Str->Rat) (N:Nat):Prop where
 fl:FltOk a H p d ps ds kvs ks f
 sub:∀ n∈ks,n∈ds.map (·.nm)
 ln:∀ n,n∈ds.map (·.nm)∨n∈ps.map (·.1)->n.length<=1000
 hc:∀ x∈ds,x.co=co x.nm
 sm:∀ n∈ks,SmR (f n)/\SmR (co n)
 bN:BdS (ks.map λ n=>co n*f n) N
 hN:N<9000
theorem FsOk.mono {H H':Hp} {p d:Addr} {ps:List (Str × Rat)} {ds:List WD} {kvs:List (Key × V)} {ks:List Str} {f co:Str->Rat} {N:Nat} (h:FsOk a H p d ps ds kvs ks f co N) (s:Same H H'):FsOk a H' p d ps ds kvs ks f co N:=⟨h.fl.mono s,h.sub,h.ln,h.hc,h.sm,h.bN,h.hN⟩
inductive IspFst (a:Ad) (vs:List V) (H:Hp) (Q:VK):Prop
 | mk (p d:Addr) (ps:List (Str × Rat)) (ds:List WD) (kvs:List (Key × V)) (ks:List Str) (f co:Str->Rat) (N:Nat) (h1:vs=[.ref p,.ref d]) (h2:FsOk a H p d ps ds kvs ks f co N) (h3:∀ l q t m x H',H l=none->Same H H'->H' l=some (.lst [.str t,.str m,.ref q])->FrAt a.Fraction H' q x->FstR ps ds (bn ks f) (ks.map λ n=>co n*f n).sum (aK ks (bn ks f) ps ds) t m x->Q (.ref l) H'):IspFst a vs H Q
noncomputable def spFst (a:Ad):Sp:=λ vs H Q _=>IspFst a vs H Q
theorem fm (T:TX K mg a):FnB P w K mg base CX0 "_law_first" 15 ["_law_net_here","_law_plan_here"] (spFst a):=by
 refine T.d_law_first.ok sc_law_first (λ vs H Q E h=>?_) (λ f cdv A' outer s₀ H vs Q E hr h=>?_)
 ·obtain ⟨_,_,_,_,_,_,_,_,_,rfl,_⟩:=h;rfl
 ·obtain ⟨p,d,ps,ds,kvs,ks,f,co,N,rfl,ok,k⟩:=h
  refine ⟨_,(af (al (i:=2) sc_law_first.nd rfl (Or.inl rfl) (cT (aa bh (aa bh (aa bG ad)))))
   (af (al (i:=3) sc_law_first.nd rfl (Or.inl rfl) bG)
   (ax (ps_try (pssx_one (psx_set (i:=3) sc_law_first.nd rfl (Or.inl rfl) (px_or (px_fn (ok_checkedX T) hr (aa (pv 0) (aa (pv 1) ad))) (px_fn (ok_checked T) hr (aa (pv 0) (aa (pv 1) ad)))))) (ph_as (i:=4) (by rfl) T.mg_OverBound ⟨T.ca1_OverBound,T.ca2_OverBound,T.ca3_OverBound⟩ sc_law_first.nd rfl rfl (λ x=>(ag (al (i:=2) sc_law_first.nd rfl (Or.inl rfl) (cT (aa bh (aa (fj (K:=K) rfl (pv 4) rfl) (aa (fj (K:=K) rfl (pv 4) rfl) ad))))))) (ph_as (i:=4) (by rfl) T.mg_Short ⟨T.ca1_Short,T.ca2_Short,T.ca3_Short⟩ sc_law_first.nd rfl rfl (λ x=>(ag (al (i:=2) sc_law_first.nd rfl (Or.inl rfl) (cT (aa bh (aa (fj (K:=K) rfl (pv 4) rfl) (aa (fj (K:=K) rfl (pv 4) rfl) ad))))))) ph_never)))
   (af (aD (ar bO (ao au (pv 2) ac (λ _ _=>rfl)) bh (aA _)) (ag (aq (cT (aa bh (aa bh (aa (pv 3) ad)))))) ap)
   (ag (aq (pv 2))))))),?_⟩
  try dsimp only [aG,Cx.nox,Cx.wish]
  refine ⟨zL3,λ l0 nl0=>?_⟩;obtain ⟨H0,zq,s0,h0⟩:=uG (o:=.lst [.str "worth",.str "",.non]) nl0;rw [zq];have ok0:=ok.mono s0;generalize hF:aK ks (bn ks f) ps ds=F at k;refine ⟨λ σ' H'=>(∃ r,σ'=[some (.ref p),some (.ref d),some (.ref l0),some (.ref r),none]/\Same H0 H'/\FrAt a.Fraction H' r (ks.map λ n=>co n*f n).sum/\F=[])∨∃ l t m q x,σ'=[some (.ref p),some (.ref d),some (.ref l),some .non,none]/\H l=none/\Same H0 H'/\H' l=some (.lst [.str t,.str m,.ref q])/\(t = "OverBound"∨t = "Short")/\FrAt a.Fraction H' q x/\FstR ps ds (bn ks f) (ks.map λ n=>co n*f n).sum F t m x,?_,?_⟩
  ·cases F with
   | nil=>
    refine .inr ⟨_,rfl,_,rfl,p,d,ps,ds,kvs,ks,f,co,N,rfl,ok0.fl,hF,ok.sub,ok.hc,ok.sm,ok.bN,ok.hN,λ r H1 nr s1 f1=>?_⟩;exact .inl ⟨r,rfl,s1,f1,rfl⟩
   | cons e rest=>
    obtain ⟨wd,n⟩:=e;rcases head_fault ok.sub hF with ⟨rfl,y,my,ey,ov⟩ | ⟨rfl,i,x,hi⟩
    ·refine .inl ⟨_,rfl,_,rfl,p,d,ps,ds,kvs,ks,f,"bound",n,rest,rfl,ok0.fl,hF,ok.ln n (.inl (fQ.mpr ⟨y,my,ey⟩)),.inr (.inl ⟨rfl,y,my,ey,ov,λ H1 dx q s1 hq hdx=>?_⟩)⟩;refine ⟨_,_,rfl,T.su_OverBound_OverBound,iteT λ x nx=>?_⟩;obtain ⟨H2,zq,s2,hx⟩:=uG (o:=XO x a.OverBound (some dx)) nx;rw [zq];have hdx2:=s2 _ _ hdx;refine ⟨_,rfl,x,a.OverBound,dx,_,.str n,rfl,hx,hdx2,T.exa_OverBound,T.hd_OverBound,T.na_OverBound_name,rfl,_,rfl,x,a.OverBound,dx,_,.ref q,rfl,hx,hdx2,T.exa_OverBound,T.hd_OverBound,T.na_OverBound_bound,rfl,zL3,λ l nl=>?_⟩;obtain ⟨H3,zq,s3,hl⟩:=uG (o:=.lst [.str "OverBound",.str n,.ref q]) nl;rw [zq];have s23:=s2.trans s3;exact .inr ⟨l,_,_,q,_,rfl,s0.free (s1.free (s2.free nl)),s1.trans s23,hl,.inl rfl,hq.mono s23,.bound n rest y my ey⟩
    ·refine .inl ⟨_,rfl,_,rfl,p,d,ps,ds,kvs,ks,f,"place",n,rest,rfl,ok0.fl,hF,ok.ln n (.inr (fQ.mpr ⟨_,fK hi,rfl⟩)),.inr (.inr ⟨rfl,ok.sub,i,x,hi,λ H1 dx q s1 hq hdx=>?_⟩)⟩;refine ⟨_,_,rfl,T.su_Short_OverBound,iteF ⟨_,_,rfl,T.su_Short_Short,iteT λ x' nx=>?_⟩⟩;obtain ⟨H2,zq,s2,hx⟩:=uG (o:=XO x' a.Short (some dx)) nx;rw [zq];have hdx2:=s2 _ _ hdx;refine ⟨_,rfl,x',a.Short,dx,_,.str n,rfl,hx,hdx2,T.exa_Short,T.hd_Short,T.na_Short_place,rfl,_,rfl,x',a.Short,dx,_,.ref q,rfl,hx,hdx2,T.exa_Short,T.hd_Short,T.na_Short_lacking,rfl,zL3,λ l nl=>?_⟩;obtain ⟨H3,zq,s3,hl⟩:=uG (o:=.lst [.str "Short",.str n,.ref q]) nl;rw [zq];have s23:=s2.trans s3;exact .inr ⟨l,_,_,q,_,rfl,s0.free (s1.free (s2.free nl)),s1.trans s23,hl,.inr rfl,hq.mono s23,.place n rest i x hi⟩
  rintro σ' H1 (⟨r,rfl,s1,f1,rfl⟩ | ⟨l,t,m,q,x,rfl,nl,s1,hl,ht,fq,R⟩)
  ·refine ⟨_,rfl,l0,_,_,_,rfl,rfl,SqL.of (s1 _ _ h0),rfl,rfl,_,rfl,eD (by decide) ?_⟩;refine ⟨_,rfl,zL3,λ l nl=>?_⟩;have s2:=ay (o:=.lst [.str "worth",.str "",.ref r]) nl;exact k l r _ _ _ _ (s0.free (s1.free nl)) ((s0.trans s1).trans s2) ae (f1.mono s2) .worth
  ·have e1:decide (V.str t=V.str "worth")=false:=by rcases ht with rfl | rfl <;> decide
   refine ⟨_,rfl,l,_,_,_,rfl,rfl,SqL.of hl,rfl,rfl,_,rfl,b9 e1 ?_⟩;exact ⟨_,rfl,k l q t m x H1 nl (s0.trans s1) hl fq R⟩
theorem inV_str (x:Str):∀ ts:List Str,inV (.str x) (ts.map V.str)=decide (x∈ts)
 | []=>rfl
 | t::ts=>by
  have ih:=inV_str x ts;unfold inV at ih ⊢;rw [gN,List.any_cons,ih,eqV_str,Bool.eq_iff_iff];rw [Bool.or_eq_true,decide_eq_true_iff,decide_eq_true_iff,decide_eq_true_iff,gw];exact ⟨λ h=>h.imp Eq.symm id,λ h=>h.imp Eq.symm id⟩
noncomputable def ByU (wn sp:List Str) (rs:List R7) (un:List (Int × Int)) (t m:Str) (u:Int × Int):Prop:=
 (t = "worth"/\u=(1,1))∨(t = "OverBound"/\∃ (i:Nat) (r:R7),wn[i]?=some m/\rs[i]?=some r/\un[r.st]?=some u)∨(t = "Short"/\∃ i:Nat,sp[i]?=some m/\un[i]?=some u)
inductive IspCkBy (K:W.Frag) (a:Ad) (vs:List V) (H:Hp) (Q:VK):Prop
 | mk (p d ld lu ln lr lw qd:Addr) (ps:List (Str × Rat)) (ds:List WD) (kvs:List (Key × V)) (ks:List Str) (f co:Str->Rat) (N:Nat) (t m:Str) (y:Rat) (u:Int × Int) (tu us:List V) (un:List (Int × Int)) (rs:List R7) (wn sp:List Str) (h1:vs=[.ref p,.ref d,.ref ld,.ref lu,.ref ln,.ref lr,.ref lw]) (h2:FsOk a H p d ps ds kvs ks f co N) (h3:H ld=some (.lst [.str t,.str m,.ref qd])) (h4:FrAt a.Fraction H qd y) (h5:SqL K H lu tu) (h6:RowAt DueIs H tu un) (h7:SqL K H ln (sp.map V.str)) (h8:SqL K H lr us) (h9:RowAt R7Is H us rs) (h10:SqL K H lw (wn.map V.str)) (h11:wn.Nodup) (h12:sp.Nodup) (h13:ByU wn sp rs un t m u) (h14:PB 60 u) (h15:Bd 8000 y) (h16:(∀ t' m' x,FstR ps ds (bn ks f) (ks.map λ n=>co n*f n).sum (aK ks (bn ks f) ps ds) t' m' x->t'=t/\m'=m/\x=y*vC u/\SmR x)) (h17:∀ H',Same H H'->Q (.bl true) H'):IspCkBy K a vs H Q
noncomputable def spCkBy (K:W.Frag) (a:Ad):Sp:=λ vs H Q _=>IspCkBy K a vs H Q
theorem idx_of {xs:List Str} {i:Nat} {x:Str} (nd:xs.Nodup) (h:xs[i]?=some x):xs.idxOf x=i:=by
 have m:=fK h;have hi:=(fL.mp h).1;exact (gL (List.idxOf_lt_length_iff.mpr m) nd).mp (by rw [h,fF (List.idxOf_lt_length_iff.mpr m),List.getElem_idxOf])
theorem flat_st (xs:List Str):(xs.map V.str).all cj=true:=by
 rw [List.all_map,List.all_eq_true];exact λ _ _=>rfl
theorem fo (T:TX K mg a):FnB P w K mg base CX0 "_law_checked_by" 16 ["_law_net_here","_law_plan_here","_law_due","_law_units_here","_law_names","_law_rows","_law_ways"] (spCkBy K a):=by
 refine T.d_law_checked_by.ok sc_law_checked_by (λ vs H Q E h=>?_) (λ f cdv A' outer s₀ H vs Q E hr h=>?_)
 ·obtain ⟨_,_,_,_,_,_,_,_,_,_,_,_,_,_,_,_,_,_,_,_,_,_,_,_,_,rfl,_⟩:=h;rfl
 ·obtain ⟨p,d,ld,lu,ln,lr,lw,qd,ps,ds,kvs,ks,f,co,N,t,m,y,u,tu,us,un,rs,wn,sp,rfl,ok,hld,fd,hlu,hun,hln,hlr,hrs,hlw,ndw,nds,by_,pu,by8,eq,k⟩:=h
  refine ⟨_,(af (al (i:=7) sc_law_checked_by.nd rfl (Or.inl rfl) (aw (fm T) hr ak (aa (pv 0) (aa (pv 1) ad))))
   (af (aD (PW.pt (pw_or (ar op_ne (ao au (pv 7) ac (λ _ _=>rfl)) (ao au (pv 2) ac (λ _ _=>rfl)) (aA _)) (pw_or1 (ar op_ne (ao au (pv 7) ac (λ _ _=>rfl)) (ao au (pv 2) ac (λ _ _=>rfl)) (aA _))))) (ag (aq cE)) ap)
   (ax (al (i:=8) sc_law_checked_by.nd rfl (Or.inl rfl) (aF (aa ac (aa ac ad))))
   (ax (aD (PW.pt (dk (ar bO (ao au (pv 2) ac (λ _ _=>rfl)) bh (aA _)) (cq (ar op_in_seq (ao au (pv 2) ac (λ _ _=>rfl)) (pv 6) (by with_unfolding_all rfl))))) (ag (al (i:=8) sc_law_checked_by.nd rfl (Or.inl rfl) (ao au (pv 3) (ao aB (ao au (pv 5) (pe_bm PySem.F.plainAttrs_list PySem.F.slot_list_index PySem.F.type_list_index mt_indexT (pv 6) (aa (ao au (pv 2) ac (λ _ _=>rfl)) ad)) (λ _ _=>rfl)) ac (λ _ _=>rfl)) (λ _ _=>rfl)))) ap)
   (ax (aD (PW.pt (dk (ar bO (ao au (pv 2) ac (λ _ _=>rfl)) bh (aA _)) (cq (ar op_in_seq (ao au (pv 2) ac (λ _ _=>rfl)) (pv 4) (by with_unfolding_all rfl))))) (ag (al (i:=8) sc_law_checked_by.nd rfl (Or.inl rfl) (ao au (pv 3) (pe_bm PySem.F.plainAttrs_list PySem.F.slot_list_index PySem.F.type_list_index mt_indexT (pv 4) (aa (ao au (pv 2) ac (λ _ _=>rfl)) ad)) (λ _ _=>rfl)))) ap)
   (ag (aq (aw (cN T) hr ak (aa (ao au (pv 7) ac (λ _ _=>rfl)) (aa (ao au (pv 2) ac (λ _ _=>rfl)) (aa (pv 8) ad))))))))))),?_⟩
  try dsimp only [aG,Cx.nox,Cx.wish]
  refine ⟨_,rfl,_,rfl,p,d,ps,ds,kvs,ks,f,co,N,rfl,ok,λ l q t' m' x H1 nl s1 hl fq R=>?_⟩;obtain ⟨rfl,rfl,ex,sx⟩:=eq _ _ _ R;have hl1:=SqL.of (K:=K) hl;have hd1:=SqL.of (K:=K) (s1 _ _ hld);refine ⟨_,rfl,l,_,_,_,rfl,rfl,hl1,rfl,_,rfl,ld,_,_,_,rfl,rfl,hd1,rfl,rfl,_,rfl,b9 (by rw [fV rfl];rfl) ?_⟩;refine ⟨_,rfl,l,_,_,_,rfl,rfl,hl1,rfl,_,rfl,ld,_,_,_,rfl,rfl,hd1,rfl,rfl,_,rfl,b9 (by rw [fV rfl];rfl) ?_⟩;refine ⟨λ σ' H'=>∃ pb,σ'=[some (.ref p),some (.ref d),some (.ref ld),some (.ref lu),some (.ref ln),some (.ref lr),some (.ref lw),some (.ref l),some (.ref pb)]/\Same H1 H'/\H' pb=some (.tup [.int 1,.int 1]),?_,?_⟩
  ·exact ⟨zL2,λ pb nb=>⟨pb,rfl,ay nb,ae⟩⟩
  rintro σ' H2 ⟨pb,rfl,s2,hb⟩;have s12:=s1.trans s2;have hd2:=SqL.of (K:=K) (s12 _ _ hld);refine ⟨λ σ' H'=>∃ pc,σ'=[some (.ref p),some (.ref d),some (.ref ld),some (.ref lu),some (.ref ln),some (.ref lr),some (.ref lw),some (.ref l),some (.ref pc)]/\H'=H2/\(t'≠"Short"->H2 pc=some (.tup [.int u.1,.int u.2])),?_,?_⟩
  ·refine ⟨_,rfl,ld,_,_,_,rfl,rfl,hd2,rfl,rfl,_,rfl,?_⟩;rcases by_ with ⟨rfl,rfl⟩ | ⟨rfl,i,r,ei,er,eu⟩ | ⟨rfl,_⟩
   ·exact b9 (by decide) (iteF ⟨pb,rfl,rfl,λ _=>hb⟩)
   ·refine eD (by decide) ⟨_,rfl,ld,_,_,_,rfl,rfl,hd2,rfl,_,rfl,lw,_,rfl,.inl (s12.seq hlw),rfl,flat_st _,_,rfl,eD (show inV _ _=true from (inV_str _ _).trans (fV (fK ei))) ?_⟩;obtain ⟨v,ev,pr,vg,vp,vh,vc,rfl,hp,_⟩:=(hrs.mono λ v x z=>R7Is.mono z s12).get' er;obtain ⟨vu,evu,pu',rfl,hpu⟩:=(hun.mono λ v x z=>DueIs.mono z s12).get' eu;refine ⟨_,rfl,_,rfl,_,rfl,.inl ⟨rfl,_,s12.seq hlw⟩,_,rfl,ld,_,_,_,rfl,rfl,hd2,rfl,lw,wn,m',rfl,rfl,s12.seq hlw,fK ei,lr,_,_,_,rfl,rfl,s12.seq hlr,by rw [idx_of ndw ei];exact atI_nat ev,pr,_,_,_,rfl,rfl,SqT.of hp,rfl,lu,_,_,_,rfl,rfl,s12.seq hlu,atI_nat evu,?_⟩;exact ⟨pu',rfl,rfl,λ _=>hpu⟩
   ·exact b9 (by decide) (iteF ⟨pb,rfl,rfl,λ z=>absurd rfl z⟩)
  rintro σ' H' ⟨pc,rfl,rfl,hc⟩;refine ⟨λ σ' H2=>∃ pc,σ'=[some (.ref p),some (.ref d),some (.ref ld),some (.ref lu),some (.ref ln),some (.ref lr),some (.ref lw),some (.ref l),some (.ref pc)]/\H2=H'/\H2 pc=some (.tup [.int u.1,.int u.2]),?_,?_⟩
  ·refine ⟨_,rfl,ld,_,_,_,rfl,rfl,hd2,rfl,rfl,_,rfl,?_⟩;rcases by_ with ⟨rfl,rfl⟩ | ⟨rfl,_⟩ | ⟨rfl,i,ei,eu⟩
   ·exact b9 (by decide) (iteF ⟨pc,rfl,rfl,hc (by decide)⟩)
   ·exact b9 (by decide) (iteF ⟨pc,rfl,rfl,hc (by decide)⟩)
   ·refine eD (by decide) ⟨_,rfl,ld,_,_,_,rfl,rfl,hd2,rfl,_,rfl,ln,_,rfl,.inl (s12.seq hln),rfl,flat_st _,_,rfl,eD (show inV _ _=true from (inV_str _ _).trans (fV (fK ei))) ?_⟩;obtain ⟨vu,evu,pu',rfl,hpu⟩:=(hun.mono λ v x z=>DueIs.mono z s12).get' eu;refine ⟨_,rfl,_,rfl,.inl ⟨rfl,_,s12.seq hln⟩,_,rfl,ld,_,_,_,rfl,rfl,hd2,rfl,ln,sp,m',rfl,rfl,s12.seq hln,fK ei,lu,_,_,_,rfl,rfl,s12.seq hlu,by rw [idx_of nds ei];exact atI_nat evu,?_⟩;exact ⟨pu',rfl,rfl,hpu⟩
  rintro σ' H2 ⟨pc2,rfl,rfl,hc2⟩;refine ⟨_,rfl,l,_,_,_,rfl,rfl,SqL.of (s2 _ _ hl),rfl,_,rfl,ld,_,_,_,rfl,rfl,hd2,rfl,_,rfl,q,qd,pc2,x,y,u,rfl,fq.mono s2,fd.mono s12,hc2,sx,by8,pu,ex,k _ s12⟩
noncomputable def con (d:WD) (y:Rat) (s:Str):Rat:=if s=d.go then y*cW d.kd d.x else if s=d.st then -y else 0
theorem sumStep_con {A F:Str->Rat} {d:WD} (h:d.st≠d.go) (s:Str):sumStep A F d s=F s+con d (A d.nm) s:=by
 unfold sumStep con upf;by_cases h1:s=d.go
 ·rw [if_pos h1,if_pos h1,h1]
 ·rw [if_neg h1,if_neg h1];by_cases h2:s=d.st
  ·rw [if_pos h2,if_pos h2,h2];grind
  ·rw [if_neg h2,if_neg h2];grind
theorem snocR {α:Type} {Q:List α->Prop} (h0:Q []) (h1:∀ xs x,Q xs->Q (xs++[x])) (xs:List α):Q xs:=by
 have:∀ ys:List α,Q ys.reverse:=λ ys=>by
  induction ys with
  | nil=>exact h0
  | cons y r ih=>rw [List.reverse_cons];exact h1 _ _ ih
 rw [<- List.reverse_reverse xs];exact this _
theorem sumA (xs ys:List Rat):(xs++ys).sum=xs.sum+ys.sum:=by
 induction xs with
 | nil=>rw [List.nil_append,List.sum_nil,Rat.zero_add]
 | cons x r ih=>rw [List.cons_append,iu,iu,ih,Rat.add_assoc]
theorem eW {A:Str->Rat} (ds:List WD) (s:Str):(∀ d∈ds,d.st≠d.go)->bC A ds s=(ds.map λ d=>con d (A d.nm) s).sum:=by
 refine snocR (Q:=λ ds=>(∀ d∈ds,d.st≠d.go)->bC A ds s=(ds.map λ d=>con d (A d.nm) s).sum) (λ _=>rfl) (λ xs x ih h=>?_) ds;rw [sumF_snoc,sumStep_con (h x (by simp)),ih λ d hd=>h d (List.mem_append_left _ hd),gj,sumA,gN,List.map_nil,iu,List.sum_nil,Rat.add_zero]
theorem sum_bd {m:Nat} (xs:List Rat):(∀ x∈xs,Bd m x)->Bd (xs.length*(m+1)) xs.sum:=by
 intro h
 induction xs with
 | nil=>rw [List.length_nil,Nat.zero_mul,List.sum_nil];exact Bd.zero
 | cons x r ih=>
  rw [iu,gG];exact ((h x gR).add (ih λ y hy=>h y (gC _ hy))).mono (by rw [Nat.succ_mul];omega)
theorem bdS_of {m:Nat} (xs:List Rat):(∀ x∈xs,Bd m x)->BdS xs (xs.length*(m+1)):=by
 refine snocR (Q:=λ xs=>(∀ x∈xs,Bd m x)->BdS xs (xs.length*(m+1))) (λ _=>by rw [List.length_nil,Nat.zero_mul];exact .nil) (λ xs x ih h=>?_) xs
 have:=BdS.snoc (ih λ y hy=>h y (List.mem_append_left _ hy)) (h x (by simp))
 rw [fX,List.length_singleton,Nat.succ_mul];exact this
noncomputable def fz (g:R7->Rat) (zs:List (R7 × Str)) (n:Str):Rat:=((zs.find? λ z=>decide (z.2=n)).map λ z=>g z.1).getD 0
theorem fz_at (g:R7->Rat) {zs:List (R7 × Str)} (nd:(zs.map (·.2)).Nodup) {z:R7 × Str} (h:z∈zs):fz g zs z.2=g z.1:=by
 unfold fz
 induction zs with
 | nil=>cases h
 | cons y r ih=>
  obtain ⟨n1,n2⟩:=List.nodup_cons.mp (show (y.2::r.map (·.2)).Nodup from nd);by_cases e:y.2=z.2
  ·rw [List.find?_cons_of_pos (by rw [e];exact fV rfl)];rcases gw.mp h with q | q
   ·rw [q];rfl
   ·exact absurd (by rw [e];exact fQ.mpr ⟨z,q,rfl⟩) n1
  ·rw [List.find?_cons_of_neg (by rw [fU e];decide)];rcases gw.mp h with q | q
   ·exact absurd (by rw [q]) e
   ·exact ih n2 q
noncomputable abbrev coZ (zs:List (R7 × Str)):Str->Rat:=fz (λ r=>vC r.co) zs
noncomputable def aZ (zs:List (R7 × Str)):Str->Rat:=bn (plK zs) (pA zs)
theorem plK_iff {zs:List (R7 × Str)} (nd:(zs.map (·.2)).Nodup) {z:R7 × Str} (h:z∈zs):z.2∈plK zs↔z.1.put.isSome=true:=by
 unfold plK;constructor
 ·intro m;obtain ⟨y,hy,e⟩:=fQ.mp m;obtain ⟨h1,h2⟩:=List.mem_filter.mp hy
  have:y=z:=by
   obtain ⟨i,hi⟩:=gr.mp h1;obtain ⟨j,hj⟩:=gr.mp h
   have:i=j:=(gL (l:=zs.map (·.2)) (by rw [fG];exact (fL.mp hi).1) nd).mp (by rw [fN,fN,hi,hj,gJ,gJ,e])
   subst this;exact f9 (hi.symm.trans hj)
  rw [<- this];exact h2
 ·exact λ m=>fQ.mpr ⟨z,List.mem_filter.mpr ⟨h,m⟩,rfl⟩
theorem aZ_at {zs:List (R7 × Str)} (nd:(zs.map (·.2)).Nodup) {z:R7 × Str} (h:z∈zs):aZ zs z.2=rpv z.1:=by
 unfold aZ bn;by_cases m:z.2∈plK zs
 ·rw [if_pos m];exact pA_at nd h
 ·rw [if_neg m]
  have:=λ q=>m ((plK_iff nd h).mpr q)
  unfold rpv
  cases e:z.1.put with
  | none=>rfl
  | some c=>exact absurd (by rw [e];rfl) this
structure RP (sp wn:List Str) (rs:List R7):Prop where
 nd:sp.Nodup
 nw:wn.Nodup
 l:rs.length=wn.length
 l12:rs.length<=12
 s12:sp.length<=12
 ok:∀ r∈rs,R7W sp.length r
section
variable {sp wn:List Str} {rs:List R7}
theorem RP.z2 (h:RP sp wn rs):(rs.zip wn).map (·.2)=wn:=List.map_snd_zip (by have:=h.l;omega)
theorem RP.nz (h:RP sp wn rs):((rs.zip wn).map (·.2)).Nodup:=by rw [h.z2];exact h.nw
theorem RP.rw_ (h:RP sp wn rs) {z:R7 × Str} (hz:z∈rs.zip wn):R7W sp.length z.1:=h.ok _ (hJ hz).1
theorem RP.pb (h:RP sp wn rs) {z:R7 × Str} (hz:z∈rs.zip wn):Bd 250 (rpv z.1):=by
 unfold rpv
 cases e:z.1.put with
 | none=>exact Bd.zero.mono (by decide)
 | some c=>exact ((h.rw_ hz).pt c e).bd
theorem RP.names (h:RP sp wn rs):(zD sp rs wn).map (·.nm)=wn:=by
 unfold zD;rw [gB,show ((λ x:WD=>x.nm) ∘ λ z:R7 × Str=>z.1.d z.2 sp)=(λ z=>z.2) from funext λ z=>R7.d_nm _ _ _];exact h.z2
theorem RP.stgo (h:RP sp wn rs) {z:R7 × Str} (hz:z∈rs.zip wn):(z.1.d z.2 sp).st∈sp/\(z.1.d z.2 sp).go∈sp/\(z.1.d z.2 sp).st≠(z.1.d z.2 sp).go:=by
 have o:=h.rw_ hz;rw [R7.d_st,R7.d_go];have e1:=getSx o.st;have e2:=getSx o.go;exact ⟨fK e1,fK e2,λ e=>o.ne ((gL o.st h.nd).mp (by rw [e1,e2,e]))⟩
theorem RP.am (h:RP sp wn rs) {z:R7 × Str} (hz:z∈rs.zip wn):aZ (rs.zip wn) (z.1.d z.2 sp).nm=rpv z.1:=by rw [R7.d_nm];exact aZ_at h.nz hz
theorem RP.conb (h:RP sp wn rs) {z:R7 × Str} (hz:z∈rs.zip wn) (s:Str):Bd 400 (con (z.1.d z.2 sp) (aZ (rs.zip wn) (z.1.d z.2 sp).nm) s):=by
 rw [h.am hz];have p:=h.pb hz;have g:=(R7.d_sm (h.rw_ hz) z.2 sp).2;unfold con
 split
 ·exact p.mul g
 ·split
  ·exact p.neg.mono (by decide)
  ·exact Bd.zero.mono (by decide)
theorem RP.bd (h:RP sp wn rs) {ds:List WD} (l:ds.length<=12) (hd:∀ d∈ds,∃ z∈rs.zip wn,d=z.1.d z.2 sp) (s:Str):Bd 4812 (bC (aZ (rs.zip wn)) ds s):=by
 rw [eW ds s λ d m=>by obtain ⟨z,hz,rfl⟩:=hd d m;exact (h.stgo hz).2.2];refine (sum_bd (m:=400) _ λ x hx=>?_).mono (by rw [fG];have:=Nat.mul_le_mul_right 401 l;omega);obtain ⟨d,m,rfl⟩:=fQ.mp hx;obtain ⟨z,hz,rfl⟩:=hd d m;exact h.conb hz s
theorem RP.so (h:RP sp wn rs) {ps:List (Str × Rat)} {ds:List WD} (np:(ps.map (·.1)).Nodup) (lp:ps.length<=12) (hp:∀ n∈sp,n∈ps.map (·.1)) (l:ds.length<=12) (hd:∀ d∈ds,∃ z∈rs.zip wn,d=z.1.d z.2 sp):SumOk (aZ (rs.zip wn)) ps ds:=by
 refine ⟨np,by omega,λ d m=>?_,λ d m=>?_,λ d m=>?_,λ d m=>?_,λ i s=>(h.bd (by rw [fZ];omega) (λ d m=>hd d (List.mem_of_mem_take m)) s).smr (by decide)⟩
 all_goals obtain ⟨z,hz,rfl⟩:=hd d m
 ·exact ⟨hp _ (h.stgo hz).1,hp _ (h.stgo hz).2.1⟩
 ·exact (h.stgo hz).2.2
 ·have:=R7.d_sm (h.rw_ hz) z.2 sp
  exact ⟨this.1,this.2.smr (by decide)⟩
 ·rw [h.am hz];exact ⟨(h.pb hz).smr (by decide),((h.pb hz).mul (R7.d_sm (h.rw_ hz) z.2 sp).2).smr (by decide)⟩
theorem RP.mem (h:RP sp wn rs):∀ d∈zD sp rs wn,∃ z∈rs.zip wn,d=z.1.d z.2 sp:=λ d m=>by
 unfold zD at m;obtain ⟨z,hz,rfl⟩:=fQ.mp m;exact ⟨z,hz,rfl⟩
theorem RP.zl (h:RP sp wn rs):(zD sp rs wn).length=rs.length:=by unfold zD;rw [fG,hX];have:=h.l;omega
theorem RP.hco (h:RP sp wn rs) {ds:List WD} (hd:∀ d∈ds,∃ z∈rs.zip wn,d=z.1.d z.2 sp):∀ x∈ds,x.co=coZ (rs.zip wn) x.nm:=λ x m=>by
 obtain ⟨z,hz,rfl⟩:=hd x m;rw [R7.d_co,R7.d_nm];exact (fz_at (λ r=>vC r.co) h.nz hz).symm
theorem RP.hhi (h:RP sp wn rs) {ds:List WD} (hd:∀ d∈ds,∃ z∈rs.zip wn,d=z.1.d z.2 sp):∀ x∈ds,∀ y,x.hi=some y->Bd 300 y:=λ x m y e=>by
 obtain ⟨z,hz,rfl⟩:=hd x m;rw [R7.d_hi] at e;obtain ⟨c,ec,rfl⟩:=gW.mp e;exact ((h.rw_ hz).hi c ec).2.bd
theorem RP.kat (h:RP sp wn rs) {n:Str} (hn:n∈plK (rs.zip wn)):∃ z∈rs.zip wn,n=z.2:=by
 obtain ⟨z,hz,rfl⟩:=fQ.mp (plK_sub hn);exact ⟨z,hz,rfl⟩
theorem RP.kn (h:RP sp wn rs):(plK (rs.zip wn)).Nodup/\(plK (rs.zip wn)).length<=12:=by
 unfold plK;have sl:((rs.zip wn).filter λ z=>z.1.put.isSome).Sublist (rs.zip wn):=List.filter_sublist;refine ⟨(sl.map (·.2)).nodup h.nz,?_⟩;rw [fG]
 have:=sl.length_le
 rw [hX] at this
 have:=h.l12
 omega
theorem RP.kbd (h:RP sp wn rs) {n:Str} (hn:n∈plK (rs.zip wn)):Bd 250 (pA (rs.zip wn) n)/\Bd 150 (coZ (rs.zip wn) n):=by
 obtain ⟨z,hz,rfl⟩:=h.kat hn;rw [pA_at h.nz hz,show coZ (rs.zip wn) z.2=vC z.1.co from fz_at (λ r=>vC r.co) h.nz hz];exact ⟨h.pb hz,(h.rw_ hz).co.bd⟩
theorem RP.kb (h:RP sp wn rs):∀ x∈(plK (rs.zip wn)).map (λ n=>coZ (rs.zip wn) n*pA (rs.zip wn) n),Bd 400 x:=λ x hx=>by
 obtain ⟨n,hn,rfl⟩:=fQ.mp hx;exact (h.kbd hn).2.mul (h.kbd hn).1
theorem RP.wb (h:RP sp wn rs):Bd 4812 ((plK (rs.zip wn)).map λ n=>coZ (rs.zip wn) n*pA (rs.zip wn) n).sum:=
 (sum_bd _ h.kb).mono (by rw [fG];have:=Nat.mul_le_mul_right 401 h.kn.2;omega)
theorem RP.ks (h:RP sp wn rs) {ds:List WD} (hd:∀ n∈wn,n∈ds.map (·.nm)):∀ n∈plK (rs.zip wn),n∈ds.map (·.nm):=λ n hn=>by
 obtain ⟨z,hz,rfl⟩:=h.kat hn;exact hd _ (hJ hz).2
theorem RP.fs (h:RP sp wn rs) {H:Hp} {p d:Addr} {ps:List (Str × Rat)} {ds:List WD} {kvs:List (Key × V)} (net:NetOff a H p d ps ds) (hd:H d=some (.dK kvs)) (tb:Tab (FrIs a) H kvs (plK (rs.zip wn)) (pA (rs.zip wn))) (nd:(ds.map (·.nm)).Nodup)
  (np:(ps.map (·.1)).Nodup) (lp:ps.length<=12) (hp:∀ n∈sp,n∈ps.map (·.1)) (l:ds.length<=12) (hm:∀ d∈ds,∃ z∈rs.zip wn,d=z.1.d z.2 sp) (hn:∀ n∈wn,n∈ds.map (·.nm)) (ln:∀ n,n∈ds.map (·.nm)∨n∈ps.map (·.1)->n.length<=1000) (wa:∀ z∈ps,SmR z.2) :
  FsOk a H p d ps ds kvs (plK (rs.zip wn)) (pA (rs.zip wn)) (coZ (rs.zip wn)) ((((plK (rs.zip wn)).map λ n=>coZ (rs.zip wn) n*pA (rs.zip wn) n)).length*401):=by
 have kn:=h.kn;refine ⟨⟨net,nd,by omega,hd,tb,kn.1,by omega,by omega,h.so np lp hp l hm,λ y hy x e=>(h.hhi hm y hy x e).smr (by decide),wa⟩,h.ks hn,ln,h.hco hm,λ n m=>⟨(h.kbd m).1.smr (by decide),(h.kbd m).2.smr (by decide)⟩,bdS_of (m:=400) _ h.kb,?_⟩;rw [fG]
 have:=Nat.mul_le_mul_right 401 kn.2
 omega
end
noncomputable def a9 (rs:List R7) (un:List (Int × Int)):List R7:=rs.mapIdx λ i r=>inU r i un
noncomputable def wsU (ws un:List (Int × Int)):List (Int × Int):=(ws.zip un).map λ z=>(z.1.1*z.2.1,z.1.2*z.2.2)
noncomputable def uS (sp:List Str) (un:List (Int × Int)) (s:Str):Rat:=vC (un.getD (sp.idxOf s) (1,1))
theorem uS_at {sp:List Str} (un:List (Int × Int)) (nd:sp.Nodup) {i:Nat} (hi:i<sp.length):uS sp un (sp.getD i "")=vC (un.getD i (1,1)):=by unfold uS;rw [idx_of nd (getSx hi)]
noncomputable def zLs (rs:List R7) (wn:List Str):List ((R7 × Str) × Nat):=(rs.zip wn).zipIdx
theorem zLs_1 (rs:List R7) (wn:List Str):rs.zip wn=(zLs rs wn).map (·.1):=(List.zipIdx_map_fst 0 _).symm
theorem zLs_2 (rs:List R7) (wn:List Str) (un:List (Int × Int)):(a9 rs un).zip wn=(zLs rs wn).map λ z=>(inU z.1.1 z.2 un,z.1.2):=by
 refine List.ext_getElem (by simp [a9,zLs]) λ i h1 h2=>?_;simp [a9,zLs]
theorem zLs_m {rs:List R7} {wn:List Str} {z:(R7 × Str) × Nat} (h:z∈zLs rs wn):z.1∈rs.zip wn:=by
 rw [zLs_1];exact fQ.mpr ⟨z,h,rfl⟩
theorem zLs_m2 {rs:List R7} {wn:List Str} (un:List (Int × Int)) {z:(R7 × Str) × Nat} (h:z∈zLs rs wn):(inU z.1.1 z.2 un,z.1.2)∈(a9 rs un).zip wn:=by
 rw [zLs_2];exact fQ.mpr ⟨z,h,rfl⟩
structure UP (sp wn:List Str) (rs:List R7) (un:List (Int × Int)):Prop where
 a:RP sp wn rs
 b:RP sp wn (a9 rs un)
 lu:un.length=sp.length
 ok:∀ u∈un,UOk u
theorem vC_inv {u:Int × Int} (h1:1<=u.1) (h2:1<=u.2):vC (u.2,u.1)*vC u=1:=by
 unfold vC;rw [Rat.divInt_mul_divInt,show u.1*u.2=u.2*u.1 from gP _ _];exact dn (Int.ne_of_gt (Int.mul_pos (show 0<u.2 by omega) (show 0<u.1 by omega)))
section
variable {sp wn:List Str} {rs:List R7} {un:List (Int × Int)}
theorem UP.u (h:UP sp wn rs un) (i:Nat):UOk (un.getD i (1,1)):=by
 rw [fP]
 cases e:un[i]? with
 | none=>exact ⟨by decide,by decide,by decide,by decide⟩
 | some u=>exact h.ok u (fK e)
theorem UP.pos (h:UP sp wn rs un) (i:Nat):0<vC (un.getD i (1,1)):=vC_pos (h.u i).t0 (h.u i).b.o
theorem inU_gain (h:UP sp wn rs un) (r:R7) (k:Nat):vC (inU r k un).gain*vC (un.getD r.st (1,1))=vC r.gain*vC (un.getD r.go (1,1)):=by
 have e:=vC_inv (h.u r.st).t0 (h.u r.st).b.o
 have e1:vC (inU r k un).gain=vC r.gain*(vC (un.getD r.go (1,1))*vC ((un.getD r.st (1,1)).2,(un.getD r.st (1,1)).1)):=by
  rw [<- cX (un.getD r.go (1,1)) ((un.getD r.st (1,1)).2,(un.getD r.st (1,1)).1),<- cX];rfl
 rw [e1,Rat.mul_assoc,Rat.mul_assoc,e,Rat.mul_one]
theorem inU_put (r:R7) (k:Nat):rpv (inU r k un)=rpv r*vC (un.getD r.st (1,1)):=by
 unfold rpv inU
 cases e:r.put with
 | none=>exact (Rat.zero_mul _).symm
 | some c=>exact cX c (un.getD r.st (1,1))
theorem inU_hi (r:R7) (k:Nat):(inU r k un).hi.map vC=(r.hi.map vC).map (· * vC (un.getD r.st (1,1))):=by
 unfold inU
 cases e:r.hi with
 | none=>rfl
 | some c=>exact gK some (cX c (un.getD r.st (1,1)))
theorem inU_co (h:UP sp wn rs un) (r:R7) (k:Nat):vC (inU r k un).co*vC (un.getD r.st (1,1))=vC r.co:=by
 have e:=vC_inv (h.u r.st).t0 (h.u r.st).b.o;have e1:vC (inU r k un).co=vC r.co*vC ((un.getD r.st (1,1)).2,(un.getD r.st (1,1)).1):=cX r.co ((un.getD r.st (1,1)).2,(un.getD r.st (1,1)).1);rw [e1,Rat.mul_assoc,e,Rat.mul_one]
theorem sum_by {α:Type} {f g:α->Rat} {c:Rat} (l:List α):(∀ z∈l,f z=g z*c)->(l.map f).sum=(l.map g).sum*c:=by
 intro h
 induction l with
 | nil=>exact (Rat.zero_mul _).symm
 | cons x r ih=>rw [gN,gN,iu,iu,h x gR,ih λ z hz=>h z (gC _ hz),Rat.add_mul]
theorem RP.ssum {rs:List R7} (h:RP sp wn rs) (s:Str):bC (aZ (rs.zip wn)) (zD sp rs wn) s=((rs.zip wn).map λ z=>con (z.1.d z.2 sp) (rpv z.1) s).sum:=by
 rw [eW _ s λ d m=>by obtain ⟨z,hz,rfl⟩:=h.mem d m;exact (h.stgo hz).2.2];unfold zD;rw [gB]
 congr 1
 refine List.map_congr_left λ z hz=>?_;show con _ (aZ (rs.zip wn) (z.1.d z.2 sp).nm) s=_;rw [h.am hz]
theorem UP.sums (h:UP sp wn rs un) (s:Str):bC (aZ ((a9 rs un).zip wn)) (zD sp (a9 rs un) wn) s=bC (aZ (rs.zip wn)) (zD sp rs wn) s*uS sp un s:=by
 rw [h.a.ssum,h.b.ssum,zLs_2,zLs_1,gB,gB];refine sum_by _ λ z hz=>?_;show con ((inU z.1.1 z.2 un).d z.1.2 sp) (rpv (inU z.1.1 z.2 un)) s=con (z.1.1.d z.1.2 sp) (rpv z.1.1) s*uS sp un s;have w1:=h.a.rw_ (zLs_m hz);have w2:=h.b.rw_ (zLs_m2 un hz);have g1:=R7.d_gain w1 z.1.2 sp;have g2:=R7.d_gain w2 z.1.2 sp;have gg:=inU_gain h z.1.1 z.2;unfold con;rw [g1,g2,R7.d_st,R7.d_st,R7.d_go,R7.d_go,inU_put];show (if s=sp.getD z.1.1.go "" then _ else if s=sp.getD z.1.1.st "" then _ else _)=_
 split
 ·rename_i e;rw [e,uS_at un h.a.nd w1.go];rw [Rat.mul_assoc,Rat.mul_comm (vC (un.getD z.1.1.st (1,1))),gg,Rat.mul_assoc]
 ·split
  ·rename_i e;rw [e,uS_at un h.a.nd w1.st,Rat.neg_mul]
  ·exact (Rat.zero_mul _).symm
theorem overB_by {hi:Option Rat} {x u:Rat} (hu:0<u):cg (hi.map (· * u)) (x*u)=cg hi x:=by
 unfold cg;have e:x*u<0↔x<0:=by rw [<- Rat.mul_lt_mul_right (a:=x) (b:=0) hu,Rat.zero_mul]
 rw [decide_eq_decide.mpr e]
 cases hi with
 | none=>rfl
 | some y=>exact gK _ (decide_eq_decide.mpr (Rat.mul_lt_mul_right hu))
theorem bndB_by {hi:Option Rat} {x u:Rat} (hu:0<u):bndB (hi.map (· * u)) (x*u)=bndB hi x*u:=by
 unfold bndB;have e:x*u<0↔x<0:=by rw [<- Rat.mul_lt_mul_right (a:=x) (b:=0) hu,Rat.zero_mul]
 by_cases h:x<0
 ·rw [if_pos h,if_pos (e.mpr h),Rat.zero_mul]
 ·rw [if_neg h,if_neg λ z=>h (e.mp z)]
  cases hi with
  | none=>exact (Rat.zero_mul _).symm
  | some y=>rfl
theorem UP.bounds (h:UP sp wn rs un):bx (aZ ((a9 rs un).zip wn)) (zD sp (a9 rs un) wn)=bx (aZ (rs.zip wn)) (zD sp rs wn):=by
 unfold bx zD;have e2:=zLs_2 rs wn un;have e1:=zLs_1 rs wn
 have q:∀ z∈zLs rs wn,cg ((inU z.1.1 z.2 un).d z.1.2 sp).hi (aZ ((a9 rs un).zip wn) ((inU z.1.1 z.2 un).d z.1.2 sp).nm)=cg (z.1.1.d z.1.2 sp).hi (aZ (rs.zip wn) (z.1.1.d z.1.2 sp).nm):=λ z hz=>by
  rw [h.a.am (zLs_m hz),h.b.am (zLs_m2 un hz),R7.d_hi,R7.d_hi,inU_put,inU_hi];exact overB_by (h.pos _)
 rw [List.filter_map,List.filter_map,gB,gB]
 conv=>lhs;arg 2;arg 2;rw [e2]
 conv=>rhs;arg 2;arg 2;rw [e1]
 rw [List.filter_map,List.filter_map,gB,gB];rw [List.filter_congr (p:=((λ y:WD=>cg y.hi (aZ ((a9 rs un).zip wn) y.nm)) ∘ λ z:R7 × Str=>z.1.d z.2 sp) ∘ λ z:(R7 × Str) × Nat=>(inU z.1.1 z.2 un,z.1.2)) (q:=((λ y:WD=>cg y.hi (aZ (rs.zip wn) y.nm)) ∘ λ z:R7 × Str=>z.1.d z.2 sp) ∘ λ z:(R7 × Str) × Nat=>z.1) λ z hz=>q z hz];refine List.map_congr_left λ z _=>?_;show (("bound":Str),((inU z.1.1 z.2 un).d z.1.2 sp).nm)=(("bound":Str),(z.1.1.d z.1.2 sp).nm);rw [R7.d_nm,R7.d_nm]
noncomputable def mLs (sp:List Str) (ws un:List (Int × Int)):List ((Str × (Int × Int)) × (Int × Int)):=(sp.zip ws).zip un
theorem mLs_1 {ws:List (Int × Int)} (l:ws.length=sp.length) (lu:un.length=sp.length):sp.zip (ws.map vC)=(mLs sp ws un).map λ z=>(z.1.1,vC z.1.2):=by
 refine List.ext_getElem (by simp [mLs,l,lu]) λ i h1 h2=>?_;simp [mLs]
theorem mLs_2 {ws:List (Int × Int)} (l:ws.length=sp.length) (lu:un.length=sp.length):sp.zip ((wsU ws un).map vC)=(mLs sp ws un).map λ z=>(z.1.1,vC z.1.2*vC z.2):=by
 refine List.ext_getElem (by simp [mLs,wsU,l,lu]) λ i h1 h2=>?_;simp only [mLs,wsU,List.getElem_zip,List.getElem_map];rw [cX]
theorem mLs_u {ws:List (Int × Int)} (nd:sp.Nodup) {z:(Str × (Int × Int)) × (Int × Int)} (h:z∈mLs sp ws un):uS sp un z.1.1=vC z.2:=by
 obtain ⟨i,hi⟩:=gr.mp h;unfold mLs at hi;rw [gx] at hi;obtain ⟨h1,h2⟩:=hi;rw [gx] at h1;unfold uS;rw [idx_of nd h1.1,fP,h2];rfl
theorem UP.places (h:UP sp wn rs un) {ws:List (Int × Int)} (l:ws.length=sp.length) {F1 F2:Str->Rat} (e:∀ s,F2 s=F1 s*uS sp un s):bI F2 (sp.zip ((wsU ws un).map vC))=bI F1 (sp.zip (ws.map vC)):=by
 unfold bI;rw [mLs_2 l h.lu,mLs_1 l h.lu,List.filter_map,List.filter_map,gB,gB];rw [List.filter_congr (q:=(λ z:Str × Rat=>decide (F1 z.1<z.2)) ∘ λ z:(Str × (Int × Int)) × (Int × Int)=>(z.1.1,vC z.1.2)) λ z hz=>?_]
 ·rfl
 ·show decide (F2 z.1.1<vC z.1.2*vC z.2)=decide (F1 z.1.1<vC z.1.2);have hu:=mLs_u h.a.nd hz;rw [e,hu];refine decide_eq_decide.mpr (Rat.mul_lt_mul_right ?_)
  have:=h.ok z.2 (hJ hz).2
  exact vC_pos this.t0 this.b.o
theorem UP.keys (h:UP sp wn rs un):plK ((a9 rs un).zip wn)=plK (rs.zip wn):=by
 unfold plK
 conv=>lhs;arg 2;arg 2;rw [zLs_2]
 conv=>rhs;arg 2;arg 2;rw [zLs_1]
 rw [List.filter_map,List.filter_map,gB,gB];rw [List.filter_congr (q:=(λ z:R7 × Str=>z.1.put.isSome) ∘ λ z:(R7 × Str) × Nat=>z.1) λ z hz=>?_]
 ·rfl
 ·show ((inU z.1.1 z.2 un).put).isSome=z.1.1.put.isSome;unfold inU;exact Option.isSome_map
theorem UP.faults (h:UP sp wn rs un) {ws:List (Int × Int)} (l:ws.length=sp.length):aK (plK ((a9 rs un).zip wn)) (aZ ((a9 rs un).zip wn)) (sp.zip ((wsU ws un).map vC)) (zD sp (a9 rs un) wn)=aK (plK (rs.zip wn)) (aZ (rs.zip wn)) (sp.zip (ws.map vC)) (zD sp rs wn):=by
 unfold aK;rw [bL (h.b.ks λ n hn=>by rw [h.b.names];exact hn),bL (h.a.ks λ n hn=>by rw [h.a.names];exact hn),h.bounds,h.places l h.sums]
theorem UP.worth (h:UP sp wn rs un):((plK ((a9 rs un).zip wn)).map λ n=>coZ ((a9 rs un).zip wn) n*pA ((a9 rs un).zip wn) n).sum=((plK (rs.zip wn)).map λ n=>coZ (rs.zip wn) n*pA (rs.zip wn) n).sum:=by
 rw [h.keys]
 congr 1
 refine List.map_congr_left λ n hn=>?_;obtain ⟨z0,hz0,rfl⟩:=h.a.kat hn;rw [zLs_1] at hz0;obtain ⟨z,hz,rfl⟩:=fQ.mp hz0;have m1:=zLs_m hz;have m2:=zLs_m2 un hz;rw [pA_at h.a.nz m1,show coZ (rs.zip wn) z.1.2=vC z.1.1.co from fz_at (λ r=>vC r.co) h.a.nz m1];have e1:pA ((a9 rs un).zip wn) z.1.2=rpv (inU z.1.1 z.2 un):=pA_at h.b.nz m2;have e2:coZ ((a9 rs un).zip wn) z.1.2=vC (inU z.1.1 z.2 un).co:=fz_at (λ r=>vC r.co) h.b.nz m2;rw [e1,e2,inU_put,Rat.mul_comm (rpv z.1.1),<- Rat.mul_assoc,inU_co h]
end
theorem FstR.inv {ps:List (Str × Rat)} {ds:List WD} {A:Str->Rat} {W x:Rat} {F:List (Str × Str)} {t m:Str} (h:FstR ps ds A W F t m x):(F=[]/\t = "worth"/\m = ""/\x=W)∨(∃ rest y,F=(("bound":Str),m)::rest/\t = "OverBound"/\y∈ds/\y.nm=m/\x=bndB y.hi (A m))∨∃ rest,∃ (i:Nat) (v:Rat),F=(("place":Str),m)::rest/\t = "Short"/\ps[i]?=some (m,v)/\x=v-bC A ds m:=by
 cases h with
 | worth=>exact .inl ⟨rfl,rfl,rfl,rfl⟩
 | bound n rest y my ey=>exact .inr (.inl ⟨rest,y,rfl,rfl,my,ey,rfl⟩)
 | place n rest i v hi=>exact .inr (.inr ⟨rest,i,v,rfl,rfl,hi,rfl⟩)
theorem bp_ne {n m:Str} {r r':List (Str × Str)} (h:(("bound":Str),n)::r=(("place":Str),m)::r'):False:=absurd (gK Prod.fst (List.cons.inj h).1) (show ¬ (("bound":Str) = "place") by decide)
section
variable {sp wn:List Str} {rs:List R7} {un:List (Int × Int)}
theorem nd_at {β:Type} {f:β->Str} {l:List β} (nd:(l.map f).Nodup) {x y:β} (hx:x∈l) (hy:y∈l) (e:f x=f y):x=y:=by
 obtain ⟨i,hi⟩:=gr.mp hx;obtain ⟨j,hj⟩:=gr.mp hy
 have:i=j:=(gL (l:=l.map f) (by rw [fG];exact (fL.mp hi).1) nd).mp (by rw [fN,fN,hi,hj,gJ,gJ,e])
 subst this;exact f9 (hi.symm.trans hj)
theorem UP.first (h:UP sp wn rs un) {ws:List (Int × Int)} (l:ws.length=sp.length) {W:Rat} {F:List (Str × Str)} {t m:Str} {y:Rat} (R:FstR (sp.zip (ws.map vC)) (zD sp rs wn) (aZ (rs.zip wn)) W F t m y) :
  ∃ u,ByU wn sp rs un t m u/\PB 60 u/\∀ t' m' x,FstR (sp.zip ((wsU ws un).map vC)) (zD sp (a9 rs un) wn) (aZ ((a9 rs un).zip wn)) W F t' m' x->t'=t/\m'=m/\x=y*vC u:=by
 rcases R.inv with ⟨rfl,rfl,rfl,rfl⟩ | ⟨rest,y1,rfl,rfl,my,rfl,rfl⟩ | ⟨rest,i,v,rfl,rfl,hi,rfl⟩
 ·refine ⟨(1,1),.inl ⟨rfl,rfl⟩,⟨by decide,by decide,by decide⟩,λ t' m' x R'=>?_⟩;rcases R'.inv with ⟨_,rfl,rfl,rfl⟩ | ⟨_,_,e,_⟩ | ⟨_,_,_,e,_⟩
  ·exact ⟨rfl,rfl,by rw [show vC (1,1)=1 from rfl,Rat.mul_one]⟩
  ·cases e
  ·cases e
 ·obtain ⟨z0,hz0,rfl⟩:=h.a.mem y1 my;obtain ⟨i,hi⟩:=gr.mp hz0;have hi':=hi;rw [gx] at hi;have w1:=h.a.rw_ hz0
  have hz:(z0,i)∈zLs rs wn:=by
   unfold zLs;exact fK (i:=i) (by rw [List.getElem?_zipIdx,hi'];simp)
  refine ⟨un.getD z0.1.st (1,1),.inr (.inl ⟨rfl,i,z0.1,by rw [R7.d_nm];exact hi.2,hi.1,getDU (by rw [h.lu];exact w1.st)⟩),(h.u _).b,λ t' m' x R'=>?_⟩;rcases R'.inv with ⟨e,_⟩ | ⟨_,y2,e,rfl,my2,rfl,rfl⟩ | ⟨_,_,_,e,_⟩
  ·cases e
  ·have e':(z0.1.d z0.2 sp).nm=y2.nm:=gK Prod.snd (List.cons.inj e).1;have m2:=zLs_m2 un hz;have y2e:y2=(inU z0.1 i un).d z0.2 sp:=nd_at (f:=λ d:WD=>d.nm) (by rw [h.b.names];exact h.b.nw) my2 (by unfold zD;exact fQ.mpr ⟨_,m2,rfl⟩) (by rw [<- e',R7.d_nm,R7.d_nm]);refine ⟨rfl,e'.symm,?_⟩;rw [y2e,h.a.am hz0,h.b.am m2,R7.d_hi,R7.d_hi,inU_put,inU_hi];exact bndB_by (h.pos _)
  ·exact (bp_ne e).elim
 ·have hm:∃ j,(mLs sp ws un)[i]?=some j/\j.1.1=m/\vC j.1.2=v:=by
   rw [mLs_1 l h.lu (un:=un),fN] at hi
   cases e:(mLs sp ws un)[i]? with
   | none=>rw [e] at hi;cases hi
   | some j=>
    rw [e] at hi
    have:=Prod.mk.inj (f9 hi)
    exact ⟨j,rfl,this.1,this.2⟩
  obtain ⟨j,hj,rfl,rfl⟩:=hm;have mj:=fK hj;have hj':=hj;unfold mLs at hj;rw [gx] at hj;have h1:=hj.1;rw [gx] at h1;have hu:=mLs_u (un:=un) h.a.nd mj;refine ⟨j.2,.inr (.inr ⟨rfl,i,h1.1,hj.2⟩),(h.ok _ (fK hj.2)).b,λ t' m' x R'=>?_⟩;rcases R'.inv with ⟨e,_⟩ | ⟨_,_,e,_⟩ | ⟨_,k,v2,e,rfl,hk,rfl⟩
  ·cases e
  ·exact (bp_ne e.symm).elim
  ·have e':j.1.1=m':=gK Prod.snd (List.cons.inj e).1;subst e';refine ⟨rfl,rfl,?_⟩;have p2:(j.1.1,vC j.1.2*vC j.2)∈sp.zip ((wsU ws un).map vC):=by rw [mLs_2 l h.lu];exact fQ.mpr ⟨j,mj,rfl⟩
   have q2:(j.1.1,v2)=(j.1.1,vC j.1.2*vC j.2):=nd_at (f:=λ z:Str × Rat=>z.1) (by rw [List.map_fst_zip (by simp [wsU];have:=h.lu;omega)];exact h.a.nd) (fK hk) p2 rfl;rw [(Prod.mk.inj q2).2,h.sums,hu];grind
end
theorem rot_perm {α:Type} (l:List α) (c:Nat):(l.drop c++l.take c).Perm l:=by
 have:=List.perm_append_comm (l₁:=l.drop c) (l₂:=l.take c)
 rwa [List.take_append_drop] at this
theorem sumF_rot {A:Str->Rat} {ds:List WD} (ne:∀ d∈ds,d.st≠d.go) (c:Nat) (s:Str):bC A (ds.drop c++ds.take c) s=bC A ds s:=by
 rw [eW _ s λ d m=>ne d ((rot_perm ds c).mem_iff.mp m),eW _ s ne,gj,sumA,Rat.add_comm,<- sumA,<- gj,List.take_append_drop]
theorem faults_perm {ks:List Str} {A:Str->Rat} {ps:List (Str × Rat)} {ds:List WD} (sub:∀ n∈ks,n∈ds.map (·.nm)) (ne:∀ d∈ds,d.st≠d.go) (c:Nat):(aK ks A ps.reverse (ds.drop c++ds.take c)).Perm (aK ks A ps ds):=by
 unfold aK;have p:=rot_perm ds c;rw [bL sub,bL λ n hn=>(p.map (·.nm)).mem_iff.mpr (sub n hn),List.map_nil,List.nil_append,List.nil_append,show bC A (ds.drop c++ds.take c)=bC A ds from funext λ s=>sumF_rot ne c s];exact ((p.filter _).map _).append ((ps.reverse_perm.filter _).map _)
theorem nd_of {α β:Type} {f:α->β} {l:List α} (h:(l.map f).Nodup):l.Nodup:=List.Pairwise.of_map f (λ a b e z=>e (gK f z)) h
theorem faults_nd {ks:List Str} {A:Str->Rat} {ps:List (Str × Rat)} {ds:List WD} (sub:∀ n∈ks,n∈ds.map (·.nm)) (nd:(ds.map (·.nm)).Nodup) (np:(ps.map (·.1)).Nodup):(aK ks A ps ds).Nodup:=by
 unfold aK;rw [bL sub,List.map_nil,List.nil_append];refine List.nodup_append.mpr ⟨nd_of (f:=(·.2)) ?_,nd_of (f:=(·.2)) ?_,λ x hx y hy e=>?_⟩
 ·unfold bx;rw [gB];exact (List.filter_sublist.map (λ y:WD=>y.nm)).nodup nd
 ·unfold bI;rw [gB];exact (List.filter_sublist.map (λ y:Str × Rat=>y.1)).nodup np
 ·obtain ⟨_,_,rfl⟩:=fQ.mp hx;obtain ⟨_,_,rfl⟩:=fQ.mp hy;exact absurd (gK Prod.fst e) (show ¬ (("bound":Str) = "place") by decide)
theorem faults_len {ks:List Str} {A:Str->Rat} {ps:List (Str × Rat)} {ds:List WD} (sub:∀ n∈ks,n∈ds.map (·.nm)):(aK ks A ps ds).length<=ds.length+ps.length:=by
 unfold aK;rw [bL sub,List.map_nil,List.nil_append,fX]
 have:=cS A ds
 have:=placesF_len (bC A ds) ps
 omega
theorem range_getD {α:Type} (l:List α) (d:α):(List.range l.length).map (λ i=>l.getD i d)=l:=by
 refine List.ext_getElem (by simp) λ i h1 h2=>?_;rw [List.getElem_map,List.getElem_range,fP,fF h2];rfl
theorem sort_same {fs gs:List (Str × Str)} {q r:List Nat} (p:fs.Perm gs) (hq:q.Perm (List.range fs.length)) (hr:r.Perm (List.range gs.length)) (sq:(q.map λ i=>fs.getD i ("","")).Pairwise (λ a b=>pLt a b=true)) (sr:(r.map λ i=>gs.getD i ("","")).Pairwise (λ a b=>pLt a b=true)):(q.map λ i=>fs.getD i ("",""))=r.map λ i=>gs.getD i ("",""):=by
 have e1:=hq.map λ i=>fs.getD i ("","");have e2:=hr.map λ i=>gs.getD i ("","");rw [range_getD] at e1 e2;exact List.Perm.eq_of_pairwise (λ a b _ _ h1 h2=>(pLt_as h1 h2).elim) sq sr (e1.trans (p.trans e2.symm))
theorem sorted_eq {H:Hp} {fs gs:List (Str × Str)} {us vs:List V} {q r:List Nat} (hu:RowAt FtIs H us fs) (hv:RowAt FtIs H vs gs) (hq:q.Perm (List.range fs.length)) (hr:r.Perm (List.range gs.length)) (e:(q.map λ i=>fs.getD i ("",""))=r.map λ i=>gs.getD i ("","")) :
  (q.map λ i=>us.getD i .non).length=(r.map λ i=>vs.getD i .non).length/\∀ (j:Nat) (x y:V),(q.map λ i=>us.getD i .non)[j]?=some x->(r.map λ i=>vs.getD i .non)[j]?=some y->EqD K H 20 x y:=by
 have el:=gK List.length e;rw [fG,fG] at el;refine ⟨by rw [fG,fG,el],λ j x y hx hy=>?_⟩;rw [fN] at hx hy;obtain ⟨i,hi,rfl⟩:=gW.mp hx;obtain ⟨k,hk,rfl⟩:=gW.mp hy;have i1:=List.mem_range.mp (hq.mem_iff.mp (fK hi));have k1:=List.mem_range.mp (hr.mem_iff.mp (fK hk));have ee:=gK (λ l=>l[j]?) e;simp only [fN,hi,hk,gJ] at ee;have e3:=f9 ee;have g1:us[i]?=some (us.getD i .non):=by rw [fP,fF (by rw [hu.1];exact i1)];rfl
 have g2:vs[k]?=some (vs.getD k .non):=by rw [fP,fF (by rw [hv.1];exact k1)];rfl
 have f1:fs[i]?=some (fs.getD i ("","")):=by rw [fP,fF i1];rfl
 have f2:gs[k]?=some (gs.getD k ("","")):=by rw [fP,fF k1];rfl
 obtain ⟨t1,q1,h1⟩:=hu.2 i _ _ g1 f1;obtain ⟨t2,q2,h2⟩:=hv.2 k _ _ g2 f2;rw [q1,q2];rw [e3] at h1;exact .tup (SqT.of h1) (SqT.of h2) rfl λ j x y a b=>by rw [a] at b;cases b;exact .flat (by match j,a with | 0,a=>cases a;rfl | 1,a=>cases a;rfl | j+2,a=>cases a)
theorem rows_eq {H:Hp} {fs:List (Str × Str)} {us vs:List V} (hu:RowAt FtIs H us fs) (hv:RowAt FtIs H vs fs):us.length=vs.length/\∀ (j:Nat) (x y:V),us[j]?=some x->vs[j]?=some y->EqD K H 20 x y:=by
 refine ⟨hu.1.trans hv.1.symm,λ j x y hx hy=>?_⟩;have j1:j<fs.length:=by rw [<- hu.1];exact (fL.mp hx).1
 obtain ⟨t1,rfl,h1⟩:=hu.2 j _ _ hx (fF j1);obtain ⟨t2,rfl,h2⟩:=hv.2 j _ _ hy (fF j1);exact .tup (SqT.of h1) (SqT.of h2) rfl λ j x y a b=>by rw [a] at b;cases b;exact .flat (by match j,a with | 0,a=>cases a;rfl | 1,a=>cases a;rfl | j+2,a=>cases a)
end
end G
namespace G
open PySem L2
section
variable {P:Program} {w:World} {K:W.Frag} {mg:Str->Option Value} {base:Heap} {a:Ad}
structure Bt (i:Int):Prop where
 le:Builtin.Int.intBits i<=2 ^ 20
inductive IspLaw (K:W.Frag) (vs:List V) (H:Hp) (Q:VK):Prop
 | mk (l:Addr) (ns:List Int) (h1:vs=[.ref l]) (h2:SqL K H l (ns.map V.int)) (h3:ns.length<=63) (h4:(∀ i∈ns,Bt i)) (h5:∀ H',Q (.bl true) H'):IspLaw K vs H Q
noncomputable def spLaw (K:W.Frag):Sp:=λ vs H Q _=>IspLaw K vs H Q
theorem cut_both {xs:List V} (i j:Nat):cI xs (some (i:Int)) (some (j:Int))=(xs.drop (min i xs.length)).take (min j xs.length-min i xs.length):=by
 unfold cI;rw [HT.sIx_nat,HT.sIx_nat]
theorem cut_drop {xs:List V} (i:Nat):cI xs (some (i:Int)) none=xs.drop i:=by
 unfold cI;rw [HT.sIx_nat,HT.sIx_none];by_cases h:i<=xs.length
 ·rw [Nat.min_eq_left h,List.take_of_length_le (by rw [List.length_drop];omega)]
 ·rw [Nat.min_eq_right (by omega),List.drop_of_length_le (fM _),List.take_nil,List.drop_of_length_le (by omega)]
theorem cut_take {xs:List V} (j:Nat):cI xs none (some (j:Int))=xs.take j:=by
 unfold cI;rw [HT.sIx_none,HT.sIx_nat,List.drop_zero,Nat.sub_zero];by_cases h:j<=xs.length
 ·rw [Nat.min_eq_left h]
 ·rw [Nat.min_eq_right (by omega),ge,List.take_of_length_le (by omega)]
theorem RowAt.app {α:Type} {R:Hp->V->α->Prop} {H:Hp} {ts us:List V} {xs ys:List α} (h1:RowAt R H ts xs) (h2:RowAt R H us ys):RowAt R H (ts++us) (xs++ys):=by
 refine ⟨by rw [fX,fX,h1.1,h2.1],λ i t x ht hx=>?_⟩;by_cases h:i<ts.length
 ·rw [gQ h] at ht;rw [gQ (by rw [<- h1.1];exact h)] at hx;exact h1.2 i t x ht hx
 ·rw [gE (by omega)] at ht;rw [gE (by rw [<- h1.1];omega),<- h1.1] at hx;exact h2.2 _ t x ht hx
theorem RowAt.tk {α:Type} {R:Hp->V->α->Prop} {H:Hp} {ts:List V} {xs:List α} (h:RowAt R H ts xs) (k:Nat):RowAt R H (ts.take k) (xs.take k):=by
 refine ⟨by rw [fZ,fZ,h.1],λ i t x ht hx=>?_⟩;rw [List.getElem?_take] at ht hx
 split at ht
 ·rename_i hi;rw [if_pos hi] at hx;exact h.2 i t x ht hx
 ·cases ht
theorem RowAt.dp {α:Type} {R:Hp->V->α->Prop} {H:Hp} {ts:List V} {xs:List α} (h:RowAt R H ts xs) (k:Nat):RowAt R H (ts.drop k) (xs.drop k):=by
 refine ⟨by rw [List.length_drop,List.length_drop,h.1],λ i t x ht hx=>?_⟩;rw [List.getElem?_drop] at ht hx;exact h.2 _ t x ht hx
theorem namesOf_ln {c:Int} {n:Nat} {x:Str} (h:x∈aS c n):x.length<=1000:=by
 unfold aS at h;obtain ⟨j,_,rfl⟩:=fQ.mp h;exact fO (nameOf_len _ _) (by decide)
theorem NetNew.off {H H':Hp} {d p:Addr} {u:HO} {kvs:List (Key × V)} {ps:List (Str × Rat)} {ds:List WD} (h:NetNew a H H' p ps ds) (h0:H d=some u) (hd:H' d=some (.dK kvs)):NetOff a H' p d ps ds:=by
 obtain ⟨dx,dw,dy,hp,⟨kw,w1,w2,w3⟩,⟨ky,y1,y2,y3⟩,n1,n2⟩:=h;have kp:∀ b o,b≠d->H' b=some o->(λ b=>if b=d then none else H' b) b=some o:=λ b o ne e=>by show (if b=d then none else H' b)=_;rw [if_neg ne];exact e
 have st:Stays a H' (λ b=>if b=d then none else H' b):=λ b C dx fs _ e=>kp _ _ (bS e hd (by intro z;cases z)) e;refine ⟨λ b=>if b=d then none else H' b,⟨dx,dw,dy,kp _ _ (bS hp hd (by intro z;cases z)) hp,⟨kw,kp _ _ (λ z=>by rw [z,h0] at n1;cases n1) w1,w2,w3.mono λ v x ⟨q,e,f⟩=>⟨q,e,st.fr f⟩⟩,⟨ky,kp _ _ (λ z=>by rw [z,h0] at n2;cases n2) y1,y2,y3.mono λ v x z=>z.keep st⟩⟩,λ b o e=>?_,if_pos rfl⟩;by_cases hb:b=d
 ·have e:(if b=d then none else H' b)=some o:=e;rw [if_pos hb] at e;cases e
 ·have e:(if b=d then none else H' b)=some o:=e;rw [if_neg hb] at e;exact e
theorem ok_law {f:Addr} {fd:FuncData} (N:Fun K "law" "law" s_law f fd) (T:TX K mg a):FnOk P w K mg base CX0 18 f fd ["_law_script"] (spLaw K):=by
 refine N.ok sc_law (λ vs H Q E h=>?_) (λ cdv A outer s₀ H vs Q E hr h=>?_)
 ·obtain ⟨l,ns,rfl,_⟩:=h;rfl
 ·obtain ⟨l,ns,rfl,hS,hlen,hbt,k⟩:=h
  refine ⟨_,(ax (al (i:=1) sc_law.nd rfl (Or.inr rfl) (aj aY ac (aj aJ (aj aR (aw (aO T) hr ak (aa (pv 0) (aa ac ad))) ac) ac)))
   (ax (al (i:=2) sc_law.nd rfl (Or.inr rfl) (aj aJ (aw (aO T) hr ak (aa (pv 0) (aa ac ad))) ac))
   (ax (al (i:=3) sc_law.nd rfl (Or.inr rfl) (ao au (cT (aa ac (aa ac (aa ac (aa (aj aY (aj op_pow ac ac) ac) ad))))) (aj aJ (aj aR (aw (aO T) hr ak (aa (pv 0) (aa ac ad))) ac) ac) (λ _ _=>rfl)))
   (ax (al (i:=4) sc_law.nd rfl (Or.inr rfl) (c7 (xs:=["_law_k"]) (rest:=["_law_script"]) rfl (aU rfl T.z_range (aa (pv 1) ad))
   (λ pins fp C' s' H'=>(az (i:=0) (show (["_law_k","_law_script"]:List Str).Nodup by decide +kernel) rfl (Or.inl rfl))) (λ pins fp C' s' H'=>bH)
   (λ pins fp C' s' H'=>(aw (ok_law_name T) hr ak (aa (pv 0) (aa (aj aR (aw (aO T) hr ak (aa (pv 1) (aa ac ad))) ac) ad))))
   (Clos.many (ys:=["_law_script"]) rfl ⟨rfl,True.intro⟩ rfl (by decide +kernel)) (Reads.many (ys:=["_law_script"]) (js:=[0]) ⟨⟨rfl,rfl,rfl⟩,True.intro⟩)))
   (ax (al (i:=5) sc_law.nd rfl (Or.inl rfl) (aC (call_max2 rfl) (by rfl) T.z_max PyProof.Rows.boot_max (aa ac (aa (aj b6 (aC aW (by rfl) T.z_len gM (aa (pe_slice sl_list (pv 0) (po_some ac) (po_some ac)) ad)) (aj aJ (aj a6 (aw (aO T) hr ak (aa (pv 0) (aa ac ad))) (aj op_pow ac ac)) ac)) ad))))
   (ax (al (i:=6) sc_law.nd rfl (Or.inr rfl) (c7 (xs:=["_law_k"]) (rest:=["_law_far","_law_mode","_law_n","_law_script"]) rfl (aU rfl T.z_range (aa (pv 5) ad))
   (λ pins fp C' s' H'=>(az (i:=0) (show (["_law_k","_law_far","_law_mode","_law_n","_law_script"]:List Str).Nodup by decide +kernel) rfl (Or.inl rfl))) (λ pins fp C' s' H'=>bH)
   (λ pins fp C' s' H'=>(aw (ok_law_row T) hr ak (aa (aw (eO T) hr ak (aa (pv 4) (aa (aj aY ac (pv 0)) ad))) (aa (pv 3) (aa (pv 2) (aa (pv 1) ad))))))
   (Clos.many (ys:=["_law_script","_law_n","_law_mode","_law_far"]) rfl ⟨rfl,rfl,rfl,rfl,True.intro⟩ rfl (by decide +kernel)) (Reads.many (ys:=["_law_far","_law_mode","_law_n","_law_script"]) (js:=[3,2,1,0]) ⟨⟨rfl,rfl,rfl⟩,⟨rfl,rfl,rfl⟩,⟨rfl,rfl,rfl⟩,⟨rfl,rfl,rfl⟩,True.intro⟩)))
   (ax (cD (i:=7) (xs:=["_law_k"]) (rest:=["_law_script"]) sc_law.nd rfl rfl rfl (aU rfl T.z_range (aa (aC aW (by rfl) T.z_len gM (aa (pv 6) ad)) ad))
   (λ pins fp C' s' H'=>(az (i:=0) (show (["_law_k","_law_script"]:List Str).Nodup by decide +kernel) rfl (Or.inl rfl))) (λ pins fp C' s' H'=>bH)
   (λ pins fp C' s' H'=>(aw (ok_law_name T) hr ak (aa (pv 0) (aa (aj aR (aw (aO T) hr ak (aa (pv 1) (aa ac ad))) ac) ad))))
   (Clos.many (ys:=["_law_script"]) rfl ⟨rfl,True.intro⟩ rfl (by decide +kernel)) (Reads.many (ys:=["_law_script"]) (js:=[0]) ⟨⟨rfl,rfl,rfl⟩,True.intro⟩))
   (ax (al (i:=8) sc_law.nd rfl (Or.inr rfl) (aw (ok_law_units T) hr ak (aa (pv 0) (aa (pv 1) ad))))
   (ax (al (i:=9) sc_law.nd rfl (Or.inr rfl) (aw (ok_law_wants T) hr ak (aa (pv 0) (aa (pv 1) (aa (pv 2) (aa (pv 6) ad))))))
   (ax (al (i:=10) sc_law.nd rfl (Or.inl rfl) (aw (ok_law_net T) hr ak (aa (pv 6) (aa (pv 7) (aa (pv 4) (aa (pv 9) ad))))))
   (ax (al (i:=11) sc_law.nd rfl (Or.inl rfl) (aw (ok_law_plan T) hr ak (aa (pv 6) (aa (pv 7) ad))))
   (ax (cD (i:=12) (xs:=["_law_k"]) (rest:=["_law_rows","_law_units_here"]) sc_law.nd rfl rfl rfl (aU rfl T.z_range (aa (aC aW (by rfl) T.z_len gM (aa (pv 6) ad)) ad))
   (λ pins fp C' s' H'=>(az (i:=0) (show (["_law_k","_law_rows","_law_units_here"]:List Str).Nodup by decide +kernel) rfl (Or.inl rfl))) (λ pins fp C' s' H'=>bH)
   (λ pins fp C' s' H'=>(aw (ok_law_in_units T) hr ak (aa (ao (r:=rIxL K) au (pv 1) (pv 0) (λ _ _=>rfl)) (aa (pv 0) (aa (pv 2) ad)))))
   (Clos.many (ys:=["_law_units_here","_law_rows"]) rfl ⟨rfl,rfl,True.intro⟩ rfl (by decide +kernel)) (Reads.many (ys:=["_law_rows","_law_units_here"]) (js:=[6,8]) ⟨⟨rfl,rfl,rfl⟩,⟨rfl,rfl,rfl⟩,True.intro⟩))
   (ax (cD (i:=13) (xs:=["_law_k"]) (rest:=["_law_units_here","_law_wants_here"]) sc_law.nd rfl rfl rfl (aU rfl T.z_range (aa (pv 1) ad))
   (λ pins fp C' s' H'=>(az (i:=0) (show (["_law_k","_law_units_here","_law_wants_here"]:List Str).Nodup by decide +kernel) rfl (Or.inl rfl))) (λ pins fp C' s' H'=>bH)
   (λ pins fp C' s' H'=>(aw (bq T) hr ak (aa (ao (r:=rIxL K) au (pv 2) (pv 0) (λ _ _=>rfl)) (aa (ao (r:=rIxL K) au (pv 1) (pv 0) (λ _ _=>rfl)) ad))))
   (Clos.many (ys:=["_law_wants_here","_law_units_here"]) rfl ⟨rfl,rfl,True.intro⟩ rfl (by decide +kernel)) (Reads.many (ys:=["_law_units_here","_law_wants_here"]) (js:=[8,9]) ⟨⟨rfl,rfl,rfl⟩,⟨rfl,rfl,rfl⟩,True.intro⟩))
   (ax (al (i:=14) sc_law.nd rfl (Or.inl rfl) (aw (ok_law_net T) hr ak (aa (pv 12) (aa (pv 7) (aa (pv 4) (aa (pv 13) ad))))))
   (ax (al (i:=15) sc_law.nd rfl (Or.inl rfl) (aw (ok_law_plan T) hr ak (aa (pv 12) (aa (pv 7) ad))))
   (ax (al (i:=16) sc_law.nd rfl (Or.inl rfl) (aw (ok_sums T) hr ak (aa (pv 10) (aa (pv 11) ad))))
   (ax (aD (bY (bE (aw (dY T) hr ak (aa (pv 14) (aa (pv 15) (aa (pv 4) (aa (pv 16) (aa (pv 8) ad)))))))) (ag (aq cE)) ap)
   (ax (aD (bY (bE (aw (cN T) hr ak (aa (aw (c9 T) hr ak (aa (pv 14) (aa (pv 15) ad))) (aa (aw (c9 T) hr ak (aa (pv 10) (aa (pv 11) ad))) (aa (aF (aa ac (aa ac ad))) ad)))))) (ag (aq cE)) ap)
   (ax (aD (ar (op_neDL hr.units) (aw (cy T) hr ak (aa (pv 14) (aa (pv 15) ad))) (aw (cy T) hr ak (aa (pv 10) (aa (pv 11) ad))) (aA _)) (ag (aq cE)) ap)
   (ax (aD (bY (bE (aw (fo T) hr ak (aa (pv 14) (aa (pv 15) (aa (aw (fm T) hr ak (aa (pv 10) (aa (pv 11) ad))) (aa (pv 8) (aa (pv 4) (aa (pv 6) (aa (pv 7) ad)))))))))) (ag (aq cE)) ap)
   (ax (al (i:=17) sc_law.nd rfl (Or.inl rfl) (aj aJ (aw (aO T) hr ak (aa (pv 0) (aa ac ad))) (aj aY (aC aW (by rfl) T.z_len gM (aa (pv 6) ad)) ac)))
   (ax (cD (i:=18) (xs:=["_law_k"]) (rest:=["_law_n","_law_names","_law_wants_here"]) sc_law.nd rfl rfl rfl (aU rfl T.z_range (aa (pv 1) ad))
   (λ pins fp C' s' H'=>(az (i:=0) (show (["_law_k","_law_n","_law_names","_law_wants_here"]:List Str).Nodup by decide +kernel) rfl (Or.inl rfl))) (λ pins fp C' s' H'=>bH)
   (λ pins fp C' s' H'=>(aF (aa (ao (r:=rIxL K) au (pv 2) (aj b6 (aj b6 (pv 1) ac) (pv 0)) (λ _ _=>rfl)) (aa (bo (mk2 T) hr T.mg_Fraction ak (aa (ao (r:=rIxT K) aB (ao (r:=rIxL K) au (pv 3) (aj b6 (aj b6 (pv 1) ac) (pv 0)) (λ _ _=>rfl)) ac (λ _ _=>rfl)) (aa (ao (r:=rIxT K) aB (ao (r:=rIxL K) au (pv 3) (aj b6 (aj b6 (pv 1) ac) (pv 0)) (λ _ _=>rfl)) ac (λ _ _=>rfl)) ad))) ad))))
   (Clos.many (ys:=["_law_wants_here","_law_names","_law_n"]) rfl ⟨rfl,rfl,rfl,True.intro⟩ rfl (by decide +kernel)) (Reads.many (ys:=["_law_n","_law_names","_law_wants_here"]) (js:=[1,4,9]) ⟨⟨rfl,rfl,rfl⟩,⟨rfl,rfl,rfl⟩,⟨rfl,rfl,rfl⟩,True.intro⟩))
   (ax (al (i:=19) sc_law.nd rfl (Or.inl rfl) (cK (CX:=CX0) (pv 10) hr ak))
   (ax (al (i:=20) sc_law.nd rfl (Or.inl rfl) (pe_mk (mk_Net T) hr T.mg_Net ak (aa (pv 18) (aa (aj op_cat (pe_slice sl_list (pv 19) (po_some (pv 17)) po_none) (pe_slice sl_list (pv 19) po_none (po_some (pv 17)))) ad))))
   (ax (aD (bY (bE (aw (dY T) hr ak (aa (pv 20) (aa (pv 11) (aa (pv 4) (aa (pv 16) (aa (c7 (xs:=["_law_k"]) (rest:=[]) rfl (aU rfl T.z_range (aa (pv 1) ad))
   (λ pins fp C' s' H'=>(az (i:=0) (show (["_law_k"]:List Str).Nodup by decide +kernel) rfl (Or.inl rfl))) (λ pins fp C' s' H'=>bH)
   (λ pins fp C' s' H'=>(aF (aa ac (aa ac ad))))
   (Clos.none (by decide +kernel) (by decide +kernel)) (Reads.many (ys:=[]) (js:=[]) True.intro)) ad)))))))) (ag (aq cE)) ap)
   (ax (aD (bY (bE (aw (cN T) hr ak (aa (aw (c9 T) hr ak (aa (pv 20) (aa (pv 11) ad))) (aa (aw (c9 T) hr ak (aa (pv 10) (aa (pv 11) ad))) (aa (aF (aa ac (aa ac ad))) ad)))))) (ag (aq cE)) ap)
   (ag (aq (pe_cmpR (op_eqDL hr.units) (aC (dH hr.hd) (by rfl) T.z_sorted PyProof.Rows.boot_sorted (aa (aw (cy T) hr ak (aa (pv 20) (aa (pv 11) ad))) ad)) (aC (dH hr.hd) (by rfl) T.z_sorted PyProof.Rows.boot_sorted (aa (aw (cy T) hr ak (aa (pv 10) (aa (pv 11) ad))) ad)) (aA _)))))))))))))))))))))))))))))),?_⟩
  try dsimp only [aG,Cx.nox,Cx.wish]
  refine ⟨λ σ' H'=>∃ n:Nat,σ'=[some (.ref l),some (.int n),none,none,none,none,none,none,none,none,none,none,none,none,none,none,none,none,none,none,none]/\H'=H/\2<=n/\n<=12,?_,?_⟩
  ·obtain ⟨n0,n1⟩:=aT (bV ns 0 / 2) (show (0:Int)<11 by decide);obtain ⟨n,hn⟩:=gH n0;refine ⟨_,rfl,l,ns,0,rfl,hS,_,_,rfl,rfl,⟨by decide,by decide⟩,_,_,rfl,rfl,zI11,_,_,rfl,rfl,2+n,?_,rfl,by omega,by omega⟩;rw [show ((2+n:Nat):Int)=2+bV ns 0 / 2 % 11 by omega];rfl
  rintro σ' H' ⟨n,rfl,rfl,n2,n12⟩;refine ⟨λ σ' H2=>∃ mode:Int,σ'=[some (.ref l),some (.int n),some (.int mode),none,none,none,none,none,none,none,none,none,none,none,none,none,none,none,none,none,none]/\H2=H',?_,?_⟩
  ·exact ⟨_,rfl,l,ns,1,rfl,hS,_,_,rfl,rfl,zI4,_,rfl,rfl⟩
  rintro σ' H2 ⟨mode,rfl,rfl⟩;refine ⟨λ σ' H'=>∃ far:Int,σ'=[some (.ref l),some (.int n),some (.int mode),some (.int far),none,none,none,none,none,none,none,none,none,none,none,none,none,none,none,none,none]/\Same H2 H'/\far.natAbs<=2 ^ 140,?_,?_⟩
  ·refine ⟨_,_,rfl,rfl,⟨by decide,by decide,by decide⟩,_,_,rfl,rfl,zL4,λ q nq=>?_⟩;have ml:upd H2 q (.lst [.int 1,.int 1,.int 1,.int (10 ^ 20+7)]) q=some (.lst [.int 1,.int 1,.int 1,.int (10 ^ 20+7)]):=ae;have s1:=ay (o:=.lst [.int 1,.int 1,.int 1,.int (10 ^ 20+7)]) nq;obtain ⟨e0,e1⟩:=aT (bV ns 1 / 4) (show (0:Int)<4 by decide);obtain ⟨j,hj⟩:=gH e0
   have ex:∃ far:Int,atI [V.int 1,.int 1,.int 1,.int (10 ^ 20+7)] (bV ns 1 / 4 % 4)=some (.int far)/\far.natAbs<=2 ^ 140:=by
    rw [hj]
    match j,hj with
    | 0,_=>exact ⟨1,rfl,by decide⟩
    | 1,_=>exact ⟨1,rfl,by decide⟩
    | 2,_=>exact ⟨1,rfl,by decide⟩
    | 3,_=>exact ⟨10 ^ 20+7,rfl,by decide⟩
    | j+4,hj=>omega
   obtain ⟨far,a4,hf⟩:=ex;exact ⟨_,rfl,l,ns,1,rfl,s1.seq hS,_,_,rfl,rfl,⟨by decide,by decide⟩,_,_,rfl,rfl,zI4,q,_,_,_,rfl,rfl,SqL.of ml,a4,far,rfl,s1,hf⟩
  rintro σ' H3' ⟨far,rfl,s3',hfar⟩;generalize hc0:bV ns 0 / 22=cn;refine ⟨λ σ' H'=>∃ ln:Addr,σ'=[some (.ref l),some (.int n),some (.int mode),some (.int far),some (.ref ln),none,none,none,none,none,none,none,none,none,none,none,none,none,none,none,none]/\Same H2 H'/\H' ln=some (.lst ((aS cn n).map V.str)),?_,?_⟩
  ·refine ⟨_,rfl,(n:Int),rfl,by omega,by omega,λ ln nln=>?_⟩;refine a8 (λ i H3=>i<=n/\Same H3' H3/\H3 ln=some (.lst ((aS cn i).map V.str))) ⟨fY _,ay nln,ae⟩ ?_ ?_
   ·rintro i H3 hi ⟨_,s3,h3⟩;refine g1 ⟨⟨[_],rfl,rfl⟩,yes ?_⟩;have hi':i<n:=by simpa using hi
    refine ⟨_,rfl,_,rfl,l,ns,0,rfl,(s3'.trans s3).seq hS,_,_,rfl,rfl,⟨by decide,by decide⟩,_,_,rfl,by omega,by omega,?_⟩;refine ⟨_,h3,aE (by rw [fG,cQ];omega),cP (by simpa using hi) ⟨hi',aH nln s3,?_⟩⟩;rw [ae,fu,gj,iw,hc0];rfl
   ·rintro H3 ⟨_,s3,h3⟩;exact ⟨ln,rfl,s3'.trans s3,by simpa using h3⟩
  rintro σ' H3 ⟨ln,rfl,s3,hln⟩;have spn:(aS cn n).Nodup:=namesOf_nd (by omega);have spl:(aS cn n).length=n:=cQ _ _;have spk:∀ x∈aS cn n,x.length<=1000:=λ x hx=>namesOf_ln hx;generalize aS cn n=sp at hln spn spl spk;refine ⟨λ σ' H'=>∃ m:Nat,σ'=[some (.ref l),some (.int n),some (.int mode),some (.int far),some (.ref ln),some (.int m),none,none,none,none,none,none,none,none,none,none,none,none,none,none,none]/\Same H3 H'/\m<=12,?_,?_⟩
  ·refine ⟨_,rfl,_,rfl,_,rfl,l,_,rfl,s3.seq hS,λ q nq=>?_⟩
   have lc:(cI (ns.map V.int) (some 2) (some 14)).length<=12:=by
    rw [show cI (ns.map V.int) (some 2) (some 14)=_ from cut_both 2 14,fZ];omega
   have s4:=ay (o:=.lst (cI (ns.map V.int) (some 2) (some 14))) nq;have hq:upd H3 q (.lst (cI (ns.map V.int) (some 2) (some 14))) q=some (.lst (cI (ns.map V.int) (some 2) (some 14))):=ae;generalize cI (ns.map V.int) (some 2) (some 14)=xs at lc s4 hq ⊢;generalize upd H3 q (.lst xs)=H4 at s4 hq ⊢;refine ⟨q,_,rfl,.inl (SqL.of hq),_,rfl,l,ns,0,rfl,(s3.trans s4).seq hS,_,_,rfl,rfl,⟨by decide,by decide,by decide⟩,_,_,rfl,rfl,⟨by decide,Sm.of_le (n:=40) (by decide) (by decide)⟩,_,_,rfl,rfl,zI13,_,_,rfl,rfl,_,_,rfl,?_⟩;obtain ⟨e0,e1⟩:=aT ((bV ns 0).fdiv (10 ^ (9:Int).toNat)) (show (0:Int)<13 by decide);generalize (bV ns 0).fdiv (10 ^ (9:Int).toNat) % 13=y at e0 e1;obtain ⟨m,hm⟩:∃ m:Nat,(if (xs.length:Int)-y > 0 then (xs.length:Int)-y else 0)=m:=gH (by split <;> omega);refine ⟨m,?_,s4,?_⟩
   ·rw [<- hm];rfl
   ·split at hm <;> omega
  rintro σ' H4 ⟨m,rfl,s4,m24⟩;have s14:=s3.trans s4;refine ⟨λ σ' H'=>∃ (lr:Addr) (ts:List V) (rs:List R7),σ'=[some (.ref l),some (.int n),some (.int mode),some (.int far),some (.ref ln),some (.int m),some (.ref lr),none,none,none,none,none,none,none,none,none,none,none,none,none,none]/\Same H4 H'/\H' lr=some (.lst ts)/\RowAt R7Is H' ts rs/\rs.length=m/\∀ r∈rs,R7Ok n r,?_,?_⟩
  ·refine ⟨_,rfl,(m:Int),rfl,by omega,by omega,λ lr nlr=>?_⟩;refine a8 (λ i H5=>i<=m/\Same H4 H5/\∃ (ts:List V) (rs:List R7),H5 lr=some (.lst ts)/\RowAt R7Is H5 ts rs/\rs.length=i/\∀ r∈rs,R7Ok n r) ⟨fY _,ay nlr,[],[],ae,RowAt.nil,rfl,λ r hr=>absurd hr List.not_mem_nil⟩ ?_ ?_
   ·rintro i H5 hi ⟨_,s5,ts,rs,h5,hv,lrs,hok⟩;refine g1 ⟨⟨[_],rfl,rfl⟩,yes ?_⟩;have hi':i<m:=by simpa using hi
    refine ⟨_,rfl,_,rfl,_,_,rfl,rfl,l,ns,2+i,by show [V.ref l,V.int (2+(0+(i:Int)))]=[V.ref l,V.int ((2+i:Nat):Int)];rw [show 2+(0+(i:Int))=((2+i:Nat):Int) by omega],(s14.trans s5).seq hS,by omega,λ c=>?_⟩;refine ⟨_,rfl,_,rfl,_,rfl,c,mode,far,n,rfl,n2,by omega,hfar,λ v r H6 s6 h6 ok6=>?_⟩;have h56:=s6 _ _ h5;have lts:ts.length=i:=by rw [hv.1,lrs]
    refine ⟨_,h56,aE (by omega),cP (by simpa using hi) ⟨hi',aH nlr (s5.trans s6),_,rs++[r],ae,?_,by simp [lrs],λ x hx=>?_⟩⟩
    ·exact RowAt.snoc (hv.mono λ v x z=>(z.mono s6).ko (.lst h56)) (h6.ko (.lst h56))
    ·rcases List.mem_append.mp hx with z | z
     ·exact hok x z
     ·rw [List.mem_singleton.mp z];exact ok6
   ·rintro H5 ⟨_,s5,ts,rs,h5,hv,lrs,hok⟩;exact ⟨lr,ts,rs,rfl,s5,h5,hv,by simpa using lrs,hok⟩
  rintro σ' H5 ⟨lr,ts,rs,rfl,s5,hlr,hrs,lrs,rok⟩;have s15:=s14.trans s5;have lts:ts.length=m:=by rw [hrs.1,lrs]
  have lnt:((ts.length:Nat):Int).toNat=m:=by rw [lts];rfl
  generalize hc1:bV ns 1 / 48=cw;refine ⟨λ σ' H'=>∃ lw:Addr,σ'=[some (.ref l),some (.int n),some (.int mode),some (.int far),some (.ref ln),some (.int m),some (.ref lr),some (.ref lw),none,none,none,none,none,none,none,none,none,none,none,none,none]/\Same H5 H'/\H' lw=some (.lst ((aS cw m).map V.str)),?_,?_⟩
  ·refine ⟨_,rfl,lr,_,rfl,.inl (SqL.of hlr),_,rfl,by omega,by omega,λ lw nlw=>?_⟩;refine a8 (n:=((ts.length:Nat):Int).toNat) (λ i H6=>i<=m/\Same H5 H6/\H6 lw=some (.lst ((aS cw i).map V.str))) ⟨fY _,ay nlw,ae⟩ ?_ ?_
   ·rintro i H6 hi ⟨_,s6,h6⟩;refine g1 ⟨⟨[_],rfl,rfl⟩,yes ?_⟩;have hi':i<m:=by rw [<- lnt];exact hi
    refine ⟨_,rfl,_,rfl,l,ns,1,rfl,(s15.trans s6).seq hS,_,_,rfl,rfl,⟨by decide,by decide⟩,_,_,rfl,by omega,by omega,?_⟩;refine ⟨_,h6,aE (by rw [fG,cQ];omega),cP hi ⟨hi',aH nlw s6,?_⟩⟩;rw [ae,fu,gj,iw,hc1];rfl
   ·rintro H6 ⟨_,s6,h6⟩;rw [lnt] at h6;exact ⟨lw,rfl,s6,h6⟩
  rintro σ' H6 ⟨lw,rfl,s6,hlw⟩;have wnd:(aS cw m).Nodup:=namesOf_nd (by omega);have wln:(aS cw m).length=m:=cQ _ _;have wnl:∀ x∈aS cw m,x.length<=1000:=λ x hx=>namesOf_ln hx;generalize aS cw m=wn at hlw wnd wln wnl;have s16:=s15.trans s6;refine ⟨λ σ' H'=>∃ (lu:Addr) (tu:List V) (un:List (Int × Int)),σ'=[some (.ref l),some (.int n),some (.int mode),some (.int far),some (.ref ln),some (.int m),some (.ref lr),some (.ref lw),some (.ref lu),none,none,none,none,none,none,none,none,none,none,none,none]/\Same H6 H'/\H' lu=some (.lst tu)/\RowAt DueIs H' tu un/\un.length=n/\∀ u∈un,UOk u,?_,?_⟩
  ·exact ⟨_,rfl,_,rfl,l,n,ns,rfl,s16.seq hS,n12,λ lu H7 tu un _ s7 hlu htu lun uok=>⟨lu,tu,un,rfl,s7,hlu,htu,lun,uok⟩⟩
  rintro σ' H7 ⟨lu,tu,un,rfl,s7,hlu,htu,lun,uok⟩;have s17:=s16.trans s7;have s57:=s6.trans s7;refine ⟨λ σ' H'=>∃ (lq:Addr) (tq:List V) (ws:List (Int × Int)),σ'=[some (.ref l),some (.int n),some (.int mode),some (.int far),some (.ref ln),some (.int m),some (.ref lr),some (.ref lw),some (.ref lu),some (.ref lq),none,none,none,none,none,none,none,none,none,none,none]/\Same H7 H'/\H' lq=some (.lst tq)/\RowAt DueIs H' tq ws/\ws.length=n/\∀ c∈ws,WB c,?_,?_⟩
  ·refine ⟨_,rfl,_,rfl,_,rfl,_,rfl,l,lr,n,mode,ns,ts,rs,rfl,n12,s17.seq hS,SqL.of (s57 _ _ hlr),hrs.mono (λ v x z=>z.mono s57),rok,by omega,λ lq H8 tq ws nlq s8 hlq htq lws wb=>?_⟩;exact ⟨lq,tq,ws,rfl,s8,hlq,htq,lws,wb⟩
  rintro σ' H8 ⟨lq,tq,ws,rfl,s8,hlq,htq,lws,wb⟩;have s18:=s17.trans s8;have s58:=s57.trans s8;have s48:=s5.trans s58;have s38:=s4.trans s48
  have wpb:∀ c∈ws,PB 500 c:=λ c hc=>by
   obtain ⟨q1,q2,q3⟩:=wb c hc;exact (PB.mono ⟨q1,q2,q3⟩ (by decide))
  have rp:RP sp wn rs:=⟨spn,wnd,by omega,by omega,by omega,λ r hr=>by rw [spl];exact (rok r hr).wide⟩
  have rp2:RP sp wn (a9 rs un):=⟨spn,wnd,by unfold a9;rw [List.length_mapIdx];omega,by unfold a9;rw [List.length_mapIdx];omega,by omega,λ r hr=>by
   unfold a9 at hr;obtain ⟨i,hi,rfl⟩:=List.mem_mapIdx.mp hr;rw [spl];exact inU_ok (rok _ (List.getElem_mem hi)) uok lun i⟩
  have up:UP sp wn rs un:=⟨rp,rp2,by omega,uok⟩;have lws':ws.length=sp.length:=by omega
  refine ⟨λ σ' H'=>∃ np:Addr,σ'=[some (.ref l),some (.int n),some (.int mode),some (.int far),some (.ref ln),some (.int m),some (.ref lr),some (.ref lw),some (.ref lu),some (.ref lq),some (.ref np),none,none,none,none,none,none,none,none,none,none]/\Same H8 H'/\NetAt a H' np (sp.zip (ws.map vC)) (zD sp rs wn),?_,?_⟩
  ·refine ⟨_,rfl,_,rfl,_,rfl,_,rfl,lr,lw,ln,lq,ts,tq,rs,wn,sp,ws,rfl,SqL.of (s58 _ _ hlr),hrs.mono (λ v x z=>z.mono s58),SqL.of ((s7.trans s8) _ _ hlw),SqL.of (s38 _ _ hln),SqL.of hlq,htq,rp.ok,spn,wnd,rp.l,lws',rp.s12,rp.l12,λ c hc=>(wpb c hc).mono (by decide),λ np H9 _ s9 hnet=>⟨np,rfl,s9,hnet⟩⟩
  rintro σ' H9 ⟨np,rfl,s9,hnet⟩;refine ⟨λ σ' H'=>∃ (d:Addr) (kvs:List (Key × V)),σ'=[some (.ref l),some (.int n),some (.int mode),some (.int far),some (.ref ln),some (.int m),some (.ref lr),some (.ref lw),some (.ref lu),some (.ref lq),some (.ref np),some (.ref d),none,none,none,none,none,none,none,none,none]/\H9 d=none/\Same H9 H'/\H' d=some (.dK kvs)/\Tab (FrIs a) H' kvs (plK (rs.zip wn)) (pA (rs.zip wn)),?_,?_⟩
  ·refine ⟨_,rfl,_,rfl,lr,lw,ts,rs,wn,rfl,SqL.of ((s58.trans s9) _ _ hlr),hrs.mono (λ v x z=>z.mono (s58.trans s9)),SqL.of (((s7.trans s8).trans s9) _ _ hlw),rp.l,rp.l12,wnd,λ r hr c e=>(rp.ok r hr).pt c e,λ d H10 kvs nd s10 hd tb=>⟨d,kvs,rfl,nd,s10,hd,tb⟩⟩
  rintro σ' H10 ⟨d,kvs,rfl,nd,s10,hd,tb⟩;have s910:=s9.trans s10;have s510:=s58.trans s910;have hlr10:=s510 _ _ hlr;have hrs10:=hrs.mono λ v x z=>R7Is.mono z s510;have hlu10:=(s8.trans s910) _ _ hlu;have htu10:=htu.mono λ v x z=>DueIs.mono z (s8.trans s910);have hlq10:=s910 _ _ hlq;have htq10:=htq.mono λ v x z=>DueIs.mono z s910;have hlw10:=((s7.trans s8).trans s910) _ _ hlw;have hln10:=(s38.trans s910) _ _ hln;have off1:NetOff a H10 np d (sp.zip (ws.map vC)) (zD sp rs wn):=⟨H9,hnet,s10,nd⟩;have hS10:=(s18.trans s910).seq hS;clear hlr hrs hlu htu hlq htq hlw hln hnet s58 s57 s48 s38 s7 s8 s9 s10 s6 s5 s14 s15 s16 s17 s18 s3 s4 s3' s510 s910;refine ⟨λ σ' H'=>∃ (lr2:Addr) (ts2:List V),σ'=[some (.ref l),some (.int n),some (.int mode),some (.int far),some (.ref ln),some (.int m),some (.ref lr),some (.ref lw),some (.ref lu),some (.ref lq),some (.ref np),some (.ref d),some (.ref lr2),none,none,none,none,none,none,none,none]/\Same H10 H'/\H' lr2=some (.lst ts2)/\RowAt R7Is H' ts2 (a9 rs un),?_,?_⟩
  ·refine ⟨_,rfl,lr,_,rfl,.inl (SqL.of hlr10),_,rfl,by omega,by omega,λ q nq=>?_⟩;have lin:(a9 rs un).length=m:=by unfold a9;rw [List.length_mapIdx];exact lrs
   refine a8 (n:=((ts.length:Nat):Int).toNat) (λ i H2=>i<=m/\Same H10 H2/\∃ ts2,H2 q=some (.lst ts2)/\RowAt R7Is H2 ts2 ((a9 rs un).take i)) ⟨fY _,ay nq,[],ae,RowAt.nil⟩ ?_ ?_
   ·rintro i H2 hi ⟨_,s2,t2,h2,hv⟩;refine g1 ⟨⟨[_],rfl,rfl⟩,yes ?_⟩;have hi':i<m:=by rw [<- lnt];exact hi
    rw [iw];obtain ⟨r,er⟩:∃ r,rs[i]?=some r:=⟨_,fF (by omega)⟩;obtain ⟨v,ev,hr7⟩:=(hrs10.mono λ v x z=>R7Is.mono z s2).get' er;refine ⟨_,rfl,_,rfl,lr,_,_,_,rfl,rfl,SqL.of (s2 _ _ hlr10),atI_nat ev,_,rfl,_,rfl,v,lu,tu,r,i,un,rfl,hr7,SqL.of (s2 _ _ hlu10),htu10.mono (λ v x z=>DueIs.mono z s2),by rw [lun];exact rok r (fK er),uok,λ v' H3 s3 h3=>?_⟩;have h23:=s3 _ _ h2;have lt2:t2.length=i:=by rw [hv.1,fZ];omega
    refine ⟨_,h23,aE (by omega),cP hi ⟨hi',aH nq (s2.trans s3),_,ae,?_⟩⟩;have ez:(a9 rs un)[i]?=some (inU r i un):=by unfold a9;rw [List.getElem?_mapIdx,er];rfl
    rw [gf,ez,gv];exact RowAt.snoc (hv.mono λ v x z=>(R7Is.mono z s3).ko (.lst h23)) (h3.ko (.lst h23))
   ·rintro H2 ⟨_,s2,t2,h2,hv⟩;rw [lnt,show m=(a9 rs un).length from lin.symm,ge] at hv;exact ⟨q,t2,rfl,s2,h2,hv⟩
  rintro σ' H11 ⟨lr2,ts2,rfl,s11,hlr2,hrs2⟩;refine ⟨λ σ' H'=>∃ (lq2:Addr) (tq2:List V),σ'=[some (.ref l),some (.int n),some (.int mode),some (.int far),some (.ref ln),some (.int m),some (.ref lr),some (.ref lw),some (.ref lu),some (.ref lq),some (.ref np),some (.ref d),some (.ref lr2),some (.ref lq2),none,none,none,none,none,none,none]/\Same H11 H'/\H' lq2=some (.lst tq2)/\RowAt DueIs H' tq2 (wsU ws un),?_,?_⟩
  ·refine ⟨_,rfl,(n:Int),rfl,by omega,by omega,λ q nq=>?_⟩;have lwu:(wsU ws un).length=n:=by unfold wsU;rw [fG,hX];omega
   refine a8 (λ i H2=>i<=n/\Same H11 H2/\∃ t2,H2 q=some (.lst t2)/\RowAt DueIs H2 t2 ((wsU ws un).take i)) ⟨fY _,ay nq,[],ae,RowAt.nil⟩ ?_ ?_
   ·rintro i H2 hi ⟨_,s2,t2,h2,hv⟩;refine g1 ⟨⟨[_],rfl,rfl⟩,yes ?_⟩;have hi':i<n:=by simpa using hi
    rw [iw];have s12:=s11.trans s2;obtain ⟨c,ec⟩:∃ c,ws[i]?=some c:=⟨_,fF (by omega)⟩;obtain ⟨u,eu⟩:∃ u,un[i]?=some u:=⟨_,fF (by omega)⟩;obtain ⟨v,ev,pc,rfl,hpc⟩:=(htq10.mono λ v x z=>DueIs.mono z s12).get' ec;obtain ⟨v',ev',pu,rfl,hpu⟩:=(htu10.mono λ v x z=>DueIs.mono z s12).get' eu;have b1:=(wpb c (fK ec)).sm;have b2:=(uok u (fK eu)).b.sm;refine ⟨_,rfl,_,rfl,lq,_,_,_,rfl,rfl,SqL.of (s12 _ _ hlq10),atI_nat ev,_,rfl,_,rfl,lu,_,_,_,rfl,rfl,SqL.of (s12 _ _ hlu10),atI_nat ev',pc,pu,c.1,c.2,u.1,u.2,rfl,hpc,hpu,b1.1,b1.2,b2.1,b2.2,λ t nt=>?_⟩;obtain ⟨H3,zq,s3,ht⟩:=uG (o:=.tup [.int (c.1*u.1),.int (c.2*u.2)]) nt;rw [zq];have h3:=s3 _ _ h2;have lt2:t2.length=i:=by rw [hv.1,fZ];omega
    refine ⟨_,h3,aE (by omega),cP (by simpa using hi) ⟨hi',aH nq (s2.trans s3),_,ae,?_⟩⟩;have ez:(wsU ws un)[i]?=some (c.1*u.1,c.2*u.2):=by unfold wsU;rw [fN,gx (z:=(c,u)) |>.mpr ⟨ec,eu⟩];rfl
    rw [gf,ez,gv];exact RowAt.snoc (hv.mono λ v x z=>(DueIs.mono z s3).ko (.lst h3)) (DueIs.ko (c:=(c.1*u.1,c.2*u.2)) ⟨t,rfl,ht⟩ (.lst h3))
   ·rintro H2 ⟨_,s2,t2,h2,hv⟩;rw [show ((n:Nat):Int).toNat=(wsU ws un).length by omega,ge] at hv;exact ⟨q,t2,rfl,s2,h2,hv⟩
  rintro σ' H12 ⟨lq2,tq2,rfl,s12,hlq2,htq2⟩;have s1012:=s11.trans s12;have lwu:(wsU ws un).length=sp.length:=by unfold wsU;rw [fG,hX];omega
  have wpb2:∀ c∈wsU ws un,PB 560 c:=λ c hc=>by
   unfold wsU at hc;obtain ⟨z,hz,rfl⟩:=fQ.mp hc;exact ((wpb z.1 (hJ hz).1).times (uok z.2 (hJ hz).2).b)
  refine ⟨λ σ' H'=>∃ np2:Addr,σ'=[some (.ref l),some (.int n),some (.int mode),some (.int far),some (.ref ln),some (.int m),some (.ref lr),some (.ref lw),some (.ref lu),some (.ref lq),some (.ref np),some (.ref d),some (.ref lr2),some (.ref lq2),some (.ref np2),none,none,none,none,none,none]/\Same H12 H'/\NetAt a H' np2 (sp.zip ((wsU ws un).map vC)) (zD sp (a9 rs un) wn),?_,?_⟩
  ·refine ⟨_,rfl,_,rfl,_,rfl,_,rfl,lr2,lw,ln,lq2,ts2,tq2,a9 rs un,wn,sp,wsU ws un,rfl,SqL.of (s12 _ _ hlr2),hrs2.mono (λ v x z=>R7Is.mono z s12),SqL.of (s1012 _ _ hlw10),SqL.of (s1012 _ _ hln10),SqL.of hlq2,htq2,rp2.ok,spn,wnd,rp2.l,lwu,rp2.s12,rp2.l12,λ c hc=>(wpb2 c hc).mono (by decide),λ np H9 _ s9 hnet=>⟨np,rfl,s9,hnet⟩⟩
  rintro σ' H13 ⟨np2,rfl,s13,hnet2⟩;refine ⟨λ σ' H'=>∃ (d2:Addr) (kvs2:List (Key × V)),σ'=[some (.ref l),some (.int n),some (.int mode),some (.int far),some (.ref ln),some (.int m),some (.ref lr),some (.ref lw),some (.ref lu),some (.ref lq),some (.ref np),some (.ref d),some (.ref lr2),some (.ref lq2),some (.ref np2),some (.ref d2),none,none,none,none,none]/\H13 d2=none/\Same H13 H'/\H' d2=some (.dK kvs2)/\Tab (FrIs a) H' kvs2 (plK ((a9 rs un).zip wn)) (pA ((a9 rs un).zip wn)),?_,?_⟩
  ·refine ⟨_,rfl,_,rfl,lr2,lw,ts2,a9 rs un,wn,rfl,SqL.of ((s12.trans s13) _ _ hlr2),hrs2.mono (λ v x z=>R7Is.mono z (s12.trans s13)),SqL.of ((s1012.trans s13) _ _ hlw10),rp2.l,rp2.l12,wnd,λ r hr c e=>(rp2.ok r hr).pt c e,λ d H10 kvs nd s10 hd tb=>⟨d,kvs,rfl,nd,s10,hd,tb⟩⟩
  rintro σ' H14 ⟨d2,kvs2,rfl,nd2,s14,hd2,tb2⟩;have s1014:=s1012.trans (s13.trans s14);have off2:NetOff a H14 np2 d2 (sp.zip ((wsU ws un).map vC)) (zD sp (a9 rs un) wn):=⟨H13,hnet2,s14,nd2⟩;have pn1:((sp.zip (ws.map vC)).map (·.1))=sp:=List.map_fst_zip (by rw [fG];omega);have pn2:((sp.zip ((wsU ws un).map vC)).map (·.1))=sp:=List.map_fst_zip (by rw [fG];omega);have pl1:(sp.zip (ws.map vC)).length=sp.length:=by rw [hX,fG];omega
  have pl2:(sp.zip ((wsU ws un).map vC)).length=sp.length:=by rw [hX,fG];omega
  have wa:∀ {v:List (Int × Int)},(∀ c∈v,PB 560 c)->∀ z∈sp.zip (v.map vC),Bd 560 z.2:=λ {v} hv z hz=>by
   obtain ⟨c,hc,e⟩:=fQ.mp (hJ hz).2;rw [<- e];exact (hv c hc).bd
  have wa1:=wa (v:=ws) λ c hc=>(wpb c hc).mono (by decide);have wa2:=wa wpb2;have s12n:sp.length<=12:=rp.s12;have ln1:∀ x,x∈wn∨x∈sp->x.length<=1000:=λ x hx=>hx.elim (wnl x) (spk x);have zl1:=rp.zl;have zl2:=rp2.zl;have l12:=rp.l12;have l122:=rp2.l12;have ok1:=rp.fs (a:=a) (off1.mono s1014) (s1014 _ _ hd) (tb.mono λ v x z=>FrIs.mono z s1014) (by rw [rp.names];exact wnd) (by rw [pn1];exact spn) (by omega) (λ n hn=>by rw [pn1];exact hn) (by omega) rp.mem (λ n hn=>by rw [rp.names];exact hn) (by rw [rp.names,pn1];exact ln1) (λ z hz=>(wa1 z hz).smr (by decide));have ok2:=rp2.fs (a:=a) off2 hd2 tb2 (by rw [rp2.names];exact wnd) (by rw [pn2];exact spn) (by omega) (λ n hn=>by rw [pn2];exact hn) (by omega) rp2.mem (λ n hn=>by rw [rp2.names];exact hn) (by rw [rp2.names,pn2];exact ln1) (λ z hz=>(wa2 z hz).smr (by decide));refine ⟨λ σ' H'=>∃ (du:Addr) (kvd:List (Key × V)),σ'=[some (.ref l),some (.int n),some (.int mode),some (.int far),some (.ref ln),some (.int m),some (.ref lr),some (.ref lw),some (.ref lu),some (.ref lq),some (.ref np),some (.ref d),some (.ref lr2),some (.ref lq2),some (.ref np2),some (.ref d2),some (.ref du),none,none,none,none]/\Same H14 H'/\H' du=some (.dK kvd)/\Tab (FrIs a) H' kvd sp (bC (aZ (rs.zip wn)) (zD sp rs wn)),?_,?_⟩
  ·refine ⟨_,rfl,_,rfl,np,d,_,_,kvs,_,_,rfl,ok1.fl.net,ok1.fl.nd,ok1.fl.hd,ok1.fl.tb,ok1.fl.nk,ok1.sub,ok1.fl.so,λ r H1 kvr nr s1 hr1 tr=>?_⟩;rw [pn1] at tr;exact ⟨r,kvr,rfl,s1,hr1,tr⟩
  rintro σ' H15 ⟨du,kvd,rfl,s15,hdu,tbd⟩;have hbd:∀ s,Bd 4812 (bC (aZ (rs.zip wn)) (zD sp rs wn) s):=λ s=>rp.bd (by omega) rp.mem s;have s1015:=s1014.trans s15;have ok1:=ok1.mono s15;have ok2:=ok2.mono s15;have hln15:=s1015 _ _ hln10;have hlu15:=s1015 _ _ hlu10;have htu15:=htu10.mono λ v x z=>DueIs.mono z s1015;have hlr15:=s1015 _ _ hlr10;have hrs15:=hrs10.mono λ v x z=>R7Is.mono z s1015;have hlw15:=s1015 _ _ hlw10;have hlq15:=s1015 _ _ hlq10;have htq15:=htq10.mono λ v x z=>DueIs.mono z s1015;have hS15:=s1015.seq hS10;clear hln10 hlu10 htu10 hlr10 hrs10 hlw10 hlq10 htq10 hS10 off1 off2 hnet2 s11 s12 s13 s14 s15 s1012 s1014 s1015 hd2 tb2 hd tb hlr2 hrs2 hlq2 htq2;refine ⟨λ σ' H'=>σ'=[some (.ref l),some (.int n),some (.int mode),some (.int far),some (.ref ln),some (.int m),some (.ref lr),some (.ref lw),some (.ref lu),some (.ref lq),some (.ref np),some (.ref d),some (.ref lr2),some (.ref lq2),some (.ref np2),some (.ref d2),some (.ref du),none,none,none,none]/\Same H15 H',?_,?_⟩
  ·refine ⟨_,rfl,_,rfl,_,rfl,_,rfl,_,rfl,np2,d2,ln,du,lu,_,_,kvs2,kvd,_,sp,sp,_,_,tu,un,rfl,ok2.fl.net.at_,ok2.fl.nd,by omega,ok2.fl.hd,ok2.fl.tb,ok2.fl.nk,ok2.fl.lk,ok2.sub,ok2.fl.net,ok2.fl.so,SqL.of hln15,hdu,tbd,SqL.of hlu15,htu15,s12n,pl2,by omega,λ n hn=>⟨by rw [pn2];exact hn,hn,(hbd n).mono (by decide)⟩,λ u hu=>(uok u hu).b,λ i n u en eu=>?_,λ H' s'=>⟨_,rfl,iteF ⟨rfl,s'⟩⟩⟩;refine ⟨?_,(rp2.bd (by omega) rp2.mem n).smr (by decide)⟩;show bC (aZ ((a9 rs un).zip wn)) (zD sp (a9 rs un) wn) n=_;rw [up.sums];unfold uS;rw [idx_of spn en,fP,eu];rfl
  rintro σ' H16 ⟨rfl,s16⟩;refine ⟨λ σ' H'=>σ'=[some (.ref l),some (.int n),some (.int mode),some (.int far),some (.ref ln),some (.int m),some (.ref lr),some (.ref lw),some (.ref lu),some (.ref lq),some (.ref np),some (.ref d),some (.ref lr2),some (.ref lq2),some (.ref np2),some (.ref d2),some (.ref du),none,none,none,none]/\Same H15 H',?_,?_⟩
  ·have o2:=ok2.mono s16;refine ⟨_,rfl,_,rfl,np2,d2,_,_,kvs2,_,_,_,_,rfl,o2.fl.net,o2.fl.nd,o2.fl.hd,o2.fl.tb,o2.fl.nk,by have:=o2.fl.lk;omega,o2.sub,o2.hc,o2.sm,o2.bN,o2.hN,λ r1 H1 nr1 s1 f1=>?_⟩;have o1:=(ok1.mono s16).mono s1;refine ⟨_,rfl,_,rfl,np,d,_,_,kvs,_,_,_,_,rfl,o1.fl.net,o1.fl.nd,o1.fl.hd,o1.fl.tb,o1.fl.nk,by have:=o1.fl.lk;omega,o1.sub,o1.hc,o1.sm,o1.bN,o1.hN,λ r2 H2 nr2 s2 f2=>?_⟩;refine ⟨zL2,λ t nt=>?_⟩;have s3:=ay (o:=.tup [.int 1,.int 1]) nt;refine ⟨r1,r2,t,_,_,(1,1),rfl,f1.mono (s2.trans s3),f2.mono s3,ae,rp2.wb.smr (by decide),rp.wb.mono (by decide),⟨by decide,by decide,by decide⟩,?_,_,rfl,iteF ⟨rfl,s16.trans (s1.trans (s2.trans s3))⟩⟩;rw [up.worth,show vC (1,1)=1 from rfl,Rat.mul_one]
  rintro σ' H17 ⟨rfl,s17⟩;refine ⟨λ σ' H'=>σ'=[some (.ref l),some (.int n),some (.int mode),some (.int far),some (.ref ln),some (.int m),some (.ref lr),some (.ref lw),some (.ref lu),some (.ref lq),some (.ref np),some (.ref d),some (.ref lr2),some (.ref lq2),some (.ref np2),some (.ref d2),some (.ref du),none,none,none,none]/\Same H15 H',?_,?_⟩
  ·have o2:=ok2.mono s17;refine ⟨_,rfl,_,rfl,np2,d2,_,_,kvs2,_,_,rfl,o2.fl,λ l1 H1 ts1 nl1 s1 hl1 hv1=>?_⟩;have o1:=(ok1.mono s17).mono s1;refine ⟨_,rfl,_,rfl,np,d,_,_,kvs,_,_,rfl,o1.fl,λ l2 H2 ts2 nl2 s2 hl2 hv2=>?_⟩;have hv1':RowAt FtIs H2 ts1 (aK (plK ((a9 rs un).zip wn)) (aZ ((a9 rs un).zip wn)) (sp.zip ((wsU ws un).map vC)) (zD sp (a9 rs un) wn)):=hv1.mono λ v x z=>FtIs.mono z s2;rw [up.faults lws'] at hv1';obtain ⟨q1,q2⟩:=rows_eq (K:=K) hv1' hv2;exact ⟨l1,l2,ts1,ts2,rfl,rfl,SqL.of (s2 _ _ hl1),SqL.of hl2,q1,q2,_,rfl,iteF ⟨rfl,s17.trans (s1.trans s2)⟩⟩
  rintro σ' H18 ⟨rfl,s18⟩;refine ⟨λ σ' H'=>σ'=[some (.ref l),some (.int n),some (.int mode),some (.int far),some (.ref ln),some (.int m),some (.ref lr),some (.ref lw),some (.ref lu),some (.ref lq),some (.ref np),some (.ref d),some (.ref lr2),some (.ref lq2),some (.ref np2),some (.ref d2),some (.ref du),none,none,none,none]/\Same H15 H',?_,?_⟩
  ·refine ⟨_,rfl,_,rfl,_,rfl,_,rfl,np,d,_,_,kvs,_,_,_,_,rfl,ok1.mono s18,λ l1 q1 t1 m1 x1 H1 nl1 s1 hl1 f1 R1=>?_⟩;have s181:=s18.trans s1;obtain ⟨u,hu1,hu2,hu3⟩:=up.first lws' R1
   have fx:Bd 8000 x1:=by
    rcases R1.inv with ⟨_,_,_,rfl⟩ | ⟨_,y,_,_,my,_,rfl⟩ | ⟨_,i,v,_,_,hi,rfl⟩
    ·exact rp.wb.mono (by decide)
    ·unfold bndB
     split
     ·exact Bd.zero.mono (by decide)
     ·cases e:y.hi with
      | none=>exact Bd.zero.mono (by decide)
      | some z=>exact (rp.hhi rp.mem y my z e).mono (by decide)
    ·exact ((wa1 _ (fK hi)).sub (hbd _)).mono (by decide)
   refine ⟨_,rfl,_,rfl,_,rfl,_,rfl,np2,d2,l1,lu,ln,lr,lw,q1,_,_,kvs2,_,_,_,_,t1,m1,x1,u,tu,ts,un,rs,wn,sp,rfl,ok2.mono s181,hl1,f1,SqL.of (s181 _ _ hlu15),htu15.mono (λ v x z=>DueIs.mono z s181),SqL.of (s181 _ _ hln15),SqL.of (s181 _ _ hlr15),hrs15.mono (λ v x z=>R7Is.mono z s181),SqL.of (s181 _ _ hlw15),wnd,spn,hu1,hu2,fx,λ t' m' x R2=>?_,λ H' s'=>⟨_,rfl,iteF ⟨rfl,s181.trans s'⟩⟩⟩
   have R2':FstR (sp.zip ((wsU ws un).map vC)) (zD sp (a9 rs un) wn) (aZ ((a9 rs un).zip wn)) ((plK (rs.zip wn)).map λ n=>coZ (rs.zip wn) n*pA (rs.zip wn) n).sum (aK (plK (rs.zip wn)) (aZ (rs.zip wn)) (sp.zip (ws.map vC)) (zD sp rs wn)) t' m' x:=by
    rw [<- up.worth,<- up.faults lws'];exact R2
   obtain ⟨a1,a2,a3⟩:=hu3 _ _ _ R2';refine ⟨a1,a2,a3,?_⟩;rw [a3];exact (fx.mul (hu2.bd)).smr (by decide)
  rintro σ' H19 ⟨rfl,s19⟩;refine ⟨λ σ' H'=>∃ c:Nat,∃ cut:Int,σ'=[some (.ref l),some (.int n),some (.int mode),some (.int far),some (.ref ln),some (.int m),some (.ref lr),some (.ref lw),some (.ref lu),some (.ref lq),some (.ref np),some (.ref d),some (.ref lr2),some (.ref lq2),some (.ref np2),some (.ref d2),some (.ref du),some (.int cut),none,none,none]/\cut=c/\H'=H19/\c<=m,?_,?_⟩
  ·have mp:(0:Int)<(ts.length:Int)+1:=by omega
   obtain ⟨e0,e1⟩:=aT (bV ns 0) mp;obtain ⟨c,hc⟩:=gH e0;exact ⟨_,rfl,l,ns,0,rfl,s19.seq hS15,_,rfl,lr,_,rfl,.inl (SqL.of (s19 _ _ hlr15)),_,_,rfl,rfl,_,_,rfl,rfl,mp,c,_,rfl,hc,rfl,by omega⟩
  rintro σ' H19' ⟨c,cut,rfl,rfl,rfl,hcm⟩;refine ⟨λ σ' H'=>∃ (lp:Addr) (tp:List V),σ'=[some (.ref l),some (.int n),some (.int mode),some (.int far),some (.ref ln),some (.int m),some (.ref lr),some (.ref lw),some (.ref lu),some (.ref lq),some (.ref np),some (.ref d),some (.ref lr2),some (.ref lq2),some (.ref np2),some (.ref d2),some (.ref du),some (.int ((c:Nat):Int)),some (.ref lp),none,none]/\Same H19' H'/\H' lp=some (.lst tp)/\RowAt (PlIs a) H' tp (sp.zip (ws.map vC)).reverse,?_,?_⟩
  ·refine ⟨_,rfl,(n:Int),rfl,by omega,by omega,λ q nq=>?_⟩;refine a8 (λ i H2=>i<=n/\Same H19' H2/\∃ tp,H2 q=some (.lst tp)/\RowAt (PlIs a) H2 tp ((sp.zip (ws.map vC)).reverse.take i)) ⟨fY _,ay nq,[],ae,RowAt.nil⟩ ?_ ?_
   ·rintro i H2 hi ⟨_,s2,tp,h2,hv⟩;refine g1 ⟨⟨[_],rfl,rfl⟩,yes ?_⟩;have hi':i<n:=by simpa using hi
    have s192:=s19.trans s2;obtain ⟨y,ey⟩:∃ y,sp[n-1-i]?=some y:=⟨_,fF (by omega)⟩;obtain ⟨c',ec⟩:∃ c',ws[n-1-i]?=some c':=⟨_,fF (by omega)⟩;obtain ⟨v,ev,pv,rfl,hpv⟩:=(htq15.mono λ v x z=>DueIs.mono z s192).get' ec;have ix:(n:Int)-1-(0+(i:Int))=((n-1-i:Nat):Int):=by omega
    have a1:atI (sp.map V.str) ((n:Int)-1-(0+(i:Int)))=some (.str y):=by rw [ix];exact eS ey
    have a2:atI tq ((n:Int)-1-(0+(i:Int)))=some (.ref pv):=by rw [ix];exact atI_nat ev
    have pb:=wpb c' (fK ec);have po:=pb.o;have sqv:=SqT.of (K:=K) hpv;have hq2:=SqL.of (K:=K) (s192 _ _ hlq15);refine ⟨_,rfl,_,rfl,_,_,rfl,rfl,_,rfl,_,_,rfl,rfl,ln,_,_,_,rfl,rfl,SqL.of (s192 _ _ hln15),a1,_,rfl,_,rfl,_,_,rfl,rfl,_,rfl,_,_,rfl,rfl,lq,_,_,_,rfl,rfl,hq2,a2,pv,_,_,_,rfl,rfl,sqv,rfl,_,rfl,_,rfl,_,_,rfl,rfl,_,rfl,_,_,rfl,rfl,lq,_,_,_,rfl,rfl,hq2,a2,pv,_,_,_,rfl,rfl,sqv,rfl,_,_,rfl,by omega,pb.sm.2,λ fq H3 nfq s3 ff=>?_⟩;refine ⟨zL2,λ t nt=>?_⟩;obtain ⟨H4,zq,s4,ht⟩:=uG (o:=.tup [.str y,.ref fq]) nt;rw [zq];have h4:=s4 _ _ (s3 _ _ h2);have ltp:tp.length=i:=by rw [hv.1,fZ,List.length_reverse];omega
    refine ⟨_,h4,aE (by omega),cP (by simpa using hi) ⟨hi',aH nq ((s2.trans s3).trans s4),_,ae,?_⟩⟩
    have ez:(sp.zip (ws.map vC)).reverse[i]?=some (y,vC c'):=by
     rw [List.getElem?_reverse (by omega),show (sp.zip (ws.map vC)).length-1-i=n-1-i by omega,gx];exact ⟨ey,by rw [fN,ec];rfl⟩
    rw [gf,ez,gv];exact RowAt.snoc (hv.mono λ v x z=>(z.mono (s3.trans s4)).ko (.lst h4)) (PlIs.ko ⟨t,fq,rfl,ht,ff.mono s4⟩ (.lst h4))
   ·rintro H2 ⟨_,s2,tp,h2,hv⟩;rw [show ((n:Nat):Int).toNat=(sp.zip (ws.map vC)).reverse.length by rw [List.length_reverse];omega,ge] at hv;exact ⟨q,tp,rfl,s2,h2,hv⟩
  rintro σ' H20 ⟨lp,tp,rfl,s20,hlp,htp⟩;have s1920:=s19.trans s20;refine ⟨λ σ' H'=>∃ (lk:Addr) (tk:List V),σ'=[some (.ref l),some (.int n),some (.int mode),some (.int far),some (.ref ln),some (.int m),some (.ref lr),some (.ref lw),some (.ref lu),some (.ref lq),some (.ref np),some (.ref d),some (.ref lr2),some (.ref lq2),some (.ref np2),some (.ref d2),some (.ref du),some (.int ((c:Nat):Int)),some (.ref lp),some (.ref lk),none]/\Same H20 H'/\H' lk=some (.lst tk)/\RowAt (WayIs a) H' tk (zD sp rs wn),?_,?_⟩
  ·obtain ⟨dx,dw,dy,hp,hw,hy⟩:=(ok1.mono s1920).fl.net.at_;exact ⟨_,rfl,np,a.Net,dx,_,1,["self"],spNAll a,rfl,hp,cG _ _ (by decide +kernel) (by decide +kernel),T.cl_Net,by decide,bJ T,np,_,_,rfl,⟨dx,dw,dy,hp,hw,hy⟩,λ l1 H1 ts1 nl1 s1 hl1 hv1=>⟨l1,ts1,rfl,s1,hl1,hv1⟩⟩
  rintro σ' H21 ⟨lk,tk,rfl,s21,hlk,htk⟩;have s1521:=s1920.trans s21;have pr:=rot_perm (zD sp rs wn) c;have lds:((zD sp rs wn).drop c++(zD sp rs wn).take c).length<=12:=by rw [pr.length_eq];omega
  have mds:∀ d∈(zD sp rs wn).drop c++(zD sp rs wn).take c,∃ z∈rs.zip wn,d=z.1.d z.2 sp:=λ d hd=>rp.mem d (pr.mem_iff.mp hd);have nds:(((zD sp rs wn).drop c++(zD sp rs wn).take c).map (·.nm)).Nodup:=(pr.map (·.nm)).nodup_iff.mpr (by rw [rp.names];exact wnd);have nms:∀ n,n∈((zD sp rs wn).drop c++(zD sp rs wn).take c).map (·.nm)↔n∈wn:=λ n=>by rw [(pr.map (·.nm)).mem_iff,rp.names]
  have prs:∀ n,n∈(sp.zip (ws.map vC)).reverse.map (·.1)↔n∈sp:=λ n=>by rw [List.map_reverse,List.mem_reverse,pn1]
  have npr:((sp.zip (ws.map vC)).reverse.map (·.1)).Nodup:=(((sp.zip (ws.map vC)).reverse_perm.map λ z:Str × Rat=>z.1).nodup_iff).mpr (by rw [pn1];exact spn);refine ⟨λ σ' H'=>∃ (np3:Addr) (H0:Hp),σ'=[some (.ref l),some (.int n),some (.int mode),some (.int far),some (.ref ln),some (.int m),some (.ref lr),some (.ref lw),some (.ref lu),some (.ref lq),some (.ref np),some (.ref d),some (.ref lr2),some (.ref lq2),some (.ref np2),some (.ref d2),some (.ref du),some (.int ((c:Nat):Int)),some (.ref lp),some (.ref lk),some (.ref np3)]/\Same H21 H'/\Same H21 H0/\NetNew a H0 H' np3 (sp.zip (ws.map vC)).reverse ((zD sp rs wn).drop c++(zD sp rs wn).take c),?_,?_⟩
  ·refine ⟨_,rfl,_,rfl,_,rfl,_,rfl,lk,_,rfl,SqL.of hlk,λ p np'=>?_⟩;have e1:=ay (o:=.lst (cI tk (some (c:Int)) none)) np';have h1:upd H21 p (.lst (cI tk (some (c:Int)) none)) p=some (.lst (tk.drop c)):=by rw [ae];exact gK (λ z=>some (HO.lst z)) (cut_drop c)
   generalize upd H21 p (.lst (cI tk (some (c:Int)) none))=G1 at e1 h1 ⊢;refine ⟨_,rfl,_,rfl,_,rfl,lk,_,rfl,SqL.of (e1 _ _ hlk),λ q nq=>?_⟩;have e2:=ay (o:=.lst (cI tk none (some (c:Int)))) nq;have h2:upd G1 q (.lst (cI tk none (some (c:Int)))) q=some (.lst (tk.take c)):=by rw [ae];exact gK (λ z=>some (HO.lst z)) (cut_take c)
   generalize upd G1 q (.lst (cI tk none (some (c:Int))))=G2 at e2 h2 ⊢;have ltk:tk.length<=12:=by rw [htk.1];omega
   refine ⟨p,q,_,_,rfl,rfl,e2 _ _ h1,h2,fO (show _<=1000 by rw [List.length_drop,fZ];omega) (Nat.le_of_lt (aE (fM 1000))),λ z nz=>?_⟩;obtain ⟨G3,zq,e3,h3⟩:=uG (o:=.lst (tk.drop c++tk.take c)) nz;rw [zq];have e13:=e1.trans (e2.trans e3);intro p' dx' h1' h2' _;have ss:=dN (C:=a.Net) h1' h2';refine ⟨p',dx',lp,z,tp,_,_,_,rfl,ae,ss.seq (SqL.of ((s21.trans e13) _ _ hlp)),htp.mono (λ v x z=>(z.mono (s21.trans e13)).mono ss),ss.seq (SqL.of h3),((htk.dp c).app (htk.tk c)).mono (λ v x z=>(z.mono e13).mono ss),⟨npr,by rw [List.length_reverse];omega,nds,by omega,λ d hd=>?_⟩,λ H' hs hn=>⟨rfl,p',_,rfl,e13.trans (dO h1' h2' hs),e13.trans ss,hn⟩⟩;obtain ⟨z,hz,rfl⟩:=mds d hd;exact ⟨(prs _).mpr (rp.stgo hz).1,(prs _).mpr (rp.stgo hz).2.1⟩
  rintro σ' H22 ⟨np3,H0,rfl,s22,s220,hnet3⟩;have s1522:=s1521.trans s22;have ok1':=ok1.mono s1522;have off3:NetOff a H22 np3 d (sp.zip (ws.map vC)).reverse ((zD sp rs wn).drop c++(zD sp rs wn).take c):=hnet3.off ((s1521.trans s220) _ _ ok1.fl.hd) ok1'.fl.hd;have ok3:=rp.fs (a:=a) off3 ok1'.fl.hd ok1'.fl.tb nds npr (by rw [List.length_reverse];omega) (λ n hn=>(prs n).mpr hn) lds mds (λ n hn=>(nms n).mpr hn) (λ n hn=>ln1 n (hn.imp (nms n).mp (prs n).mp)) (λ z hz=>(wa1 z (List.mem_reverse.mp hz)).smr (by decide));have sne:∀ d∈zD sp rs wn,d.st≠d.go:=λ d hd=>by obtain ⟨z,hz,rfl⟩:=rp.mem d hd;exact (rp.stgo hz).2.2
  refine ⟨λ σ' H'=>σ'=[some (.ref l),some (.int n),some (.int mode),some (.int far),some (.ref ln),some (.int m),some (.ref lr),some (.ref lw),some (.ref lu),some (.ref lq),some (.ref np),some (.ref d),some (.ref lr2),some (.ref lq2),some (.ref np2),some (.ref d2),some (.ref du),some (.int ((c:Nat):Int)),some (.ref lp),some (.ref lk),some (.ref np3)]/\Same H22 H',?_,?_⟩
  ·refine ⟨_,rfl,_,rfl,_,rfl,_,rfl,_,rfl,(n:Int),rfl,by omega,by omega,λ q nq=>?_⟩;refine a8 (λ i H2=>i<=n/\Same H22 H2/\∃ t2,H2 q=some (.lst t2)/\RowAt DueIs H2 t2 (List.replicate i ((1:Int),(1:Int)))) ⟨fY _,ay nq,[],ae,RowAt.nil⟩ ?_ ?_
   ·rintro i H2 hi ⟨_,s2,t2,h2,hv⟩;refine g1 ⟨⟨[_],rfl,rfl⟩,yes ?_⟩;have hi':i<n:=by simpa using hi
    refine ⟨zL2,λ t nt=>?_⟩;obtain ⟨H3,zq,s3,ht⟩:=uG (o:=.tup [.int 1,.int 1]) nt;rw [zq];have h3:=s3 _ _ h2;have lt2:t2.length=i:=by rw [hv.1,gI]
    refine ⟨_,h3,aE (by omega),cP (by simpa using hi) ⟨hi',aH nq (s2.trans s3),_,ae,?_⟩⟩;rw [List.replicate_succ'];exact RowAt.snoc (hv.mono λ v x z=>(DueIs.mono z s3).ko (.lst h3)) (DueIs.ko (c:=(1,1)) ⟨t,rfl,ht⟩ (.lst h3))
   ·rintro H2 ⟨_,s2,t2,h2,hv⟩;rw [show ((n:Nat):Int).toNat=n from rfl] at hv;have o3:=ok3.mono s2;have s152:=s1522.trans s2;refine ⟨np3,d,ln,du,q,_,_,kvs,kvd,_,sp,sp,_,_,t2,_,rfl,o3.fl.net.at_,o3.fl.nd,by omega,o3.fl.hd,o3.fl.tb,o3.fl.nk,o3.fl.lk,o3.sub,o3.fl.net,o3.fl.so,SqL.of (s152 _ _ hln15),s152 _ _ hdu,tbd.mono (λ v x z=>FrIs.mono z s152),SqL.of h2,hv,s12n,by rw [List.length_reverse];exact pl1,by rw [gI];omega,λ n hn=>⟨(prs n).mpr hn,hn,(hbd n).mono (by decide)⟩,λ u hu=>by rw [List.eq_of_mem_replicate hu];exact ⟨by decide,by decide,by decide⟩,λ i x u en eu=>?_,λ H' s'=>⟨_,rfl,iteF ⟨rfl,s2.trans s'⟩⟩⟩;rw [List.eq_of_mem_replicate (fK eu),show vC (1,1)=1 from rfl,Rat.mul_one];exact ⟨sumF_rot sne c x,(rp.bd lds mds x).smr (by decide)⟩
  rintro σ' H23 ⟨rfl,s23⟩;refine ⟨λ σ' H'=>σ'=[some (.ref l),some (.int n),some (.int mode),some (.int far),some (.ref ln),some (.int m),some (.ref lr),some (.ref lw),some (.ref lu),some (.ref lq),some (.ref np),some (.ref d),some (.ref lr2),some (.ref lq2),some (.ref np2),some (.ref d2),some (.ref du),some (.int ((c:Nat):Int)),some (.ref lp),some (.ref lk),some (.ref np3)]/\Same H22 H',?_,?_⟩
  ·have o2:=ok3.mono s23;refine ⟨_,rfl,_,rfl,np3,d,_,_,kvs,_,_,_,_,rfl,o2.fl.net,o2.fl.nd,o2.fl.hd,o2.fl.tb,o2.fl.nk,by have:=o2.fl.lk;omega,o2.sub,o2.hc,o2.sm,o2.bN,o2.hN,λ r1 H1 nr1 s1 f1=>?_⟩;have o1:=(ok1'.mono s23).mono s1;refine ⟨_,rfl,_,rfl,np,d,_,_,kvs,_,_,_,_,rfl,o1.fl.net,o1.fl.nd,o1.fl.hd,o1.fl.tb,o1.fl.nk,by have:=o1.fl.lk;omega,o1.sub,o1.hc,o1.sm,o1.bN,o1.hN,λ r2 H2 nr2 s2 f2=>?_⟩;refine ⟨zL2,λ t nt=>?_⟩;have s3:=ay (o:=.tup [.int 1,.int 1]) nt;refine ⟨r1,r2,t,_,_,(1,1),rfl,f1.mono (s2.trans s3),f2.mono s3,ae,rp.wb.smr (by decide),rp.wb.mono (by decide),⟨by decide,by decide,by decide⟩,?_,_,rfl,iteF ⟨rfl,s23.trans (s1.trans (s2.trans s3))⟩⟩;rw [show vC (1,1)=1 from rfl,Rat.mul_one]
  rintro σ' H24 ⟨rfl,s24⟩;have o3:=ok3.mono s24;have sub3:=o3.sub;have sub1:=ok1.sub;refine ⟨_,rfl,_,rfl,np3,d,_,_,kvs,_,_,rfl,o3.fl,λ l1 H1 ts1 nl1 s1 hl1 hv1=>?_⟩;have n1:=faults_nd (A:=aZ (rs.zip wn)) sub3 nds npr;have n2:=faults_nd (A:=aZ (rs.zip wn)) (ps:=sp.zip (ws.map vC)) sub1 (by rw [rp.names];exact wnd) (by rw [pn1];exact spn);have len1:=faults_len (A:=aZ (rs.zip wn)) (ps:=(sp.zip (ws.map vC)).reverse) sub3;have len2:=faults_len (A:=aZ (rs.zip wn)) (ps:=sp.zip (ws.map vC)) sub1;rw [List.length_reverse] at len1;refine ⟨l1,ts1,_,rfl,SqL.of hl1,hv1.1,λ i v e h1 h2=>hv1.2 i v e h1 h2,n1,by show (aK _ (aZ (rs.zip wn)) _ _).length<64;omega,λ l3 q3 nl3 p3 w3=>?_⟩;obtain ⟨H3,zq,s3,hl3⟩:=uG (o:=.lst (q3.map λ i=>ts1.getD i .non)) nl3;rw [zq];have o1:=(ok1'.mono s24).mono (s1.trans s3);refine ⟨_,rfl,_,rfl,np,d,_,_,kvs,_,_,rfl,o1.fl,λ l2 H4 ts2 nl2 s4 hl2 hv2=>?_⟩;refine ⟨l2,ts2,_,rfl,SqL.of hl2,hv2.1,λ i v e h1 h2=>hv2.2 i v e h1 h2,n2,by show (aK _ (aZ (rs.zip wn)) _ _).length<64;omega,λ l5 q5 nl5 p5 w5=>?_⟩;obtain ⟨H5,zq,s5,hl5⟩:=uG (o:=.lst (q5.map λ i=>ts2.getD i .non)) nl5;rw [zq];have hv1':=hv1.mono λ v x z=>FtIs.mono z (s3.trans (s4.trans s5));have hv2':=hv2.mono λ v x z=>FtIs.mono z s5;obtain ⟨g1',g2'⟩:=sorted_eq (K:=K) hv1' hv2' p3 p5 (sort_same (faults_perm sub1 sne c) p3 p5 w3 w5);exact ⟨l3,l5,_,_,rfl,rfl,SqL.of ((s4.trans s5) _ _ hl3),SqL.of hl5,g1',g2',k _⟩
end
end G
namespace G
open PySem L2
theorem ln1 {α:Type} {P:List α->Prop} (h:∀ a,P [a]):∀ us:List α,us.length=1->P us
 | [a],_=>h a
theorem ln2 {α:Type} {P:List α->Prop} (h:∀ a b,P [a,b]):∀ us:List α,us.length=2->P us
 | [a,b],_=>h a b
theorem ln3 {α:Type} {P:List α->Prop} (h:∀ a b c,P [a,b,c]):∀ us:List α,us.length=3->P us
 | [a,b,c],_=>h a b c
theorem ln4 {α:Type} {P:List α->Prop} (h:∀ a b c d,P [a,b,c,d]):∀ us:List α,us.length=4->P us
 | [a,b,c,d],_=>h a b c d
theorem ln5 {α:Type} {P:List α->Prop} (h:∀ a b c d e,P [a,b,c,d,e]):∀ us:List α,us.length=5->P us
 | [a,b,c,d,e],_=>h a b c d e
theorem ln6 {α:Type} {P:List α->Prop} (h:∀ a b c d e f,P [a,b,c,d,e,f]):∀ us:List α,us.length=6->P us
 | [a,b,c,d,e,f],_=>h a b c d e f
theorem ln7 {α:Type} {P:List α->Prop} (h:∀ a b c d e f g,P [a,b,c,d,e,f,g]):∀ us:List α,us.length=7->P us
 | [a,b,c,d,e,f,g],_=>h a b c d e f g
section
variable {K:W.Frag} {h:Heap} {mg:Str->Option Value} {x qual:Str} {st:Stmt} {f C T:Addr} {fd:FuncData} {ps:List Str} {ds:Array Value} {oc:Value} {od an:Option Addr} {osl:Array (Option Value)} {kV doc pm cdv ct:Value}
noncomputable def BA (x qual:Str) (st:Stmt) (ps:List Str) (us:List Value):Prop:=∀ (kV doc pm:Value) (an:Option Addr) (cdv ct:Value),bindArgs (W.fnOf x qual (bU st) (aV st) (ah st) .none kV doc pm an cdv ct) ⟨us,[]⟩=pure (ps.zip us)
noncomputable def BE (x qual:Str) (st:Stmt) (ps:List Str) (ds:Array Value) (es us:List Value):Prop:=∀ (T:Addr) (kV doc pm:Value) (an:Option Addr) (cdv ct:Value),∃ k,bindArgs (W.fnOf x qual (bU st) (aV st) (ah st) (.ref T) kV doc pm an cdv ct) ⟨us,[]⟩=seqItems? (.ref T) >>= k/\k (some ds)=pure (ps.zip (us++es))
theorem bi (N:Fun K x qual st f fd) (b:∀ us:List Value,us.length=ps.length->BA x qual st ps us):Binds K fd ps []:=N.binds λ kV doc pm an cdv ct us hl=>b us hl kV doc pm an cdv ct
theorem biD {es:List Value} {n:Nat} (N:FunD K x qual st f fd ds) (e:n+es.length=ps.length) (b:∀ us:List Value,us.length=n->BE x qual st ps ds es us):Binds K fd ps es:=N.binds λ T kV doc pm an cdv ct us hl=>b us (by rw [fX] at hl;omega) T kV doc pm an cdv ct
theorem mD (X:K.In h) (G:h.Ns mainGlobals mg) (a:W.nsIn K mainGlobals x=some (some (.ref f))) (N:Fun K x x st f fd) (b:∀ us:List Value,us.length=ps.length->BA x x st ps us):FDe K mg x st ps:=⟨_,_,N,W.mg_of X G a,bi N b⟩
theorem mM (a:W.findIn K (.ref C) x=some (some (.ref f))) (N:Fun K x qual st f fd) (i:W.isFn K (.ref f)=true) (b:∀ us:List Value,us.length=ps.length->BA x qual st ps us):MDe K C x qual st ps:=⟨_,_,N,⟨a,i,N.kp⟩,bi N b⟩
theorem mI (a:W.findIn K (.ref C) "__init__"=some (some (.ref f))) (N:Fun K "__init__" qual st f fd) (m:W.makesIn K C=true) (i:W.isFn K (.ref f)=true) (k:W.keepIn K (.ref C)=true) (b:∀ us:List Value,us.length=ps.length->BA "__init__" qual st ps us):IDe K C qual st ps [[]]:=⟨_,_,N.gen,⟨m,a,i,k⟩,λ dvs hd=>by cases List.mem_singleton.mp hd;exact ⟨[],.nil,bi N b⟩⟩
theorem mX (a:W.findIn K (.ref C) "__init__"=some (some (.ref f))) (N:Fun K "__init__" qual st f fd) (t:W.typeIn K (.ref f)=some (.type "function")) (e:excFI K C bmV "ValueError.__new__"=some f) (b:∀ us:List Value,us.length=ps.length->BA "__init__" qual st ps us):XiDe K C qual st ps:=⟨_,_,N.gen,e,t,bi N b⟩
theorem mJ {dvss:List (List V)} (a:W.findIn K (.ref C) "__init__"=some (some (.ref f))) (N:FunD K "__init__" qual st f fd ds) (m:W.makesIn K C=true) (i:W.isFn K (.ref f)=true) (k:W.keepIn K (.ref C)=true) (b:FunD K "__init__" qual st f fd ds->∀ dvs∈dvss,∃ es,Vals dvs es/\Binds K fd ps es):IDe K C qual st ps dvss:=⟨_,_,N.gen,⟨m,a,i,k⟩,b N⟩
theorem all0 {P:List V->Prop}:∀ d∈([]:List (List V)),P d:=λ _ h=>nomatch h
theorem all1 {P:List V->Prop} {d:List V} {r:List (List V)} (h:P d) (k:∀ d∈r,P d):∀ e∈d::r,P e:=λ e he=>by
 rcases gw.mp he with rfl | q
 ·exact h
 ·exact k e q
theorem mCD {n:Nat} (a:W.findCls K (.ref C) (.type "type") "__init__"=some (.val (.ref f))) (N:FunD K "__init__" qual st f fd ds) (r:W.readsIn K C (.type "type")=true) (s:W.specialIn K (.ref C) "__getattribute__"=some (some (.builtin "type.__getattribute__"))) (k:W.keepIn K (.ref f)=true) (e:n=ps.length) (b:∀ us:List Value,us.length=n->BE "__init__" qual st ps ds [] us):CDe K C qual st ps:=⟨_,_,N.gen,⟨r,s⟩,a,k,biD (es:=[]) N e b⟩
theorem mE0 {cd:ClassData} (a:W.clsIn K C=some cd):∃ cd,W.clsIn K C=some cd:=⟨_,a⟩
theorem mGi {v:Int} {t:Tok} (X:K.In h) (G:h.Ns mainGlobals mg) (a:W.nsIn K mainGlobals x=some (some (.int v t))):∃ tk,mg x=some (.int v tk):=⟨_,W.mg_of X G a⟩
theorem mE2 {cd:ClassData} {a0 a1:Addr} (a:W.clsIn K C=some cd) (b:cd.mro=[a0,a1].map Value.ref++bmV) (c:cd.hasDict=true) (d:W.findIn K (.ref C) "__setattr__"=some (some (.builtin "object.__setattr__"))):ExI K C:=⟨⟨_,_,a,b,c⟩,d⟩
end
theorem top {l:W.OpenLaw} {w:World} {K:W.Frag} {mg:Str->Option Value} {fa A0 A1 A2 A3 A4 A5 A6 A7 A8 A9 A10 A11 A12 A13:Addr} (hfa:mg "law"=some (.ref fa)) (T:TX K mg ⟨A0,A1,A2,A3,A4,A5,A6,A7,A8,A9,A10,A11,A12,A13⟩) :
  ∃ fd:FuncData,(∀ (s:Shared) (v:Value),BindsTo s fd ⟨[v],[]⟩ [("_law_script",v)])/\∀ base:Heap,K.In base->base.Ns mainGlobals mg->FnOk l.prog w K mg base CX0 18 fa fd ["_law_script"] (spLaw K):=by
 obtain ⟨f,fd,N,e,_⟩:=T.d_law
 cases hfa.symm.trans e;obtain ⟨oc,od,kV,doc,pm,an,cdv,ct,osl,rfl,_,_⟩:=N.ex;exact ⟨_,λ s v=>.of_eq rfl,λ base _ _=>ok_law N T⟩
theorem walkL {l:PySem.W.OpenLaw} {q:Program} {loose:List Str} {XP:(Str->Option Value)->Heap->Prop} {YP:World->Heap->Prop} {d:DefRec} {K:Params->W.Frag} (hn:l.most=some 63) (hdf:d.params.defaults=[])
  (hY:∀ (w:World) (h:Heap),YP w h->(K w.params).In h)
  (F:∀ (w:World) (mg:Str->Option Value) (fa:Addr) (h:Heap),(K w.params).In h->h.Ns mainGlobals mg->mg d.name=some (.ref fa)->
   ∃ fd:FuncData,(∀ (s:Shared) (u:Value),BindsTo s fd ⟨[u],[]⟩ [("_law_script",u)])/\∀ base:Heap,(K w.params).In base->base.Ns mainGlobals mg->FnOk l.prog w (K w.params) mg base CX0 18 fa fd ["_law_script"] (spLaw (K w.params))) :
  PySem.W.WalkO q loose XP YP l.row.toRowW d [] (λ f vs=>PySem.call f vs):=
 L2.walk_ofB (n:=63) (k:=18) (x:="_law_script") (CX:=λ _=>CX0) (sp:=λ w=>spLaw (K w.params)) hn (by decide) hdf ⟨rfl,by decide,by decide⟩ hY F (λ _ _ a ns hl hb _ hS=>⟨a,ns,rfl,hS,hl,λ i hi=>⟨hb i hi⟩,λ _=>rfl⟩) λ _ _ _ _ _ z=>z
end G
inductive PySem.W.Fast:Prop | tw1064161882162462588 | tw18119673809853404178 | tw14238765921527570695 | tw11845066580924172012 | tw14445526602240595603 | tw963298273620053733 | tw11654246539237944894 | tw749261417291891500 | tw15985987651843597985 | tw3241122295768056202 | tw17424669679691490247 | tw12592291522120242189 | tw7721199019691778786 | tw2758739645620884861 | tw7746460312665476178 | tw3408317894387801988 | tw12574260668936445596 | tw9751404591101217728 | tw13632720560106671657 | tw3039971568763945990 | tw9758310908065138030 | tw7320058856520489386 | tw5306033958895209291 | tw18437028598104339083 | tw9218798465226854166 | tw18369691595649354994 | tw8078631758640906855 | tw11286752236672999465 | tw4300741845130007282 | tw4279898949726120177 | tw13655878831627652555 | tw4865643330630085171 | tw10863256325441348891 | tw12775721574532079600 | tw16916535075660206710 | tw1815380809103383446 | tw385952409174562519 | tw8028535088394959453 | tw12031778555288357299 | tw2246341175672331352 | tw15908399806874982912 | tw1312163478088813650 | tw7019258457648996371 | tw9143571211567124500 | tw7306821408032588532 | tw17840526187998657135 | tw1479807203729885880 | tw1581871613784947170 | tw13477789544879266792 | tw10599584004226030027 | tw17174115458253587311 | tw16358443429288492880 | tw1680287936794378193 | tw7082050164609053615 | tw9826116707453199698 | tw10810589479695079363 | tw5087640953687444821 | tw14222209397264719639 | tw14511289315051261674 | tw13189487867528701340 | tw4854068812335212934 | tw6925749356332046925 | tw13599760313698871564 | tw15797556355743837458 | tw2217680793918877889 | tw11582123530970994076 | tw13482542243114204488 | tw10524944119150598469 | tw6520810518080382730 | tw10969862194572936357 | tw9452090440011521364 | tw12197688458734243922 | tw3881741860154603664 | tw16308281989960453505 | tw9435012904978319912 | tw15802305523103500439 | tw1879042293662170979 | tw18209686101341375244 | tw1273909529992574600 | tw17167057378466516095 | tw11360294660417600201 | tw829083172573811948 | tw5700568391231407436 | tw1481473979454368669 | tw17419637704296478006 | tw3315698240210382892 | tw518284019725892154 | tw1427058431142398521 | tw14055614245123606121 | tw9007622420301782272 | tw9409677079958687826 | tw4989018250641397809 | tw3286328447162621371 | tw8921605272023296188 | tw7623567407190601979 | tw9204856042817545474 | tw12186034602504479874 | tw11570803561987813017 | tw11298814225788331014 | tw2475881410153112008 | tw10533269167411645764 | tw10228715609264390795 | tw5288515500246794237 | tw4299736716694890166 | tw9916713494715663681
open PySem L2 in
local macro_rules | `(tactic| walk_at $s:str) => do
  let v := (s.getString.splitOn " ").toArray
  if v.size < 3 then Lean.Macro.throwUnsupported
  let id (i : Nat) := Lean.mkIdent (Lean.Name.mkSimple s!"o{i}")
  let KX := Lean.mkIdent `KX
  let GN := Lean.mkIdent `GN
  let ln (n : Nat) := Lean.mkIdent (Lean.Name.mkStr2 "G" s!"ln{n}")
  let us (n : Nat) : Lean.MacroM (Lean.TSyntax `term) := do
    let hs ← (Array.range n).mapM fun _ => `(Lean.Parser.Term.funBinder| _)
    `(fun $hs:funBinder* => rfl)
  let ks ← `(tactic| (try dsimp only) <;> k_is)
  if v[0]! == "H" then
    let hs ← (Array.range v[2]!.toNat!).mapM fun i => `(?$(id i):ident)
    return ← `(tactic| refine' G.top $(Lean.mkIdent `hmg) ⟨$hs,*⟩)
  let i0 := v[1]!.toNat!
  let mut ts : Array (Lean.TSyntax `tactic) := #[]
  for (t, j) in (v.extract 2 v.size).zipIdx do
    let c := t.take 1 |>.toString
    let n := (t.drop 1).toString.toNat!
    let i := id (i0 + j)
    if (c == "m") != (v[0]! == "m") then continue
    let r ← match c with
      | "m" => `(tactic| case $i:ident => refine' W.mg_of $KX $GN ?_; k_is)
      | "d" => `(tactic| case $i:ident => refine' G.mD $KX $GN ?a (fun_mk ?l ?c ?k) ($(ln n) $(← us (n + 6))); (case a => k_is); (case l => k_is); (case c => k_is); (case k => k_is))
      | "M" => `(tactic| case $i:ident => dsimp only; refine' G.mM ?a (fun_mk ?l ?c ?k) ?i ($(ln n) $(← us (n + 6))); (case a => k_is); (case l => k_is); (case c => k_is); (case k => k_is); (case i => k_is))
      | "I" => `(tactic| case $i:ident => dsimp only; refine' G.mI ?a (fun_mk ?l ?c ?k) ?m ?i ?j ($(ln n) $(← us (n + 6))); (case a => k_is); (case l => k_is); (case c => k_is); (case k => k_is); (case m => k_is); (case i => k_is); (case j => k_is))
      | "X" => `(tactic| case $i:ident => dsimp only; refine' G.mX ?a (fun_mk ?l ?c ?k) ?t ?e ($(ln n) $(← us (n + 6))); (case a => k_is); (case l => k_is); (case c => k_is); (case k => k_is); (case t => k_is); (case e => kernel_rfl))
      | "C" => `(tactic| case $i:ident => dsimp only; refine' G.mC ?a (fun_mk ?l ?c ?k) ?r ?s ($(ln n) $(← us (n + 6))); (case a => k_is); (case l => k_is); (case c => k_is); (case k => k_is); (case r => k_is); (case s => k_is))
      | "c" => `(tactic| case $i:ident => refine' ⟨?_, ?_, ?_, ?_⟩ <;> $ks:tactic)
      | "n" => `(tactic| case $i:ident => refine' (?_ : W.findIn _ _ _ = _); $ks:tactic)
      | "k" => `(tactic| case $i:ident => $ks:tactic)
      | "t" => `(tactic| case $i:ident => (try dsimp only); kit_is)
      | "x" => `(tactic| case $i:ident => (try dsimp only); k_exc)
      | "e" => `(tactic| case $i:ident => refine' G.mE0 ?a; (case a => $ks:tactic))
      | "b" => `(tactic| case $i:ident => refine' ⟨?_, ?_⟩ <;> $ks:tactic)
      | "g" => `(tactic| case $i:ident => refine' G.mGi $KX $GN ?a; (case a => k_is))
      | "s" => `(tactic| case $i:ident => refine' G.mGs $KX $GN ?a; (case a => k_is))
      | "z" => `(tactic| case $i:ident => refine' W.mg_none_of $KX $GN ?_; k_is)
      | "E" => do
        let e := Lean.mkIdent (Lean.Name.mkStr2 "G" s!"mE{n}")
        `(tactic| case $i:ident => dsimp only; refine' $e ?a ?b ?c ?d; (case a => k_is); (case b => rfl); (case c => rfl); (case d => k_is))
      | _ => continue
    ts := ts.push r
  `(tactic| ($[$ts];*))
open PySem PySem.W PyProof.Rows
set_option maxRecDepth 100000 in
set_option maxHeartbeats 0 in
theorem PySem.Challenge.cw_gainstream_k19_whole_change_of_units_holds : PySem.Challenge.rw_gainstream_k19_whole_change_of_units.Holds := by
 w_on;o_law;k_head;(case hw=>w_witness2)
 k_fill
 refine G.walkL (l:=PySem.Challenge.rw_gainstream_k19_whole_change_of_units) rfl rfl (λ w h Y=>PySem.W.kIn_of Y) ?F
 case F=>
  intro w mg fa h KX GN hmg
  walk_at "H 14 181"
  walk_at "m 0 d2 d2 d1 d2 d2 d2 d2 d2 d2 d2 d2 d3 d2 d1 d3 d2 d2 d2 d1 d2 d3 d2 d2 d2 d3 d4 d2 d4 d3 d4 d2 d3 d2 d3 d5 d2 d7 d1 c0 m0 n0 n0 w0 M2 M2 M2 M2 M1 k0 k0 c0 m0 n0 n0 n0 n0 n0 w0 w0 M1"
  walk_at "m 60 M2 k0 k0 c0 m0 n0 n0 n0 n0 n0 n0 w0 M1 M2 k0 k0 c0 m0 n0 n0 n0 n0 n0 n0 w0 M1 M2 k0 k0 c0 m0 n0 n0 n0 n0 n0 n0 M1 M2 k0 k0 c0 m0 n0 n0 I3 M1 M2 M2 M1 k0 k0 k0 k0 m0 m0 m0 m0 X2 E2"
  walk_at "m 120 n0 b0 k0 m0 m0 m0 X3 E2 n0 n0 k0 b0 k0 m0 X3 E2 n0 n0 k0 b0 k0 k0 e0 k0 k0 e0 k0 k0 k0 k0 t0 t0 t0 t0 t0 t0 t0 k0 k0 k0 k0 k0 e0 k0 k0 k0 k0 k0 e0 g0 g0 z0 z0 z0 z0 z0 z0 z0 z0 z0"
  walk_at "r 0 d2 d2 d1 d2 d2 d2 d2 d2 d2 d2 d2 d3 d2 d1 d3 d2 d2 d2 d1 d2 d3 d2 d2 d2 d3 d4 d2 d4 d3 d4 d2 d3 d2 d3 d5 d2 d7 d1 c0 m0 n0 n0 w0 M2 M2 M2 M2 M1 k0 k0 c0 m0 n0 n0 n0 n0 n0 w0 w0 M1"
  walk_at "r 60 M2 k0 k0 c0 m0 n0 n0 n0 n0 n0 n0 w0 M1 M2 k0 k0 c0 m0 n0 n0 n0 n0 n0 n0 w0 M1 M2 k0 k0 c0 m0 n0 n0 n0 n0 n0 n0 M1 M2 k0 k0 c0 m0 n0 n0 I3 M1 M2 M2 M1 k0 k0 k0 k0 m0 m0 m0 m0 X2 E2"
  walk_at "r 120 n0 b0 k0 m0 m0 m0 X3 E2 n0 n0 k0 b0 k0 m0 X3 E2 n0 n0 k0 b0 k0 k0 e0 k0 k0 e0 k0 k0 k0 k0 t0 t0 t0 t0 t0 t0 t0 k0 k0 k0 k0 k0 e0 k0 k0 k0 k0 k0 e0 g0 g0 z0 z0 z0 z0 z0 z0 z0 z0 z0"
  walk_at "r 180 z0 w0"
  (case o42=>dsimp only;refine' G.mJ ?a (L2.funD_mk ?l ?c ?t ?d) ?m ?i ?k ?b;(case a=>k_is);(case l=>k_is);(case c=>k_is);(case t=>k_is);(case d=>rfl);(case m=>k_is);(case i=>k_is);(case k=>k_is);(case b=>exact λ N=>G.all1 ⟨[],.nil,G.biD N rfl (G.ln3 λ _ _ _ _ _ _ _ _ _ _=>⟨_,rfl,rfl⟩)⟩ (G.all1 ⟨[.int 1 _],(.cons ⟨_,rfl⟩ (.nil)),G.biD N rfl (G.ln2 λ _ _ _ _ _ _ _ _ _=>⟨_,rfl,rfl⟩)⟩ (G.all0))))
  (case o57=>dsimp only;refine' G.mJ ?a (L2.funD_mk ?l ?c ?t ?d) ?m ?i ?k ?b;(case a=>k_is);(case l=>k_is);(case c=>k_is);(case t=>k_is);(case d=>rfl);(case m=>k_is);(case i=>k_is);(case k=>k_is);(case b=>exact λ N=>G.all1 ⟨[],.nil,G.biD N rfl (G.ln6 λ _ _ _ _ _ _ _ _ _ _ _ _ _=>⟨_,rfl,rfl⟩)⟩ (G.all1 ⟨[.none,.none],(.cons rfl (.cons rfl (.nil))),G.biD N rfl (G.ln4 λ _ _ _ _ _ _ _ _ _ _ _=>⟨_,rfl,rfl⟩)⟩ (G.all0))))
  (case o58=>dsimp only;refine' G.mCD ?a (L2.funD_mk ?l ?c ?t ?d) ?r ?s ?k rfl ?b;(case a=>k_is);(case l=>k_is);(case c=>k_is);(case t=>k_is);(case d=>rfl);(case r=>k_is);(case s=>k_is);(case k=>k_is);(case b=>exact G.ln6 λ _ _ _ _ _ _ _ _ _ _ _ _ _=>⟨_,rfl,rfl⟩))
  (case o71=>dsimp only;refine' G.mJ ?a (L2.funD_mk ?l ?c ?t ?d) ?m ?i ?k ?b;(case a=>k_is);(case l=>k_is);(case c=>k_is);(case t=>k_is);(case d=>rfl);(case m=>k_is);(case i=>k_is);(case k=>k_is);(case b=>exact λ N=>G.all1 ⟨[],.nil,G.biD N rfl (G.ln7 λ _ _ _ _ _ _ _ _ _ _ _ _ _ _=>⟨_,rfl,rfl⟩)⟩ (G.all1 ⟨[.none,.none],(.cons rfl (.cons rfl (.nil))),G.biD N rfl (G.ln5 λ _ _ _ _ _ _ _ _ _ _ _ _=>⟨_,rfl,rfl⟩)⟩ (G.all0))))
  (case o84=>dsimp only;refine' G.mJ ?a (L2.funD_mk ?l ?c ?t ?d) ?m ?i ?k ?b;(case a=>k_is);(case l=>k_is);(case c=>k_is);(case t=>k_is);(case d=>rfl);(case m=>k_is);(case i=>k_is);(case k=>k_is);(case b=>exact λ N=>G.all1 ⟨[],.nil,G.biD N rfl (G.ln7 λ _ _ _ _ _ _ _ _ _ _ _ _ _ _=>⟨_,rfl,rfl⟩)⟩ (G.all1 ⟨[.none,.none],(.cons rfl (.cons rfl (.nil))),G.biD N rfl (G.ln5 λ _ _ _ _ _ _ _ _ _ _ _ _=>⟨_,rfl,rfl⟩)⟩ (G.all0))))
#print axioms PySem.Challenge.cw_gainstream_k19_whole_change_of_units_holds
