import PyProof.Rows.All
import Wide.All
import OpenK.AllK
import Wide.FinOn
import Lean
import PyProof.EqAt
import PyProof.EqKinds
import PyProof.TupleCall
import PySem.Challenge.RW_gainstream_k39_whole_plain_ways
set_option compiler.extract_closed false
theorem zL1:1<=PySem.sizeLine:=by decide
theorem zL2:2<=PySem.sizeLine:=by decide
theorem zL4:4<=PySem.sizeLine:=by decide
theorem zI1000003:(0:Int)<1000003:=by decide
theorem zI13:(0:Int)<13:=by decide
theorem zI16:(0:Int)<16:=by decide
theorem zI3:(0:Int)<3:=by decide
theorem zI4:(0:Int)<4:=by decide
theorem zI5:(0:Int)<5:=by decide
theorem zI6:(0:Int)<6:=by decide
theorem zI7:(0:Int)<7:=by decide
def gG.{u0,u1}:=@List.length_map.{u0,u1}
def gH.{u0}:=@List.getElem?_eq_some_iff.{u0}
def gI.{u0}:=@List.mem_of_getElem?.{u0}
def gJ:=@Nat.le_refl
def gK.{u0,u1}:=@List.getElem?_map.{u0,u1}
def gL.{u0,u1}:=@List.mem_map.{u0,u1}
def gM.{u0,u1}:=@List.map_append.{u0,u1}
def gN.{u0}:=@List.mem_singleton.{u0}
def gO:=@PySem.Heap.get?_push_of_some
def gP.{u0}:=@List.take_length.{u0}
def gQ.{u0}:=@List.take_add_one.{u0}
def gR:=@Nat.zero_le
def gS.{u0}:=@List.length_take.{u0}
def gT:=@decide_eq_false
def gU.{u0}:=@List.mem_append_left.{u0}
def gW:=@PySem.PassesOwn.never
def gX.{u0}:=@List.getElem?_eq_getElem.{u0}
def gY.{u0}:=@Option.toList_some.{u0}
def gZ:=@Nat.le_trans
def g6.{u0}:=@List.mem_cons_of_mem.{u0}
def g7.{u0}:=@List.mem_append.{u0}
def g8.{u0}:=@List.mem_append_right.{u0}
def g9.{u0}:=@List.not_mem_nil.{u0}
def hE.{u0}:=@List.length_append.{u0}
def hG.{u0,u1}:=@List.lookup_cons.{u0,u1}
def hJ:=@PySem.Heap.lt_size
def hU:=@decide_eq_true
def hV.{u0}:=@List.mem_cons.{u0}
def hX:=@Classical.byContradiction
def hZ.{u0}:=@Option.some.inj.{u0}
def ia.{u0}:=@List.length_cons.{u0}
def ib:=@PySem.Heap.get?_push_size
def ic:=@Nat.lt_of_lt_of_le
def ie.{u0}:=@List.mem_cons_self.{u0}
def ig:=@Nat.lt_of_le_of_lt
def ii:=@Bool.false_ne_true
def im:=@PySem.boot_len
def ip:=@PySem.wpAny_bind
def ir.{u0}:=@List.size_toArray.{u0}
def iw:=@Nat.ne_of_lt
def ix.{u0,u1}:=@congrArg.{u0,u1}
def iy.{u0}:=@List.nodup_append.{u0}
def iz.{u0}:=@List.mem_iff_getElem?.{u0}
def iA.{u0}:=@List.length_filter_le.{u0}
def iB.{u0}:=@List.append_nil.{u0}
def iC.{u0}:=@List.nodup_cons.{u0}
def iD.{u0,u1}:=@Option.map_some.{u0,u1}
def iE:=@PySem.wpAny_pure
def iF.{u0,u1,u2}:=@List.map_map.{u0,u1,u2}
def iG:=@PyProof.Rows.boot_isinstance
def iH:=@PyProof.Rows.boot_list
def iI.{u0}:=@List.getElem?_append_right.{u0}
def iJ:=@Int.natAbs_mul
def iK.{u0}:=@List.filter_cons_of_pos.{u0}
def iL.{u0}:=@List.filter_cons_of_neg.{u0}
def iM.{u0,u1}:=@List.map_cons.{u0,u1}
def iN:=@Int.mul_comm
def iO:=@PySem.F.slot_list_append
def iP:=@PySem.F.type_list_append
def iQ:=@PySem.mem_of_lookup
def iR:=@Int.eq_ofNat_of_zero_le
def iS:=@PySem.F.plainAttrs_list
def iT:=@Int.natAbs_natCast
def iU:=@PySem.W.kia_one
def iV.{u0}:=@beq_eq_false_iff_ne.{u0}
def iW.{u0,u1}:=@List.foldl_append.{u0,u1}
def iX.{u0}:=@List.length_singleton.{u0}
def iY:=@Rat.divInt_eq_divInt_iff
def iZ.{u0}:=@List.mem_filter.{u0}
def i3.{u0}:=@List.filter_append.{u0}
def i4:=@Nat.lt_irrefl
def i5:=@of_decide_eq_true
def i6.{u0}:=@List.getElem?_inj.{u0}
def i7.{u0}:=@List.take_zero.{u0}
def i8.{u0,u1}:=@List.foldl_cons.{u0,u1}
def i9:=@PySem.wpAny_mono
def ja:=@Int.gcd_dvd_left
def jb.{u0}:=@List.nodup_nil.{u0}
set_option Elab.async false
set_option linter.all false
set_option maxRecDepth 100000
namespace L2
open PySem PySem.Spec PyProof.Rows
noncomputable abbrev Key:=Sum Int Str
noncomputable def keyIs:Key->Value->Bool
 | .inl k,v=>Value.isInt k v
 | .inr x,v=>Value.isStrOf x v
noncomputable def keyH (w:World):Key->Int
 | .inl k=>hashInt k
 | .inr x=>hashStr w x
theorem bc:∀ {k:Key} {v:Value},keyIs k v=true->(∃ i t,k=Sum.inl i/\v=Value.int i t)∨(∃ x t,k=Sum.inr x/\v=Value.str x t)
 | .inl i,v,h=>by
  obtain ⟨t,e⟩:=Value.isInt_shape (k:=i) (v:=v) h;exact .inl ⟨i,t,rfl,e⟩
 | .inr x,v,h=>by
  obtain ⟨t,e⟩:=Value.isStrOf_shape (x:=x) (v:=v) h;exact .inr ⟨x,t,rfl,e⟩
theorem keyIs_int (i:Int) (t:Tok):keyIs (.inl i) (.int i t)=true:=by simp [keyIs,Value.isInt]
theorem keyIs_str (x:Str) (t:Tok):keyIs (.inr x) (.str x t)=true:=by simp [keyIs,Value.isStrOf]
theorem key_ll (a b:Int):decide ((Sum.inl a:Key)=Sum.inl b)=(a == b):=by
 by_cases e:a=b
 ·subst e;simp
 ·have h:¬ (Sum.inl a:Key)=Sum.inl b:=λ q=>e (Sum.inl.inj q);rw [gT h];exact (iV.mpr e).symm
theorem key_rr (a b:Str):decide ((Sum.inr a:Key)=Sum.inr b)=decide (a=b):=by
 by_cases e:a=b
 ·subst e;simp
 ·have h:¬ (Sum.inr a:Key)=Sum.inr b:=λ q=>e (Sum.inr.inj q);rw [gT h,gT e]
theorem key_lr (a:Int) (b:Str):decide ((Sum.inl a:Key)=Sum.inr b)=false:=gT (λ q=>nomatch q)
theorem key_rl (a:Str) (b:Int):decide ((Sum.inr a:Key)=Sum.inl b)=false:=gT (λ q=>nomatch q)
noncomputable def aV (prog:Program) (w:World):PySem.KeyKind prog w Key where
 is:=keyIs
 hash:=keyH w
 inj:=λ v a b ha hb=>by
  rcases bc ha with ⟨i,t,rfl,rfl⟩ | ⟨x,t,rfl,rfl⟩
  ·rcases bc hb with ⟨j,u,rfl,e⟩ | ⟨y,u,rfl,e⟩
   ·injection e with e1 _;rw [e1]
   ·exact nomatch e
  ·rcases bc hb with ⟨j,u,rfl,e⟩ | ⟨y,u,rfl,e⟩
   ·exact nomatch e
   ·injection e with e1 _;rw [e1]
 byValue:=λ k v h=>by
  rcases bc h with ⟨i,t,rfl,rfl⟩ | ⟨x,t,rfl,rfl⟩ <;> rfl
 pyHash:=λ hv h=>by
  rcases bc hv with ⟨i,t,rfl,rfl⟩ | ⟨x,t,rfl,rfl⟩
  ·exact wpAny_pyHash_int h
  ·exact wpAny_pyHash_str h
 eqBool:=λ hu hv h=>by
  rcases bc hu with ⟨i,t,rfl,rfl⟩ | ⟨x,t,rfl,rfl⟩
  ·rcases bc hv with ⟨j,u,rfl,rfl⟩ | ⟨y,u,rfl,rfl⟩
   ·rw [key_ll] at h;exact wpAny_eqBool_int h
   ·rw [key_lr] at h;exact SeqAt.EqAt.int_str i t y u _ _ _ _ h
  ·rcases bc hv with ⟨j,u,rfl,rfl⟩ | ⟨y,u,rfl,rfl⟩
   ·rw [key_rl] at h;exact SeqAt.EqAt.str_int x t j u _ _ _ _ h
   ·rw [key_rr] at h;exact wpAny_eqBool_str h
 «strs»:=λ k x t v h=>by
  rcases bc h with ⟨i,u,rfl,e⟩ | ⟨y,u,rfl,e⟩
  ·exact nomatch e
  ·injection e with e1 _
   subst e1
   cases v <;> rfl
theorem mixKind_int (prog:Program) (w:World) (i:Int) (t:Tok):(aV prog w).is (.inl i) (.int i t)=true:=keyIs_int i t
theorem mixKind_str (prog:Program) (w:World) (x:Str) (t:Tok):(aV prog w).is (.inr x) (.str x t)=true:=keyIs_str x t
end L2
namespace L2
open PySem PySem.Spec PyProof.Rows
inductive V where
 | non | bl (b:Bool) | int (i:Int) | str (x:Str) | byt (b:Array UInt8) | flt (b:UInt64) | ref (a:Addr) | ty (n:String)
 deriving DecidableEq
noncomputable def RelV:V->Value->Prop
 | .non,u=>u=Value.none
 | .bl b,u=>u=Value.bool b
 | .int i,u=>∃ t,u=Value.int i t
 | .str x,u=>∃ t,u=Value.str x t
 | .byt b,u=>∃ t,u=Value.bytes b t
 | .flt b,u=>∃ t,u=Value.float b t
 | .ref a,u=>u=Value.ref a
 | .ty n,u=>u=Value.type n
noncomputable abbrev Vals:List V->List Value->Prop:=Paired RelV
theorem Vals.length {xs:List V} {us:List Value} (r:Vals xs us):xs.length=us.length:=Paired.length r
theorem Vals.get:∀ {xs:List V} {us:List Value} {i:Nat} {x:V},Vals xs us->xs[i]?=some x->∃ u,us[i]?=some u/\RelV x u
 | _,_,_,_,.nil,e=>by simp at e
 | _,_,0,_,.cons r _,e=>by simp at e;subst e;exact ⟨_,rfl,r⟩
 | _,_,i+1,x,.cons _ t,e=>by
  obtain ⟨u,h1,h2⟩:=Vals.get (i:=i) (x:=x) t (by simpa using e);exact ⟨u,by simpa using h1,h2⟩
theorem Vals.append:∀ {xs ys:List V} {us ws:List Value},Vals xs us->Vals ys ws->Vals (xs++ys) (us++ws)
 | _,_,_,_,.nil,s=>s
 | _,_,_,_,.cons r t,s=>.cons r (Vals.append t s)
theorem Vals.take:∀ {xs:List V} {us:List Value} (n:Nat),Vals xs us->Vals (xs.take n) (us.take n)
 | _,_,0,_=>.nil
 | _,_,_+1,.nil=>.nil
 | _,_,n+1,.cons r t=>.cons r (Vals.take n t)
theorem Vals.drop:∀ {xs:List V} {us:List Value} (n:Nat),Vals xs us->Vals (xs.drop n) (us.drop n)
 | _,_,0,r=>r
 | _,_,_+1,.nil=>.nil
 | _,_,n+1,.cons _ t=>Vals.drop n t
noncomputable def RelO:Option V->Option Value->Prop
 | some v,some u=>RelV v u
 | none,none=>True
 | _,_=>False
noncomputable def KV {κ:Type}:List (κ × V)->List (κ × Value)->Prop:=Paired λ(p:κ × V) (q:κ × Value)=>p.1=q.1/\RelV p.2 q.2
noncomputable def kV:Key->V
 | .inl i=>.int i
 | .inr x=>.str x
inductive HO where
 | lst (xs:List V)
 | tup (xs:List V)
 | dK (kvs:List (Key × V)) | dT (kvs:List (List Key × V))
 | set (S:Int->Bool) (n:Nat)
 | ins (C dx:Addr) (fs:List (Str × V))
 | own (x:Addr)
 | xd (fs:List (Str × V))
 | met (f x:Addr)
 | rng (lo hi:Int)
 | frz (o:Obj) (u:HO)
 | tbl (ps:Array Value)
 | ext (φ:Heap->Prop)
noncomputable abbrev Hp:=Addr->Option HO
noncomputable def upd (H:Hp) (a:Addr) (o:HO):Hp:=λ b=>if b=a then some o else H b
theorem ae {H:Hp} {a:Addr} {o:HO}:upd H a o a=some o:=by unfold upd;rw [if_pos rfl]
theorem af {H:Hp} {a b:Addr} {o:HO} (h:b≠a):upd H a o b=H b:=by unfold upd;rw [if_neg h]
theorem e7 {H:Hp} {a:Addr} {o u:HO}:upd (upd H a o) a u=upd H a u:=by
 funext b;unfold upd;split <;> rfl
theorem aF {H:Hp} {a b:Addr} {o u:HO} (h:H a=some o) (h':H b=some u) (d:o≠u):a≠b:=by
 intro e;subst e;rw [h] at h';exact d (hZ h')
theorem aj {H:Hp} {a b:Addr} {o:HO} (h:H a=some o) (h':H b=none):a≠b:=by
 intro e;subst e;rw [h] at h';cases h'
section
variable (P:Program) (w:World)
noncomputable def ObjOk (H:Hp) (h:Heap) (a:Addr):HO->Prop
 | .lst xs=>xs.length<=sizeLine/\∃ (its:List Value) (n:Nat),Vals xs its/\h.get? a=some { cls:=.type "list",data:=.seq its.toArray n }
 | .tup xs=>xs.length<=sizeLine/\∃ its:List Value,Vals xs its/\IsTup h a its.toArray
 | .dK kvs=>kvs.length<=sizeLine/\(a == sysModules)=false/\∃ vs,KV kvs vs/\h.DictOf (aV P w) a vs
 | .dT kvs=>kvs.length<=sizeLine/\(a == sysModules)=false/\∃ xs:List (List Key × Addr × Value),
   Paired (λ(p:List Key × V) (q:List Key × Addr × Value)=>p.1=q.1/\H q.2.1=some (.tup (p.1.map kV))/\RelV p.2 q.2.2) kvs xs/\
   ∃ o es ep,h.get? a=some o/\o.ExactDict/\o.data=.dict es ep/\es.toList=xs.map (entryOfKey (tupleKind (aV P w)))/\(xs.map (·.1)).Nodup
 | .set S n=>h.SetOf (intKind P w) a S n
 | .ins C dx fs=>H dx=some (.own a)/\fs.length<=1000/\dx≠a/\h.get? a=some (PySem.W.instObj C dx)/\
   ∃ mA,h.Ns1 dx mA/\(∀ f,RelO (fs.lookup f) (mA f))/\PySem.Within mA (fs.map (·.1))
 | .own _=>∃ o,h.get? a=some o
 | .xd fs=>∃ mA,h.Ns1 a mA/\∀ f,RelO (fs.lookup f) (mA f)
 | .rng lo hi=>∃ t u v,h.get? a=some { cls:=.type "range",data:=.fields #[.int lo t,.int hi u,.int 1 v] }
 | .frz o u=>h.get? a=some o/\ObjOk H h a u
 | .tbl ps=>h.get? a=some { cls:=.none,data:=.fields ps }
 | .met f x=>h.get? a=some (PySem.W.methodObj (.ref f) (.ref x))
 | .ext φ=>φ h/\(∃ o,h.get? a=some o)/\∀ h1 h2:Heap,φ h1->(∀ o,h1.get? a=some o->h2.get? a=some o)->φ h2
noncomputable def HOk (H:Hp) (h:Heap):Prop:=∀ a o,H a=some o->ObjOk P w H h a o
end
section
variable {P:Program} {w:World} {H H':Hp} {h h':Heap} {a:Addr} {o:HO}
theorem ObjOk.lt (x:ObjOk P w H h a o):a<h.objs.size:=by
 cases o with
 | lst xs=>obtain ⟨_,_,_,_,e⟩:=x;exact hJ e
 | tup xs=>obtain ⟨_,_,_,p⟩:=x;exact p.lt
 | dK kvs=>obtain ⟨_,_,_,_,o,_,_,e,_⟩:=x;exact hJ e
 | dT kvs=>obtain ⟨_,_,_,_,o,_,_,e,_⟩:=x;exact hJ e
 | set S n=>obtain ⟨o,_,_,_,e,_⟩:=x;exact hJ e
 | ins C dx fs=>obtain ⟨_,_,_,e,_⟩:=x;exact hJ e
 | own y=>obtain ⟨_,e⟩:=x;exact hJ e
 | xd fs=>obtain ⟨_,⟨_,_,_,e,_⟩,_⟩:=x;exact hJ e
 | rng lo hi=>obtain ⟨_,_,_,e⟩:=x;exact hJ e
 | frz ob u=>obtain ⟨e,_⟩:=x;exact hJ e
 | tbl ps=>exact hJ (show h.get? a=some _ from x)
 | met f y=>exact hJ (show h.get? a=some _ from x)
 | ext φ=>obtain ⟨_,⟨_,e⟩,_⟩:=x;exact hJ e
theorem Paired.mapP {α β:Type} {F G:α->β->Prop}:∀ {l₁:List α} {l₂:List β},Paired F l₁ l₂->(∀ a b,F a b->G a b)->Paired G l₁ l₂
 | _,_,.nil,_=>.nil
 | _,_,.cons r t,f=>.cons (f _ _ r) (Paired.mapP t f)
theorem ObjOk.stay (x:ObjOk P w H h a o) (k:∀ b u,(b=a∨H b=some (.own a))->h.get? b=some u->h'.get? b=some u)
  (ho:∀ b,H b=some (.own a)->H' b=some (.own a)) (ht:∀ b xs,H b=some (.tup xs)->H' b=some (.tup xs)):ObjOk P w H' h' a o:=by
 induction o with
 | lst xs=>obtain ⟨z,its,n,r,e⟩:=x;exact ⟨z,its,n,r,k _ _ (.inl rfl) e⟩
 | tup xs=>obtain ⟨z,its,r,ob,e,c⟩:=x;exact ⟨z,its,r,ob,k _ _ (.inl rfl) e,c⟩
 | dK kvs=>obtain ⟨z,y,vs,r,ob,es,ep,e,c⟩:=x;exact ⟨z,y,vs,r,ob,es,ep,k _ _ (.inl rfl) e,c⟩
 | dT kvs=>
  obtain ⟨z,y,xs,r,ob,es,ep,e,c⟩:=x;exact ⟨z,y,xs,Paired.mapP r λ p q z=>⟨z.1,ht _ _ z.2.1,z.2.2⟩,ob,es,ep,k _ _ (.inl rfl) e,c⟩
 | set S n=>obtain ⟨ob,es,ep,t,e,c⟩:=x;exact ⟨ob,es,ep,t,k _ _ (.inl rfl) e,c⟩
 | ins C dx fs=>
  obtain ⟨d,z,ne,e,mA,⟨od,es,ep,e2,c⟩,r⟩:=x;exact ⟨ho _ d,z,ne,k _ _ (.inl rfl) e,mA,⟨od,es,ep,k _ _ (.inr d) e2,c⟩,r⟩
 | own y=>obtain ⟨ob,e⟩:=x;exact ⟨ob,k _ _ (.inl rfl) e⟩
 | xd fs=>obtain ⟨mA,⟨od,es,ep,e,c⟩,r⟩:=x;exact ⟨mA,⟨od,es,ep,k _ _ (.inl rfl) e,c⟩,r⟩
 | rng lo hi=>obtain ⟨t,u,v,e⟩:=x;exact ⟨t,u,v,k _ _ (.inl rfl) e⟩
 | frz ob u ih=>obtain ⟨e,q⟩:=x;exact ⟨k _ _ (.inl rfl) e,ih q⟩
 | tbl ps=>
  have e:h.get? a=some { cls:=.none,data:=.fields ps }:=x;show h'.get? a=some { cls:=.none,data:=.fields ps };exact k a _ (.inl rfl) e
 | met f y=>
  have e:h.get? a=some (PySem.W.methodObj (.ref f) (.ref y)):=x;show h'.get? a=some (PySem.W.methodObj (.ref f) (.ref y));exact k a _ (.inl rfl) e
 | ext φ=>obtain ⟨p,⟨o,e⟩,st⟩:=x;exact ⟨st _ _ p λ o q=>k _ _ (.inl rfl) q,⟨o,k _ _ (.inl rfl) e⟩,st⟩
theorem HOk.lt (x:HOk P w H h) (e:H a=some o):a<h.objs.size:=(x a o e).lt
theorem HOk.fresh (x:HOk P w H h) (e:h.objs.size<=a):H a=none:=by
 cases q:H a with
 | none=>rfl
 | some u=>exact absurd (ic (x.lt q) e) (i4 _)
theorem HOk.kept (x:HOk P w H h) (k:∀ b u,h.get? b=some u->h'.get? b=some u):HOk P w H h':=λ a o e=>
 (x a o e).stay (λ b u _ q=>k b u q) (λ _ q=>q) λ _ _ q=>q
theorem HOk.laid (x:HOk P w H h) (k:∀ b u,h.get? b=some u->h'.get? b=some u) (hp:h.objs.size<=a) (new:ObjOk P w (upd H a o) h' a o):HOk P w (upd H a o) h':=λ b u e=>by
 have hn:=x.fresh hp;by_cases hb:b=a
 ·subst hb;rw [ae] at e;cases e;exact new
 ·rw [af hb] at e;exact (x b u e).stay (λ c v _ q=>k c v q) (λ c q=>by rw [af (aj q hn)];exact q) λ c xs q=>by rw [af (aj q hn)];exact q
end
noncomputable def Rd (H:Hp) (a:Addr) (u:HO):Prop:=H a=some u∨∃ o,H a=some (.frz o u)
theorem Rd.ok {P:Program} {w:World} {H:Hp} {h:Heap} {a:Addr} {u:HO} (r:Rd H a u) (x:HOk P w H h):ObjOk P w H h a u:=by
 rcases r with r | ⟨o,r⟩
 ·exact x a u r
 ·obtain ⟨_,q⟩:=x a _ r;exact q
noncomputable def Mut:Option HO->Prop
 | some (.lst _)=>True
 | some (.dK _)=>True
 | some (.dT _)=>True
 | some (.set _ _)=>True
 | some (.ins _ _ _)=>True
 | some (.ext _)=>True
 | _=>False
section
variable {P:Program} {w:World} {H:Hp} {h h':Heap} {x e:Addr} {o':HO}
theorem HOk.write (ok:HOk P w H h) (mu:Mut (H x)) (he:e=x∨H e=some (.own x)) (k:∀ b u,b≠e->h.get? b=some u->h'.get? b=some u) (heo:∃ u,h'.get? e=some u)
  (new:ObjOk P w (upd H x o') h' x o'):HOk P w (upd H x o') h':=λ b u q=>by
 have nown:∀ c y,H c=some (.own y)->c≠x:=λ c y r z=>by subst z;rw [r] at mu;exact mu
 have ntup:∀ c xs,H c=some (.tup xs)->c≠x:=λ c xs r z=>by subst z;rw [r] at mu;exact mu
 by_cases hb:b=x
 ·subst hb;rw [ae] at q;cases q;exact new
 ·rw [af hb] at q;by_cases hbe:b=e
  ·have q':H b=some (.own x):=by
    rcases he with z | z
    ·exact absurd (hbe.trans z) hb
    ·rw [hbe];exact z
   rw [q] at q';cases q';obtain ⟨v,hv⟩:=heo;exact ⟨v,by rw [hbe];exact hv⟩
  ·refine (ok b u q).stay (λ c v hc r=>k c v ?_ r) (λ c r=>by rw [af (nown c b r)];exact r) λ c xs r=>by rw [af (ntup c xs r)];exact r
   rcases hc with rfl | hc
   ·exact hbe
   ·rintro rfl;rcases he with z | z
    ·exact nown c b hc z
    ·rw [hc] at z;cases z;exact hb rfl
end
structure Un (fs ex:List Addr) (H H':Hp) (h h':Heap):Prop where
 keep:∀ b o,h.get? b=some o->H b=none->b ∉ fs->b ∉ ex->h'.get? b=some o
 slot:∀ b o,h.get? b=some o->H b=none->b∈fs->b ∉ ex->∃ sl,h'.get? b=some { o with slots:=sl }
 free:∀ b o,h.get? b=some o->H b=none->b ∉ ex->H' b=none
 there:∀ b o,h.get? b=some o->b ∉ ex->∃ o',h'.get? b=some o'
 tups:∀ b xs,H b=some (.tup xs)->H' b=some (.tup xs)
 frzs:∀ b o u,H b=some (.frz o u)->H' b=some (.frz o u)
 tbls:∀ b ps,H b=some (.tbl ps)->∃ more,H' b=some (.tbl (ps++more))
section
variable {fs fs' ex ex':List Addr} {H H1 H2:Hp} {h h1 h2 h':Heap} {a x e:Addr} {o:HO}
theorem Un.any (u:Un fs ex H H1 h h1) {b:Addr} {ob:Obj} (q:h.get? b=some ob) (n:H b=none) (hx:b ∉ ex):∃ sl,h1.get? b=some { ob with slots:=sl }:=by
 by_cases hb:b∈fs
 ·exact u.slot b ob q n hb hx
 ·exact ⟨ob.slots,u.keep b ob q n hb hx⟩
theorem Un.kept (k:∀ b u,h.get? b=some u->h'.get? b=some u):Un fs ex H H h h':=
 ⟨λ b ob q _ _ _=>k b ob q,λ b ob q _ _ _=>⟨ob.slots,k b ob q⟩,λ _ _ _ n _=>n,λ b ob q _=>⟨ob,k b ob q⟩,λ _ _ q=>q,λ _ _ _ q=>q,λ _ ps q=>⟨#[],by rw [q];simp⟩⟩
theorem Un.refl:Un fs ex H H h h:=Un.kept λ _ _ q=>q
theorem Un.laid (k:∀ b u,h.get? b=some u->h'.get? b=some u) (hp:h.objs.size<=a) (hn:H a=none):Un fs ex H (upd H a o) h h' where
 keep:=λ b u q _ _ _=>k b u q
 slot:=λ b u q _ _ _=>⟨u.slots,k b u q⟩
 free:=λ b u q n _=>by rw [af (iw (ic (hJ q) hp))];exact n
 there:=λ b u q _=>⟨u,k b u q⟩
 tups:=λ b xs q=>by rw [af (aj q hn)];exact q
 frzs:=λ b u xs q=>by rw [af (aj q hn)];exact q
 tbls:=λ b ps q=>⟨#[],by rw [af (aj q hn),q];simp⟩
theorem Un.write (mu:Mut (H x)) (he:e=x∨H e=some (.own x)) (k:∀ b u,b≠e->h.get? b=some u->h'.get? b=some u) (heo:∃ u,h'.get? e=some u):Un fs ex H (upd H x o) h h':=by
 have hx:∀ b,H b=none->b≠x:=λ b n z=>by subst z;rw [n] at mu;exact mu
 have hb:∀ b,H b=none->b≠e:=λ b n z=>by
  subst z;rcases he with r | r
  ·exact hx b n r
  ·rw [n] at r;cases r
 have hm:∀ b u,H b=some u->¬ Mut (some u)->b≠x:=λ b u q nm z=>by subst z;rw [q] at mu;exact nm mu
 refine ⟨λ b u q n _ _=>k b u (hb b n) q,λ b u q n _ _=>⟨u.slots,k b u (hb b n) q⟩,λ b u q n _=>by rw [af (hx b n)];exact n,λ b u q _=>?_,
  λ b xs q=>by rw [af (hm b _ q λ z=>z)];exact q,λ b u xs q=>by rw [af (hm b _ q λ z=>z)];exact q,λ b ps q=>⟨#[],by rw [af (hm b _ q λ z=>z),q];simp⟩⟩
 by_cases hbe:b=e
 ·subst hbe;exact heo
 ·exact ⟨u,k b u hbe q⟩
end
noncomputable def trk (h:Heap) (H:Hp):List Addr:=(List.range h.objs.size).filter λ a=>(H a).isSome
noncomputable def hidT (h:Heap) (H:Hp):Heap:=PySem.W.hideAll h (trk h H)
theorem hidT_size (h:Heap) (H:Hp):(hidT h H).objs.size=h.objs.size:=PySem.W.hideAll_size _ _
theorem hidT_get {h:Heap} {H:Hp} {b:Addr} {o:Obj} (e:h.get? b=some o) (n:H b=none):(hidT h H).get? b=some o:=
 PySem.W.hideAll_get _ e λ hm=>by
  have q:(H b).isSome=true:=(iZ.mp hm).2;rw [n] at q;simp at q
theorem of_hidT {h:Heap} {H:Hp} {b:Addr} {o:Obj} (e:(hidT h H).get? b=some o):h.get? b=some o/\H b=none:=by
 have e':h.get? b=some o:=PySem.W.of_hideAll (trk h H) e;refine ⟨e',?_⟩
 cases q:H b with
 | none=>rfl
 | some x=>
  have hm:b∈trk h H:=iZ.mpr ⟨List.mem_range.mpr (hJ e'),by simp [q]⟩;have z:(hidT h H).get? b=none:=PySem.W.hideAll_none (trk h H) hm;rw [z] at e;cases e
noncomputable def allNews (g h:Heap) (L:Addr):List (Addr × Obj):=(List.range h.objs.size).filterMap λ a=>if a=L∨(g.get? a).isSome=true then none else (h.get? a).map λ o=>(a,o)
noncomputable def rest (g h:Heap) (L d:Addr):List (Addr × Obj):=(allNews g h L).filter λ p=>decide (p.1≠d)
end L2
namespace L2
open PySem PySem.Spec PyProof.Rows
structure Mod (K:W.Frag) (mg:Str->Option Value) (base:Heap):Prop where
 kin:K.In base
 glob:base.Ns mainGlobals mg
 blt:∃ mb,base.Ns builtinsNs mb/\∀ x:Str,x≠"__name__"->mb x=bootBuiltins x
 nolimit:base.NoLimit
structure Cx where
 prog:Program
 w:World
 K:W.Frag
 mg:Str->Option Value
 base:Heap
 A:Around
 N:List Str
 s₀:Shared
 H₀:Hp
 env:Env
 outer:List Env
 stack:List Env
 ex:List Addr
 fn:Str->Bool
 calm:Bool
 pn:List (Addr × Obj)
 xe:Value->Shared->Prop
noncomputable def frs (l:List Env):List Addr:=l.filterMap (·.frame)
noncomputable abbrev Cx.fs (X:Cx):List Addr:=frs X.outer
noncomputable def Vis (sc:Scope) (x:Str):Prop:=sc.names.lookup x=some .local∨sc.names.lookup x=some .cell∨sc.names.lookup x=some .free
noncomputable def Loc (sc:Scope) (x:Str):Prop:=sc.names.lookup x=some .local∨sc.names.lookup x=some .cell
noncomputable def Look (env:Env) (h:Heap) (m:Str->Option Value) (x:Str) (u:Value):Prop:=
 (env.kindOf x=some .local/\m x=some u)∨((env.kindOf x=some .cell∨env.kindOf x=some .free)/\∃ c,env.cells.lookup x=some c/\h.IsCell c (some u))
structure Cx.Ok (X:Cx):Prop where
 mod:Mod X.K X.mg X.base
 kind:X.env.scope.kind=.function
 glob:X.env.globals=mainGlobals
 blt:X.env.builtins=builtinsNs
 above:X.s₀.heap.objs.size<=X.env.locals
 inj:∀ x y c,X.env.cells.lookup x=some c->X.env.cells.lookup y=some c->x=y
 has:∀ x,(X.env.kindOf x=some .cell∨X.env.kindOf x=some .free)->∃ c,X.env.cells.lookup x=some c
 cab:∀ x c,X.fn x=true->X.env.cells.lookup x=some c->X.s₀.heap.objs.size<=c
 hd:X.calm=true->X.A.handled=none
 frames:X.A.frames=some X.stack
 stk:X.stack=X.outer∨(X.stack=X.env::X.outer/\X.env.frame=some X.env.locals)
 exf:∀ b∈X.ex,b≠X.env.locals/\∀ x c,X.env.cells.lookup x=some c->c≠b
 bs:∀ b o,X.base.get? b=some o->X.s₀.heap.get? b=some o/\X.H₀ b=none
 bsz:X.base.objs.size<=X.s₀.heap.objs.size
 noex:∀ b o,X.base.get? b=some o->b ∉ X.ex
 exfs:∀ b∈X.ex,b ∉ X.fs
 funs:X.s₀.heap.FunFrames X.base X.outer
 frf:∀ b∈X.fs,X.H₀ b=none
structure Inv (X:Cx) (pins:List (Addr × Obj)) (σ:List (Option V)) (H:Hp) (s:Shared):Prop where
 ok:X.Ok
 os:s.os=X.s₀.os
 bare:AllBare s.gens
 base:Un X.fs X.ex X.H₀ H X.s₀.heap s.heap
 loc:∃ m,s.heap.Ns X.env.locals m/\∀ (i:Nat) (x:Str) (v:V),X.N[i]?=some x->σ[i]?=some (some v)->Vis X.env.scope x->∃ u,RelV v u/\Look X.env s.heap m x u
 cell:∀ x c,X.env.cells.lookup x=some c->∃ v,s.heap.IsCell c v
 free:H X.env.locals=none
 freeC:∀ x c,X.env.cells.lookup x=some c->H c=none
 pin:∀ p∈X.pn++pins,s.heap.get? p.1=some p.2/\H p.1=none/\p.1≠X.env.locals/\p.1 ∉ X.fs/\∀ v,p.2.data≠.cell v
 hok:HOk X.prog X.w H s.heap
 len:σ.length=X.N.length
section
variable {X:Cx} {pins:List (Addr × Obj)} {σ:List (Option V)} {H H':Hp} {s:Shared} {h':Heap}
theorem Cx.Ok.nofr (ok:X.Ok) {b:Addr} {o:Obj} (e:X.base.get? b=some o):b ∉ X.fs:=λ hb=>by
 have:=(ok.funs.mem hb).1
 rw [e] at this;cases this
theorem Inv.bs (I:Inv X pins σ H s):∀ b o,X.base.get? b=some o->s.heap.get? b=some o/\H b=none:=λ b o e=>
 ⟨I.base.keep b o (I.ok.bs b o e).1 (I.ok.bs b o e).2 (I.ok.nofr e) (I.ok.noex b o e),I.base.free b o (I.ok.bs b o e).1 (I.ok.bs b o e).2 (I.ok.noex b o e)⟩
theorem Inv.bk (I:Inv X pins σ H s):∀ b o,X.base.get? b=some o->s.heap.get? b=some o:=λ b o e=>(I.bs b o e).1
theorem Inv.mod (I:Inv X pins σ H s):Mod X.K X.mg X.base:=I.ok.mod
theorem Inv.kIn (I:Inv X pins σ H s):X.K.In s.heap:=I.ok.mod.kin.keeps I.bk
theorem Inv.lt (I:Inv X pins σ H s):X.env.locals<s.heap.objs.size:=by
 obtain ⟨_,hn,_⟩:=I.loc
 exact hn.lt
theorem Inv.sz (I:Inv X pins σ H s):X.s₀.heap.objs.size<=s.heap.objs.size:=gZ I.ok.above (Nat.le_of_lt I.lt)
theorem Inv.nofs (I:Inv X pins σ H s) {a:Addr} (h:s.heap.objs.size<=a):a ∉ X.fs:=λ hb=>by
 obtain ⟨_,o,ho,_⟩:=I.ok.funs.mem hb;exact absurd (ic (hJ ho) (gZ I.sz h)) (i4 _)
theorem Inv.cne (I:Inv X pins σ H s):∀ x c,X.env.cells.lookup x=some c->c≠X.env.locals:=λ x c e z=>by
 obtain ⟨v,o,ho,hd⟩:=I.cell x c e;obtain ⟨m,⟨o',es,ep,ho',hd',_⟩,_⟩:=I.loc;rw [z,ho'] at ho;cases ho;rw [hd'] at hd;cases hd
theorem Inv.funs (I:Inv X pins σ H s):s.heap.FunFrames X.base X.outer:=by
 have all:∀ (l:List Env),(∀ b∈frs l,b∈X.fs)->X.s₀.heap.FunFrames X.base l->s.heap.FunFrames X.base l:=by
  intro l
  induction l with
  | nil=>intro _ _;trivial
  | cons env r ih=>
   intro hs hl;obtain ⟨hk,⟨L,o,hf,hn,ho,hd⟩,hr⟩:=hl;have hL:L∈X.fs:=hs L (by unfold frs;rw [List.filterMap_cons,hf];exact ie);obtain ⟨sl,e⟩:=I.base.slot L o ho (I.ok.frf L hL) hL λ z=>I.ok.exfs L z hL;exact ⟨hk,⟨L,_,hf,hn,e,hd⟩,ih (λ b hb=>hs b (by unfold frs;rw [List.filterMap_cons,hf];exact g6 _ hb)) hr⟩
 exact all X.outer (λ _ hb=>hb) I.ok.funs
theorem Inv.stack (I:Inv X pins σ H s):s.heap.FunFrames X.base X.stack:=by
 rcases I.ok.stk with e | ⟨e,hf⟩
 ·rw [e];exact I.funs
 ·rw [e];obtain ⟨m,hn,_⟩:=I.loc;refine .cons (by rw [I.ok.kind];decide) hf hn ?_ I.funs;exact Heap.get?_none_of_le (gZ I.ok.bsz I.ok.above)
theorem Inv.stkSub (I:Inv X pins σ H s):∀ b∈frs X.stack,b∈X.env.locals::X.fs:=λ b hb=>by
 rcases I.ok.stk with e | ⟨e,hf⟩
 ·rw [e] at hb;exact g6 _ hb
 ·rw [e] at hb;unfold frs at hb;rw [List.filterMap_cons,hf] at hb;exact hb
theorem Inv.stkFree (I:Inv X pins σ H s):∀ b∈frs X.stack,H b=none:=λ b hb=>by
 rcases hV.mp (I.stkSub b hb) with e | hb
 ·rw [e];exact I.free
 ·obtain ⟨_,o,ho,_⟩:=I.ok.funs.mem hb;exact I.base.free b o ho (I.ok.frf b hb) λ z=>I.ok.exfs b z hb
theorem Inv.step {g':Array GenState} {t':Nat} {d':Drawn} {ch:List Addr} (I:Inv X pins σ H s)
  (hch:∀ b∈ch,(b∈X.ex∨X.s₀.heap.objs.size<=b)/\b≠X.env.locals/\(∀ x c,X.env.cells.lookup x=some c->c≠b)/\∀ p∈X.pn++pins,p.1≠b)
  (keep:∀ b o,b≠X.env.locals->b ∉ X.fs->b ∉ ch->s.heap.get? b=some o->H b=none->h'.get? b=some o)
  (slot:∀ b o,b≠X.env.locals->b∈X.fs->b ∉ ch->s.heap.get? b=some o->H b=none->∃ sl,h'.get? b=some { o with slots:=sl }) (free:∀ b o,b ∉ ch->s.heap.get? b=some o->H b=none->H' b=none)
  (there:∀ b o,b ∉ ch->s.heap.get? b=some o->∃ o',h'.get? b=some o')
  (tups:∀ b xs,H b=some (.tup xs)->H' b=some (.tup xs)) (frzs:∀ b o u,H b=some (.frz o u)->H' b=some (.frz o u)) (tbls:∀ b ps,H b=some (.tbl ps)->∃ more,H' b=some (.tbl (ps++more)))
  (ns:∀ m,s.heap.Ns X.env.locals m->h'.Ns X.env.locals m) (hok:HOk X.prog X.w H' h') (hg:AllBare g') :
  Inv X pins σ H' { s with heap:=h',gens:=g',drawn:=d',toks:=t' }:=by
 have neL:∀ b o,X.s₀.heap.get? b=some o->b≠X.env.locals:=λ b o e=>iw (ic (hJ e) I.ok.above)
 have neC:∀ b o,X.s₀.heap.get? b=some o->b ∉ X.ex->b ∉ ch:=λ b o e hx hb=>by
  rcases (hch b hb).1 with z | z
  ·exact hx z
  ·exact absurd (ic (hJ e) z) (i4 _)
 have cellK:∀ x c,X.env.cells.lookup x=some c->∀ v,s.heap.IsCell c v->h'.IsCell c v:=λ x c e v ⟨o,ho,hd⟩=>by
  have nch:c ∉ ch:=λ z=>(hch c z).2.2.1 x c e rfl;by_cases hc:c∈X.fs
  ·obtain ⟨sl,q⟩:=slot c o (I.cne x c e) hc nch ho (I.freeC x c e);exact ⟨_,q,hd⟩
  ·exact ⟨o,keep c o (I.cne x c e) hc nch ho (I.freeC x c e),hd⟩
 refine ⟨I.ok,I.os,hg,⟨λ b o e n hb hx=>?_,λ b o e n hb hx=>?_,λ b o e n hx=>?_,λ b o e hx=>?_,λ b xs e=>tups b xs (I.base.tups b xs e),λ b o xs e=>frzs b o xs (I.base.frzs b o xs e),λ b ps e=>?_⟩,?_,λ x c e=>?_,?_,λ x c e=>?_,λ p hp=>?_,hok,I.len⟩
 ·exact keep b o (neL b o e) hb (neC b o e hx) (I.base.keep b o e n hb hx) (I.base.free b o e n hx)
 ·obtain ⟨sl,e1⟩:=I.base.slot b o e n hb hx;obtain ⟨sl',e2⟩:=slot b _ (neL b o e) hb (neC b o e hx) e1 (I.base.free b o e n hx);exact ⟨sl',e2⟩
 ·obtain ⟨o',e1⟩:=I.base.there b o e hx;exact free b o' (neC b o e hx) e1 (I.base.free b o e n hx)
 ·obtain ⟨o',e1⟩:=I.base.there b o e hx;exact there b o' (neC b o e hx) e1
 ·obtain ⟨m1,e1⟩:=I.base.tbls b ps e;obtain ⟨m2,e2⟩:=tbls b _ e1;exact ⟨m1++m2,by rw [e2,Array.append_assoc]⟩
 ·obtain ⟨m,hn,hl⟩:=I.loc;refine ⟨m,ns m hn,λ i x v e1 e2 e3=>?_⟩;obtain ⟨u,r,l⟩:=hl i x v e1 e2 e3;refine ⟨u,r,?_⟩;rcases l with l | ⟨k,c,e,z⟩
  ·exact .inl l
  ·exact .inr ⟨k,c,e,cellK x c e _ z⟩
 ·obtain ⟨v,z⟩:=I.cell x c e;exact ⟨v,cellK x c e v z⟩
 ·obtain ⟨m,⟨o,_,_,ho,_⟩,_⟩:=I.loc;exact free _ o (λ z=>(hch _ z).2.1 rfl) ho I.free
 ·obtain ⟨v,o,ho,hd⟩:=I.cell x c e;exact free c o (λ z=>(hch c z).2.2.1 x c e rfl) ho (I.freeC x c e)
 ·obtain ⟨e,n,ne,nf,d⟩:=I.pin p hp;have nch:p.1 ∉ ch:=λ z=>(hch p.1 z).2.2.2 p hp rfl;exact ⟨keep p.1 p.2 ne nf nch e n,free p.1 p.2 nch e n,ne,nf,d⟩
theorem Inv.un {t':Nat} (I:Inv X pins σ H s) (u:Un X.fs [] H H' s.heap h') (hok:HOk X.prog X.w H' h'):Inv X pins σ H' { s with heap:=h',toks:=t' }:=by
 obtain ⟨m,⟨o,es,ep,ho,r⟩,_⟩:=id I.loc;obtain ⟨sl,hL⟩:=u.any ho I.free (by simp)
 exact I.step (g':=s.gens) (d':=s.drawn) (ch:=[]) (λ _ z=>nomatch z) (λ b o _ hb _ e n=>u.keep b o e n hb (by simp)) (λ b o _ hb _ e n=>u.slot b o e n hb (by simp)) (λ b o _ e n=>u.free b o e n (by simp)) (λ b o _ e=>u.there b o e (by simp)) u.tups u.frzs u.tbls (λ m' hm=>by
  obtain ⟨o',es',ep',ho',r'⟩:=hm;rw [ho] at ho';cases ho';exact ⟨_,es',ep',hL,r'⟩) hok I.bare
theorem Inv.call {g':Array GenState} {t':Nat} {d':Drawn} {ch:List Addr} (I:Inv X pins σ H s) (u:Un (frs X.stack) ch H H' s.heap h') (hok:HOk X.prog X.w H' h') (hg:AllBare g')
  (hch:∀ b∈ch,(b∈X.ex∨X.s₀.heap.objs.size<=b)/\b≠X.env.locals/\(∀ x c,X.env.cells.lookup x=some c->c≠b)/\∀ p∈X.pn++pins,p.1≠b) :
  Inv X pins σ H' { s with heap:=h',gens:=g',drawn:=d',toks:=t' }:=by
 obtain ⟨m,⟨o,es,ep,ho,r⟩,_⟩:=id I.loc;obtain ⟨sl,hL⟩:=u.any ho I.free λ z=>(hch _ z).2.1 rfl
 exact I.step (ch:=ch) hch (λ b o hL hb hc e n=>u.keep b o e n (λ z=>(hV.mp (I.stkSub b z)).elim hL hb) hc) (λ b o _ _ hc e n=>u.any e n hc) (λ b o hc e n=>u.free b o e n hc) (λ b o hc e=>u.there b o e hc) u.tups u.frzs u.tbls (λ m' hm=>by
  obtain ⟨o',es',ep',ho',r'⟩:=hm;rw [ho] at ho';cases ho';exact ⟨_,es',ep',hL,r'⟩) hok hg
theorem Inv.turned {t':Nat} {it:Addr} (I:Inv X pins σ H s) (k:∀ b o,b≠it->s.heap.get? b=some o->h'.get? b=some o) (hn:H it=none) (hL:it≠X.env.locals)
  (h1:it∈X.ex∨X.s₀.heap.objs.size<=it) (h2:∀ x c,X.env.cells.lookup x=some c->c≠it) (h3:∀ p∈X.pn++pins,p.1≠it):Inv X pins σ H { s with heap:=h',toks:=t' }:=by
 have nit:∀ b u,H b=some u->b≠it:=λ b u e z=>by rw [z,hn] at e;cases e
 refine I.step (g':=s.gens) (d':=s.drawn) (ch:=[it]) (λ b hb=>?_) (λ b o _ _ hc e _=>k b o (λ z=>hc (by simp [z])) e) (λ b o _ _ hc e _=>⟨o.slots,k b o (λ z=>hc (by simp [z])) e⟩) (λ _ _ _ _ n=>n)
  (λ b o hc e=>⟨o,k b o (λ z=>hc (by simp [z])) e⟩) (λ _ _ e=>e) (λ _ _ _ e=>e) (λ b ps e=>⟨#[],by rw [e];simp⟩) (λ m hm=>?_) (λ b u e=>?_) I.bare
 ·have e:b=it:=by simpa using hb
  subst e;exact ⟨h1,hL,h2,h3⟩
 ·obtain ⟨o,es,ep,ho,r⟩:=hm;exact ⟨o,es,ep,k _ o (Ne.symm hL) ho,r⟩
 ·refine (I.hok b u e).stay (λ c v hc q=>k c v ?_ q) (λ _ q=>q) λ _ _ q=>q;rcases hc with z | z
  ·rw [z];exact nit b u e
  ·exact nit c _ z
theorem Inv.tok (I:Inv X pins σ H s) (t:Nat):Inv X pins σ H { s with toks:=t }:=I.un (h':=s.heap) (t':=t) Un.refl I.hok
theorem Inv.kept {t':Nat} (I:Inv X pins σ H s) (k:∀ b u,s.heap.get? b=some u->h'.get? b=some u):Inv X pins σ H { s with heap:=h',toks:=t' }:=I.un (Un.kept k) (I.hok.kept k)
theorem Inv.laid {a:Addr} {o:HO} {t':Nat} (I:Inv X pins σ H s) (k:∀ b u,s.heap.get? b=some u->h'.get? b=some u) (hp:s.heap.objs.size<=a) (new:ObjOk X.prog X.w (upd H a o) h' a o) :
  Inv X pins σ (upd H a o) { s with heap:=h',toks:=t' }:=I.un (Un.laid k hp (I.hok.fresh hp)) (I.hok.laid k hp new)
theorem Inv.write {x e:Addr} {o:HO} {t':Nat} (I:Inv X pins σ H s) (mu:Mut (H x)) (he:e=x∨H e=some (.own x)) (k:∀ b u,b≠e->s.heap.get? b=some u->h'.get? b=some u) (heo:∃ u,h'.get? e=some u)
  (new:ObjOk X.prog X.w (upd H x o) h' x o):Inv X pins σ (upd H x o) { s with heap:=h',toks:=t' }:=I.un (Un.write mu he k heo) (I.hok.write mu he k heo new)
theorem Inv.pins_of {pins':List (Addr × Obj)} (I:Inv X pins σ H s) (h:∀ p∈pins',s.heap.get? p.1=some p.2/\H p.1=none/\p.1≠X.env.locals/\p.1 ∉ X.fs/\∀ v,p.2.data≠.cell v):Inv X pins' σ H s:=
 ⟨I.ok,I.os,I.bare,I.base,I.loc,I.cell,I.free,I.freeC,λ p hp=>(g7.mp hp).elim (λ z=>I.pin p (gU _ z)) (h p),I.hok,I.len⟩
theorem nodup_ix {N:List Str} (hN:N.Nodup) {i j:Nat} {x:Str} (a:N[i]?=some x) (b:N[j]?=some x):i=j:=by
 obtain ⟨h1,e1⟩:=gH.mp a;obtain ⟨h2,e2⟩:=gH.mp b;exact (List.getElem_inj hN).mp (e1.trans e2.symm)
theorem store_ok2 {M:Model} {A:Around} {E:Value->Shared->Prop} {i:Nat} {x:Str} {v:V} {u:Value} {Q:Unit->Shared->Prop} (I:Inv X pins σ H s) (hN:X.N.Nodup) (hi:X.N[i]?=some x) (hx:Loc X.env.scope x) (r:RelV v u)
  (h:∀ s',Inv X pins (σ.set i (some v)) H s'->(∃ a,Heap.SameBut a s.heap s'.heap/\(a=X.env.locals∨X.env.cells.lookup x=some a))->Q () s') (hf:X.fn x=true∨X.env.scope.names.lookup x=some .local:=by first | exact .inl rfl | exact .inr rfl | assumption):wpAny M A (storeName X.env x u) Q E s:=by
 obtain ⟨m,hn,hl⟩:=id I.loc;have hcls:(X.env.scope.kind == .class || (X.env.scope.kind == .module && X.env.locals != X.env.globals))=false:=by rw [I.ok.kind];rfl
 have hiσ:i < σ.length:=by rw [I.len];exact (gH.mp hi).1
 have cne:=I.cne
 have tracked:∀ {a:Addr} {h':Heap},(∃ o,s.heap.get? a=some o/\H a=none)->Heap.SameBut a s.heap h'->HOk X.prog X.w H h':=λ {a h'} ha hs b ob e=>by
  obtain ⟨_,_,hfree⟩:=ha;refine (I.hok b ob e).stay (λ c w' hc q=>(hs.2 c ?_).trans q) (λ _ q=>q) λ _ _ q=>q;rintro rfl;rcases hc with rfl | hc
  ·rw [hfree] at e;cases e
  ·rw [hfree] at hc;cases hc
 rcases hx with hk | hk
 ·refine wpAny_storeName_local hk hn (λ h' hn' hs=>?_) hcls;obtain ⟨oL,_,_,hoL,_⟩:=id hn;refine h _ ⟨I.ok,I.os,I.bare,⟨λ b o e n hb hx=>?_,λ b o e n hb hx=>?_,I.base.free,λ b o e hx=>?_,I.base.tups,I.base.frzs,I.base.tbls⟩,⟨_,hn',λ j y v' e1 e2 e3=>?_⟩,λ y c e=>?_,I.free,I.freeC,λ p hp=>?_,tracked ⟨oL,hoL,I.free⟩ hs,by simpa using I.len⟩ ⟨_,hs,.inl rfl⟩
  ·exact (hs.2 b (iw (ic (hJ e) I.ok.above))).trans (I.base.keep b o e n hb hx)
  ·obtain ⟨sl,e1⟩:=I.base.slot b o e n hb hx;exact ⟨sl,(hs.2 b (iw (ic (hJ e) I.ok.above))).trans e1⟩
  ·obtain ⟨o',e1⟩:=I.base.there b o e hx;exact ⟨o',(hs.2 b (iw (ic (hJ e) I.ok.above))).trans e1⟩
  ·by_cases hj:j=i
   ·subst hj;rw [hi] at e1;cases e1;rw [List.getElem?_set_self hiσ] at e2
    cases e2;exact ⟨u,r,.inl ⟨hk,by simp⟩⟩
   ·rw [List.getElem?_set_ne (Ne.symm hj)] at e2;obtain ⟨u',r',q⟩:=hl j y v' e1 e2 e3;refine ⟨u',r',?_⟩;rcases q with ⟨k,e⟩ | ⟨k,c,e,z⟩
    ·refine .inl ⟨k,?_⟩
     have:y≠x:=λ e=>hj (nodup_ix hN e1 (e ▸ hi))
     simp [this,e]
    ·exact .inr ⟨k,c,e,z.sameBut hs (cne y c e)⟩
  ·obtain ⟨w',z⟩:=I.cell y c e;exact ⟨w',z.sameBut hs (cne y c e)⟩
  ·obtain ⟨e,n,ne,nf,d⟩:=I.pin p hp;exact ⟨(hs.2 p.1 ne).trans e,n,ne,nf,d⟩
 ·have hfn:X.fn x=true:=by
   rcases hf with z | z
   ·exact z
   ·rw [z] at hk;cases hk
  obtain ⟨c,hc⟩:=I.ok.has x (.inl hk);obtain ⟨w',z⟩:=I.cell x c hc;refine wpAny_storeName_cell I.ok.kind hk hc z (λ h' hc' hs=>?_);obtain ⟨oc,hoc,hocd⟩:=id z;refine h { s with heap:=h' } ⟨I.ok,I.os,I.bare,⟨λ b o e n hb hx=>?_,λ b o e n hb hx=>?_,I.base.free,λ b o e hx=>?_,I.base.tups,I.base.frzs,I.base.tbls⟩,⟨m,hn.sameBut hs (Ne.symm (cne x c hc)),λ j y v' e1 e2 e3=>?_⟩,λ y c' e=>?_,I.free,I.freeC,λ p hp=>?_,tracked ⟨oc,hoc,I.freeC x c hc⟩ hs,by simpa using I.len⟩ ⟨c,hs,.inr hc⟩
  ·exact (hs.2 b (iw (ic (hJ e) (I.ok.cab x c hfn hc)))).trans (I.base.keep b o e n hb hx)
  ·obtain ⟨sl,e1⟩:=I.base.slot b o e n hb hx;exact ⟨sl,(hs.2 b (iw (ic (hJ e) (I.ok.cab x c hfn hc)))).trans e1⟩
  ·obtain ⟨o',e1⟩:=I.base.there b o e hx;exact ⟨o',(hs.2 b (iw (ic (hJ e) (I.ok.cab x c hfn hc)))).trans e1⟩
  ·by_cases hj:j=i
   ·subst hj;rw [hi] at e1;cases e1;rw [List.getElem?_set_self hiσ] at e2
    cases e2;exact ⟨u,r,.inr ⟨.inl hk,c,hc,hc'⟩⟩
   ·rw [List.getElem?_set_ne (Ne.symm hj)] at e2;obtain ⟨u',r',q⟩:=hl j y v' e1 e2 e3;refine ⟨u',r',?_⟩;rcases q with q | ⟨k,c',e,z'⟩
    ·exact .inl q
    ·refine .inr ⟨k,c',e,z'.sameBut hs ?_⟩;rintro rfl;exact hj (nodup_ix hN e1 (I.ok.inj _ _ _ e hc ▸ hi))
  ·by_cases hcc:c'=c
   ·subst hcc;exact ⟨_,hc'⟩
   ·obtain ⟨w2,z2⟩:=I.cell y c' e;exact ⟨w2,z2.sameBut hs hcc⟩
  ·obtain ⟨e,n,ne,nf,d⟩:=I.pin p hp;refine ⟨(hs.2 p.1 ?_).trans e,n,ne,nf,d⟩;intro q;rw [q,hoc] at e;have q':oc=p.2:=hZ e;exact d w' (by rw [<- q'];exact hocd)
theorem store_ok {M:Model} {A:Around} {E:Value->Shared->Prop} {i:Nat} {x:Str} {v:V} {u:Value} {Q:Unit->Shared->Prop} (I:Inv X pins σ H s) (hN:X.N.Nodup) (hi:X.N[i]?=some x) (hx:Loc X.env.scope x) (r:RelV v u)
  (h:∀ s',Inv X pins (σ.set i (some v)) H s'->Q () s') (hf:X.fn x=true∨X.env.scope.names.lookup x=some .local:=by first | exact .inl rfl | exact .inr rfl | assumption):wpAny M A (storeName X.env x u) Q E s:=
 store_ok2 I hN hi hx r (λ s' I' _=>h s' I') hf
theorem Inv.call' {s':Shared} {ch:List Addr} (I:Inv X pins σ H s) (ho:s'.os=s.os) (u:Un (frs X.stack) ch H H' s.heap s'.heap) (hok:HOk X.prog X.w H' s'.heap) (hg:AllBare s'.gens)
  (hch:∀ b∈ch,(b∈X.ex∨X.s₀.heap.objs.size<=b)/\b≠X.env.locals/\(∀ x c,X.env.cells.lookup x=some c->c≠b)/\∀ p∈X.pn++pins,p.1≠b):Inv X pins σ H' s':=by
 obtain ⟨h',g',d',t',o'⟩:=s';have e:o'=s.os:=ho;subst e;exact I.call (g':=g') (t':=t') (d':=d') u hok hg hch
end
noncomputable abbrev XK:=Value->Option Addr->Hp->Prop
noncomputable abbrev St:=List (Option V)
noncomputable abbrev VK:=V->Hp->Prop
noncomputable abbrev TE:=St->Hp->VK->Prop
noncomputable abbrev TT:=St->Hp->(Bool->Hp->Prop)->Prop
noncomputable abbrev TA:=St->Hp->(List V->Hp->Prop)->Prop
structure Ends where
 nx:St->Hp->Prop
 rt:VK
 bk:St->Hp->Prop:=λ _ _=>False
 ct:St->Hp->Prop:=λ _ _=>False
noncomputable abbrev TS:=Ends->St->Hp->Prop
noncomputable def EP (X:Cx) (pins:List (Addr × Obj)) (σ:St) (Q:VK) (u:Value) (s':Shared):Prop:=∃ v H',Inv X pins σ H' s'/\RelV v u/\Q v H'
noncomputable def TP (X:Cx) (pins:List (Addr × Obj)) (σ:St) (Q:Bool->Hp->Prop) (b:Bool) (s':Shared):Prop:=∃ H',Inv X pins σ H' s'/\Q b H'
noncomputable def AP (X:Cx) (pins:List (Addr × Obj)) (σ:St) (Q:List V->Hp->Prop) (us:List Value) (s':Shared):Prop:=∃ vs H',Inv X pins σ H' s'/\Vals vs us/\Q vs H'
noncomputable def SP (X:Cx) (pins:List (Addr × Obj)) (D:Ends) (f:Flow) (s':Shared):Prop:=
 match f with
 | .next=>∃ σ' H',Inv X pins σ' H' s'/\D.nx σ' H'
 | .brk=>∃ σ' H',Inv X pins σ' H' s'/\D.bk σ' H'
 | .cont=>∃ σ' H',Inv X pins σ' H' s'/\D.ct σ' H'
 | .ret u=>∃ v σ' H',Inv X pins σ' H' s'/\RelV v u/\D.rt v H'
noncomputable def PE (X:Cx) (e:Expr) (t:TE):Prop:=
 ∀ (pins:List (Addr × Obj)) (s:Shared) (σ:St) (H:Hp) (Q:VK),Inv X pins σ H s->t σ H Q->wpAny (model X.prog X.w) X.A (eval e X.env) (EP X pins σ Q) X.xe s
noncomputable def PT (X:Cx) (e:Expr) (t:TT):Prop:=
 ∀ (pins:List (Addr × Obj)) (s:Shared) (σ:St) (H:Hp) (Q:Bool->Hp->Prop),Inv X pins σ H s->t σ H Q->wpAny (model X.prog X.w) X.A (isTrue e X.env (eval e X.env)) (TP X pins σ Q) X.xe s
noncomputable def PW (X:Cx) (e:Expr) (t:TT):Prop:=
 ∀ (whole:Sem Value) (pins:List (Addr × Obj)) (s:Shared) (σ:St) (H:Hp) (Q:Bool->Hp->Prop),Inv X pins σ H s->t σ H Q->wpAny (model X.prog X.w) X.A (isTrue e X.env whole) (TP X pins σ Q) X.xe s
theorem PW.pt {X:Cx} {e:Expr} {t:TT} (h:PW X e t):PT X e t:=h _
noncomputable def PA (X:Cx) (es:List Expr) (t:TA):Prop:=
 ∀ (pos:Pos) (pins:List (Addr × Obj)) (s:Shared) (σ:St) (H:Hp) (Q:List V->Hp->Prop),Inv X pins σ H s->t σ H Q->wpAny (model X.prog X.w) X.A (spliced (backTo pos (starEach es X.env))) (AP X pins σ Q) X.xe s
noncomputable def PS (X:Cx) (st:Stmt) (t:TS):Prop:=
 ∀ (pins:List (Addr × Obj)) (s:Shared) (σ:St) (H:Hp) (D:Ends),Inv X pins σ H s->t D σ H->wpAny (model X.prog X.w) X.A (exec st X.env) (SP X pins D) X.xe s
noncomputable def PSs (X:Cx) (st:List Stmt) (t:TS):Prop:=
 ∀ (pins:List (Addr × Obj)) (s:Shared) (σ:St) (H:Hp) (D:Ends),Inv X pins σ H s->t D σ H->wpAny (model X.prog X.w) X.A (execs st X.env) (SP X pins D) X.xe s
theorem thn {α:Type} {t:Sem α} {Q Q':α->Shared->Prop} {M:Model} {A:Around} {E:Value->Shared->Prop} {s:Shared} (h:wpAny M A t Q E s) (hQ:∀ a s,Q a s->Q' a s):wpAny M A t Q' E s:=i9 h hQ λ _ _ x=>x
end L2
namespace L2
open PySem PySem.Spec PyProof.Rows
section
variable {X:Cx}
inductive ItVar (i:Nat) (σ:St) (H:Hp) (Q:VK):Prop
 | mk (v:_) (h1:σ[i]?=some (some v)) (h2:Q v H):ItVar i σ H Q
noncomputable def tVar (i:Nat):TE:=λ σ H Q=>ItVar i σ H Q
noncomputable def tC (v:V):TE:=λ _ H Q=>Q v H
theorem pe_var {i:Nat} {x:Str} {pos:Pos} (hN:X.N[i]?=some x) (hv:Vis X.env.scope x) (hd:(x == ("__debug__":Str))=false:=by decide) (hcd:(x == ("__classdict__":Str))=false:=by decide):PE X (.Name x pos) (tVar i):=by
 intro pins s σ H Q I h;obtain ⟨v,e,h⟩:=h;obtain ⟨m,hn,hl⟩:=I.loc;obtain ⟨u,r,l⟩:=hl i x v hN e hv;have fin:EP X pins σ Q u s:=⟨v,H,I,r,h⟩;rcases l with ⟨hk,hm⟩ | ⟨hk,c,hc,hcell⟩
 ·exact wpAny_Name (wpAny_loadName_local I.ok.kind hk hn hm fin) hd
 ·rcases hk with hk | hk
  ·exact wpAny_Name (wpAny_loadName_cell I.ok.kind hk hc hcell fin) hd
  ·exact wpAny_Name (wpAny_loadName_free I.ok.kind hk hc hcell fin hcd) hd
theorem ag {i j pos}:PE X (.Constant (.int i) j pos) (tC (.int i)):=λ _ _ _ H _ I h=>wpAny_Constant_int ⟨.int i,H,I.tok _,⟨_,rfl⟩,h⟩
theorem gl {b j pos}:PE X (.Constant (.bool b) j pos) (tC (.bl b)):=λ _ _ _ H _ I h=>Constant_bool ⟨.bl b,H,I,rfl,h⟩
theorem pe_non {j pos}:PE X (.Constant .none j pos) (tC .non):=λ _ _ _ H _ I h=>Constant_none ⟨.non,H,I,rfl,h⟩
theorem pe_str {x j pos}:PE X (.Constant (.str x) j pos) (tC (.str x)):=λ _ _ _ H _ I h=>Calls.Constant_str ⟨.str x,H,I.tok _,⟨_,rfl⟩,h⟩
noncomputable def Gl (X:Cx) (x:Str):Prop:=X.env.kindOf x=some .globalImplicit
theorem gA {E:Value->Shared->Prop} {pins:List (Addr × Obj)} {s:Shared} {σ:St} {H:Hp} {x:Str} {u:Value} {pos:Pos} {Q:Value->Shared->Prop} (I:Inv X pins σ H s) (hg:Gl X x) (hm:X.mg x=some u) (h:Q u s)
  (hd:(x == ("__debug__":Str))=false:=by decide):wpAny (model X.prog X.w) X.A (eval (.Name x pos) X.env) Q E s:=
 Calls.Name_function_global I.ok.kind hg (Calls.loadGlobal_global (by rw [I.ok.glob];exact I.mod.glob.keeps I.bk) hm h) hd
theorem ld_blt {E:Value->Shared->Prop} {pins:List (Addr × Obj)} {s:Shared} {σ:St} {H:Hp} {x:Str} {u:Value} {pos:Pos} {Q:Value->Shared->Prop} (I:Inv X pins σ H s) (hg:Gl X x) (hm:X.mg x=none) (hv:bootBuiltins x=some u) (h:Q u s)
  (hn:x≠"__name__":=by decide) (hd:(x == ("__debug__":Str))=false:=by decide):wpAny (model X.prog X.w) X.A (eval (.Name x pos) X.env) Q E s:=by
 obtain ⟨mb,h1,h2⟩:=I.mod.blt;exact Calls.Name_function_global I.ok.kind hg (Calls.loadGlobal_builtin (by rw [I.ok.glob];exact I.mod.glob.keeps I.bk) hm (by rw [I.ok.blt];exact h1.keeps I.bk) ((h2 x hn).trans hv) h) hd
theorem pe_glob {x:Str} {v:V} {u:Value} {pos:Pos} (hg:Gl X x) (hm:X.mg x=some u) (r:RelV v u) (hd:(x == ("__debug__":Str))=false:=by decide):PE X (.Name x pos) (tC v):=
 λ _ _ _ H _ I h=>gA I hg hm ⟨v,H,I,r,h⟩ hd
theorem gk {x:Str} {v:V} {u:Value} {pos:Pos} (hg:Gl X x) (hm:X.mg x=none) (hv:bootBuiltins x=some u) (r:RelV v u) (hn:x≠"__name__":=by decide) (hd:(x == ("__debug__":Str))=false:=by decide):PE X (.Name x pos) (tC v):=
 λ _ _ _ H _ I h=>ld_blt I hg hm hv ⟨v,H,I,r,h⟩ hn hd
noncomputable def t2I (ta tb:TE) (k:Int->Int->Hp->Prop):St->Hp->Prop:=λ σ H=>ta σ H λ x H1=>tb σ H1 λ y H2=>∃ i j,x=.int i/\y=.int j/\k i j H2
variable {a b:Expr} {ta tb:TE} {pos:Pos}
noncomputable def PC (X:Cx) (op:CmpOp) (a b:Expr) (t:TE):Prop:=
 ∀ (pins:List (Addr × Obj)) (s:Shared) (σ:St) (H:Hp) (Q:VK),Inv X pins σ H s->t σ H Q->
  wpAny (model X.prog X.w) X.A (eval a X.env) (λ v s₁=>wpAny (model X.prog X.w) X.A (eval b X.env) (λ u s₂=>wpAny (model X.prog X.w) X.A (compareOp op v u) (EP X pins σ Q) X.xe s₂) X.xe s₁) X.xe s
noncomputable def tCmp (p:Int->Int->Bool) (ta tb:TE):TE:=λ σ H Q=>t2I ta tb (λ i j H2=>Q (.bl (p i j)) H2) σ H
inductive ItB (Q:Bool->Hp->Prop) (x:V) (H1:Hp):Prop
 | mk (c:_) (h1:x=.bl c) (h2:Q c H1):ItB Q x H1
noncomputable def tB (t:TE):TT:=λ σ H Q=>t σ H λ x H1=>ItB Q x H1
theorem dQ {op:CmpOp} {t:TE} (h:PC X op a b t) (h1:behindInMarks op b=false:=by first | exact nobehind _ (by decide) (by decide) | rfl):PT X (.Compare a [op] [b] pos) (tB t):=by
 intro pins s σ H Q I hw;refine wpAny_isTrue_Compare1 (thn (h pins s σ H _ I hw) λ v s1 h1=>thn h1 λ u s2 h2=>thn h2 λ c s3 ⟨x,H1,I1,r1,q1⟩=>?_) h1;obtain ⟨d,rfl,q⟩:=q1
 cases r1;exact wpAny_truthy_bool ⟨H1,I1,q⟩
theorem cv {e:Expr} {t:TE} (h:PE X e t) (he:∀ whole,isTrue e X.env whole=(do let v <- whole;standAt e.pos;holding [v] (truthy v)):=by intro _;rfl):PT X e (tB t):=by
 intro pins s σ H Q I hw;refine isTrue_plain (thn (h pins s σ H _ I hw) λ v s1 ⟨x,H1,I1,r1,q1⟩=>?_) (he _);obtain ⟨d,rfl,q⟩:=q1
 cases r1;exact wpAny_truthy_bool ⟨H1,I1,q⟩
variable {tA tB':TT} {rest:List Expr}
noncomputable def tAnd (t u:TT):TT:=λ σ H Q=>t σ H λ c H1=>if c=true then u σ H1 Q else Q false H1
noncomputable def tOr (t u:TT):TT:=λ σ H Q=>t σ H λ c H1=>if c=true then Q true H1 else u σ H1 Q
noncomputable def tNot (t:TT):TT:=λ σ H Q=>t σ H λ c H1=>Q (!c) H1
theorem e9 (ha:PT X a tA):PW X (.BoolOp .And [a] pos) tA:=by
 intro wh pins s σ H Q I h;refine isTrue_and (thn (ha pins s σ H Q I h) λ c s1 e=>?_)
 cases c with
 | true=>exact isTrue_and_nil e
 | false=>exact e
theorem eP (ha:PT X a tA):PW X (.BoolOp .Or [a] pos) tA:=by
 intro wh pins s σ H Q I h;refine isTrue_or (thn (ha pins s σ H Q I h) λ c s1 e=>?_)
 cases c with
 | false=>exact isTrue_or_nil e
 | true=>exact e
theorem pw_and (ha:PT X a tA) (hb:PW X (.BoolOp .And (b::rest) pos) tB'):PW X (.BoolOp .And (a::b::rest) pos) (tAnd tA tB'):=by
 intro wh pins s σ H Q I h;refine isTrue_and (thn (ha pins s σ H _ I h) λ c s1 ⟨H1,I1,q1⟩=>?_)
 cases c with
 | true=>exact hb wh pins s1 σ H1 Q I1 q1
 | false=>exact ⟨H1,I1,q1⟩
theorem fG (ha:PT X a tA) (hb:PW X (.BoolOp .Or (b::rest) pos) tB'):PW X (.BoolOp .Or (a::b::rest) pos) (tOr tA tB'):=by
 intro wh pins s σ H Q I h;refine isTrue_or (thn (ha pins s σ H _ I h) λ c s1 ⟨H1,I1,q1⟩=>?_)
 cases c with
 | true=>exact ⟨H1,I1,q1⟩
 | false=>exact hb wh pins s1 σ H1 Q I1 q1
theorem dv (ha:PT X a tA):PT X (.UnaryOp .Not a pos) (tNot tA):=by
 intro pins s σ H Q I h;exact isTrue_not (ha pins s σ H (λ c H1=>Q (!c) H1) I h)
noncomputable def tAndV (ta tb:TE):TE:=λ σ H Q=>ta σ H λ x H1=>∃ c,x=.bl c/\if c=true then tb σ H1 Q else Q (.bl false) H1
noncomputable def tNotV (ta:TE):TE:=λ σ H Q=>ta σ H λ x H1=>∃ c,x=.bl c/\Q (.bl (!c)) H1
theorem pe_one {op} {t:TE} (h:PE X a t):PE X (.BoolOp op [a] pos) t:=λ pins s σ H Q I hw=>BoolOp_one (h pins s σ H Q I hw)
theorem pe_and (ha:PE X a ta) (hb:PE X (.BoolOp .And (b::rest) pos) tb):PE X (.BoolOp .And (a::b::rest) pos) (tAndV ta tb):=by
 intro pins s σ H Q I h;refine BoolOp_and (thn (ha pins s σ H _ I h) λ v s1 ⟨x,H1,I1,r1,q1⟩=>?_);obtain ⟨c,rfl,q1⟩:=q1
 cases r1;refine wpAny_truthy_bool ?_
 cases c with
 | true=>exact hb pins s1 σ H1 Q I1 q1
 | false=>exact ⟨.bl false,H1,I1,rfl,q1⟩
theorem pe_not (ha:PE X a ta):PE X (.UnaryOp .Not a pos) (tNotV ta):=by
 intro pins s σ H Q I h;refine UnaryOp_ (thn (ha pins s σ H _ I h) λ v s1 ⟨x,H1,I1,r1,q1⟩=>?_);obtain ⟨c,rfl,q1⟩:=q1
 cases r1;exact not_of (wpAny_truthy_bool ⟨.bl (!c),H1,I1,rfl,q1⟩)
noncomputable def tIf (t:TT) (ta tb:TE):TE:=λ σ H Q=>t σ H λ c H1=>if c=true then ta σ H1 Q else tb σ H1 Q
theorem pe_ifExp {c:Expr} (hc:PT X c tA) (ha:PE X a ta) (hb:PE X b tb):PE X (.IfExp c a b pos) (tIf tA ta tb):=by
 intro pins s σ H Q I h;refine wpAny_IfExp (thn (hc pins s σ H _ I h) λ d s1 ⟨H1,I1,q1⟩=>?_)
 cases d with
 | true=>exact ha pins s1 σ H1 Q I1 q1
 | false=>exact hb pins s1 σ H1 Q I1 q1
end
end L2
namespace L2
open PySem PySem.Spec PyProof.Rows
noncomputable def SqL (K:W.Frag) (H:Hp) (a:Addr) (xs:List V):Prop:=
 Rd H a (.lst xs)∨
  ∃ (o:Obj) (its:Array Value) (n:Nat),K.lookup a=some o/\o.cls=.type "list"/\o.dict=none/\o.data=.seq its n/\its.size<=sizeLine/\Vals xs its.toList
noncomputable def SqT (K:W.Frag) (H:Hp) (a:Addr) (xs:List V):Prop:=
 Rd H a (.tup xs)∨
  ∃ (o:Obj) (its:Array Value) (n:Nat),K.lookup a=some o/\o.cls=.type "tuple"/\o.data=.seq its n/\its.size<=sizeLine/\Vals xs its.toList
noncomputable def absV:Value->Option V
 | .none=>some .non
 | .bool b=>some (.bl b)
 | .int i _=>some (.int i)
 | .str x _=>some (.str x)
 | .bytes b _=>some (.byt b)
 | .float b _=>some (.flt b)
 | .ref a=>some (.ref a)
 | .type n=>some (.ty n)
 | _=>none
theorem RelV.abs {x:V} {u:Value} (r:RelV x u):absV u=some x:=by
 cases x with
 | non=>cases r;rfl
 | bl _=>cases r;rfl
 | int _=>obtain ⟨t,rfl⟩:=r;rfl
 | str _=>obtain ⟨t,rfl⟩:=r;rfl
 | byt _=>obtain ⟨t,rfl⟩:=r;rfl
 | flt _=>obtain ⟨t,rfl⟩:=r;rfl
 | ref _=>cases r;rfl
 | ty _=>cases r;rfl
theorem RelV.inj {x y:V} {u:Value} (r:RelV x u) (q:RelV y u):x=y:=hZ (r.abs.symm.trans q.abs)
theorem Vals.inj:∀ {xs ys:List V} {us:List Value},Vals xs us->Vals ys us->xs=ys
 | _,_,_,.nil,.nil=>rfl
 | _,_,_,.cons r t,.cons r' t'=>by rw [r.inj r',Vals.inj t t']
section
variable {X:Cx} {pins:List (Addr × Obj)} {σ:St} {H:Hp} {s:Shared} {a:Addr} {xs ys:List V}
theorem SqL.of {K:W.Frag} (h:H a=some (.lst xs)):SqL K H a xs:=.inl (.inl h)
theorem SqT.of {K:W.Frag} (h:H a=some (.tup xs)):SqT K H a xs:=.inl (.inl h)
theorem Inv.list (I:Inv X pins σ H s) (h:SqL X.K H a xs):∃ its:List Value,Vals xs its/\PlainL s.heap a its.toArray/\xs.length<=sizeLine:=by
 rcases h with h | ⟨o,its,n,hk,hc,hd,hs,hz,r⟩
 ·obtain ⟨z,its,n,r,e⟩:=h.ok I.hok;exact ⟨its,r,⟨_,n,e,rfl,rfl,rfl⟩,z⟩
 ·refine ⟨its.toList,r,⟨o,n,I.kIn a o hk,hc,hd,by simpa using hs⟩,?_⟩;have e:=r.length;simp only [Array.length_toList] at e;omega
theorem Inv.tuple (I:Inv X pins σ H s) (h:SqT X.K H a xs):∃ its:List Value,Vals xs its/\IsTup s.heap a its.toArray/\xs.length<=sizeLine:=by
 rcases h with h | ⟨o,its,n,hk,hc,hs,hz,r⟩
 ·obtain ⟨z,its,r,p⟩:=h.ok I.hok;exact ⟨its,r,p,z⟩
 ·refine ⟨its.toList,r,⟨o,I.kIn a o hk,hc,n,by simpa using hs⟩,?_⟩;have e:=r.length;simp only [Array.length_toList] at e;omega
theorem Inv.list_inj (I:Inv X pins σ H s) (h:SqL X.K H a xs) (h':SqL X.K H a ys):xs=ys:=by
 obtain ⟨its,r,⟨o,n,e,_,_,d⟩,_⟩:=I.list h;obtain ⟨its',r',⟨o',n',e',_,_,d'⟩,_⟩:=I.list h';rw [e] at e';cases e';rw [d] at d';injection d' with d1 _
 have:its=its':=by simpa using ix Array.toList d1
 subst this;exact r.inj r'
theorem Inv.tuple_inj (I:Inv X pins σ H s) (h:SqT X.K H a xs) (h':SqT X.K H a ys):xs=ys:=by
 obtain ⟨its,r,⟨o,e,_,n,d⟩,_⟩:=I.tuple h;obtain ⟨its',r',⟨o',e',_,n',d'⟩,_⟩:=I.tuple h';rw [e] at e';cases e';rw [d] at d';injection d' with d1 _
 have:its=its':=by simpa using ix Array.toList d1
 subst this;exact r.inj r'
end
noncomputable abbrev Cx.wish (X:Cx) (E:Value->Shared->Prop):Cx:={ X with xe:=E }
noncomputable abbrev Cx.nox (X:Cx):Cx:=X.wish λ _ _=>False
theorem Cx.Ok.wish {X:Cx} (ok:X.Ok) (E:Value->Shared->Prop):(X.wish E).Ok:=
 ⟨ok.mod,ok.kind,ok.glob,ok.blt,ok.above,ok.inj,ok.has,ok.cab,ok.hd,ok.frames,ok.stk,ok.exf,ok.bs,ok.bsz,ok.noex,ok.exfs,ok.funs,ok.frf⟩
theorem Cx.Ok.unwish {X:Cx} {E:Value->Shared->Prop} (ok:(X.wish E).Ok):X.Ok:=
 ⟨ok.mod,ok.kind,ok.glob,ok.blt,ok.above,ok.inj,ok.has,ok.cab,ok.hd,ok.frames,ok.stk,ok.exf,ok.bs,ok.bsz,ok.noex,ok.exfs,ok.funs,ok.frf⟩
section
variable {X:Cx} {pins:List (Addr × Obj)} {σ:St} {H:Hp} {s:Shared} {E:Value->Shared->Prop}
theorem Inv.wish (I:Inv X pins σ H s) (E:Value->Shared->Prop):Inv (X.wish E) pins σ H s:=⟨I.ok.wish E,I.os,I.bare,I.base,I.loc,I.cell,I.free,I.freeC,I.pin,I.hok,I.len⟩
theorem Inv.unwish (I:Inv (X.wish E) pins σ H s):Inv X pins σ H s:=⟨I.ok.unwish,I.os,I.bare,I.base,I.loc,I.cell,I.free,I.freeC,I.pin,I.hok,I.len⟩
theorem SP.unwish {D:Ends} {f:Flow} {s':Shared} (h:SP (X.wish E) pins D f s'):SP X pins D f s':=by
 cases f with
 | next=>obtain ⟨σ',H',I,q⟩:=h;exact ⟨σ',H',I.unwish,q⟩
 | brk=>obtain ⟨σ',H',I,q⟩:=h;exact ⟨σ',H',I.unwish,q⟩
 | cont=>obtain ⟨σ',H',I,q⟩:=h;exact ⟨σ',H',I.unwish,q⟩
 | ret u=>obtain ⟨v,σ',H',I,r,q⟩:=h;exact ⟨v,σ',H',I.unwish,r,q⟩
theorem PSs.nox {st:List Stmt} {t:TS} (h:PSs X.nox st t):PSs X st t:=λ pins s σ H D I hw=>
 i9 (h pins s σ H D (I.wish _) hw) (λ _ _ q=>q.unwish) λ _ _ z=>False.elim z
end
section
variable {X:Cx} {st:Stmt} {rest:List Stmt} {t u:TS} {e:Expr} {te:TE} {pos:Pos}
noncomputable def tNext:TS:=λ D σ H=>D.nx σ H
noncomputable def tSeq (t u:TS):TS:=λ D σ H=>t { D with nx:=u D } σ H
theorem aA:PSs X [] tNext:=λ _ _ σ H _ I h=>wpAny_execs_nil ⟨σ,H,I,h⟩
theorem ab (h1:PS X st t) (h2:PSs X rest u):PSs X (st::rest) (tSeq t u):=by
 intro pins s σ H D I h;refine wpAny_execs_cons (thn (h1 pins s σ H { D with nx:=u D } I h) λ f s1 q=>?_)
 cases f with
 | next=>
  obtain ⟨σ',H',I',q⟩:=q;exact h2 pins s1 σ' H' D I' q
 | ret v=>exact q
 | brk=>exact q
 | cont=>exact q
theorem ah (h1:PS X st t):PSs X [st] t:=by
 intro pins s σ H D I h;refine wpAny_execs_cons (thn (h1 pins s σ H D I h) λ f s1 q=>?_)
 cases f with
 | next=>exact wpAny_execs_nil q
 | ret v=>exact q
 | brk=>exact q
 | cont=>exact q
theorem Inv.quiet {pins:List (Addr × Obj)} {σ:St} {H:Hp} {s:Shared} (I:Inv X pins σ H s):interactive X.env=false:=by simp [interactive,I.ok.kind]
noncomputable def tDrop (te:TE):TS:=λ D σ H=>te σ H λ _ H1=>D.nx σ H1
theorem aQ (he:PE X e te) (hs:swapsWith e none pos.line X.env=pure false:=by rfl):PS X (.Expr e pos) (tDrop te):=by
 intro pins s σ H D I h;exact wpAny_Expr_any (thn (he pins s σ H _ I h) λ v s1 ⟨x,H1,I1,r1,q1⟩=>⟨σ,H1,I1,q1⟩) I.quiet hs
noncomputable def tRet (te:TE):TS:=λ D σ H=>te σ H D.rt
theorem ap (he:PE X e te):PS X (.Return (some e) pos) (tRet te):=by
 intro pins s σ H D I h;exact wpAny_Return_some (thn (he pins s σ H _ I h) λ v s1 ⟨x,H1,I1,r1,q1⟩=>⟨x,σ,H1,I1,r1,q1⟩)
noncomputable def tIfS (c:TT) (t u:TS):TS:=λ D σ H=>c σ H λ b H1=>if b=true then t D σ H1 else u D σ H1
theorem aL {c:Expr} {a b:List Stmt} {tc:TT} (hc:PT X c tc) (ha:PSs X a t) (hb:PSs X b u):PS X (.If c a b pos) (tIfS tc t u):=by
 intro pins s σ H D I h;refine wpAny_If (thn (hc pins s σ H _ I h) λ d s1 ⟨H1,I1,q1⟩=>?_)
 cases d with
 | true=>exact ha pins s1 σ H1 D I1 q1
 | false=>exact hb pins s1 σ H1 D I1 q1
noncomputable def tNever:TS:=λ _ _ _=>False
theorem bn:PS X st tNever:=λ _ _ _ _ _ _ h=>h.elim
end
noncomputable abbrev TG:=V->St->Hp->(St->Hp->Prop)->Prop
noncomputable abbrev TGs:=List V->St->Hp->(St->Hp->Prop)->Prop
noncomputable def PG (X:Cx) (target:Expr) (t:TG):Prop:=
 ∀ (pins:List (Addr × Obj)) (s:Shared) (σ:St) (H:Hp) (v:V) (u:Value) (Q:St->Hp->Prop),Inv X pins σ H s->RelV v u->t v σ H Q->
  wpAny (model X.prog X.w) X.A (assign target X.env u) (λ _ s'=>∃ σ' H',Inv X pins σ' H' s'/\Q σ' H') X.xe s
noncomputable def PGs (X:Cx) (ts:List Expr) (t:TGs):Prop:=
 ∀ (pins:List (Addr × Obj)) (s:Shared) (σ:St) (H:Hp) (vs:List V) (us:List Value) (Q:St->Hp->Prop),Inv X pins σ H s->Vals vs us->t vs σ H Q->
  wpAny (model X.prog X.w) X.A (assignInOrder ((assignEach ts X.env).map (·.2)) us) (λ _ s'=>∃ σ' H',Inv X pins σ' H' s'/\Q σ' H') X.xe s
noncomputable abbrev TSet:=V->V->V->Hp->(Hp->Prop)->Prop
noncomputable abbrev TIp:=V->V->Hp->VK->Prop
section
variable {X:Cx} {pos:Pos}
noncomputable def gName (i:Nat):TG:=λ v σ H Q=>Q (σ.set i (some v)) H
theorem au {i:Nat} {x:Str} (hN:X.N.Nodup) (hi:X.N[i]?=some x) (hx:Loc X.env.scope x) (hf:X.fn x=true∨X.env.scope.names.lookup x=some .local:=by first | exact .inl rfl | exact .inr rfl | assumption):PG X (.Name x pos) (gName i):=by
 intro pins s σ H v u Q I r h;exact wpAny_assign_Name (store_ok I hN hi hx r (λ s' I'=>⟨_,H,I',h⟩) hf)
noncomputable def gNil:TGs:=λ vs σ H Q=>vs=[]/\Q σ H
inductive IgCons (t:TG) (u:TGs) (vs:List V) (σ:St) (H:Hp) (Q:St->Hp->Prop):Prop
 | mk (v:_) (r:_) (h1:vs=v::r) (h2:t v σ H λ σ' H'=>u r σ' H' Q):IgCons t u vs σ H Q
noncomputable def gCons (t:TG) (u:TGs):TGs:=λ vs σ H Q=>IgCons t u vs σ H Q
theorem dc:PGs X [] gNil:=by
 intro pins s σ H vs us Q I r h;obtain ⟨e,h⟩:=h;subst e
 cases r;exact assignInOrder_nil ⟨σ,H,I,h⟩
theorem a7 {e:Expr} {es:List Expr} {t:TG} {u:TGs} (h1:PG X e t) (h2:PGs X es u)
  (hs:(assignEach (e::es) X.env).map (·.2)=assign e X.env::(assignEach es X.env).map (·.2):=by rfl):PGs X (e::es) (gCons t u):=by
 intro pins s σ H vs us Q I r h;obtain ⟨v,vr,e1,h⟩:=h;subst e1
 cases r with
 | cons r rr=>
  rw [hs];refine assignInOrder_cons (thn (h1 pins s σ H _ _ _ I r h) λ _ s1 ⟨σ1,H1,I1,q1⟩=>?_);exact h2 pins s1 σ1 H1 _ _ Q I1 rr q1
inductive IgTup (K:W.Frag) (n:Nat) (t:TGs) (v:V) (σ:St) (H:Hp) (Q:St->Hp->Prop):Prop
 | mk (a:_) (xs:_) (h1:v=.ref a) (h2:SqT K H a xs) (h3:xs.length=n) (h4:t xs σ H Q):IgTup K n t v σ H Q
noncomputable def gTup (K:W.Frag) (n:Nat) (t:TGs):TG:=λ v σ H Q=>IgTup K n t v σ H Q
theorem eQ {es:List Expr} {k:Nat} {t:TGs} {n:Nat} (hc:X.calm=true) (h:PGs X es t)
  (hn:(assignEach es X.env).length=n:=by rfl) (hst:(assignEach es X.env).findIdx? (·.1)=none:=by rfl):PG X (.Tuple es k pos) (gTup X.K n t):=by
 intro pins s σ H v u Q I r hw;obtain ⟨a,xs,e1,hq,hl,hw⟩:=hw;subst e1
 cases r;obtain ⟨its,rv,ht,hz⟩:=I.tuple hq;refine assign_Tuple_tuple (I.ok.hd hc) ht (by simp [hn,<- hl,rv.length]) hst λ h' hx=>?_;have I1:Inv X pins σ H { s with heap:=h' }:=I.kept (t':=s.toks) λ b o e=>hx b o (iw (hJ e)) e;exact h pins _ σ H xs _ Q I1 (by simpa using rv) hw
noncomputable def tAsg (te:TE) (g:TG):TS:=λ D σ H=>te σ H λ x H1=>g x σ H1 D.nx
theorem al {i:Nat} {x:Str} {e:Expr} {te:TE} {pos':Pos} (hN:X.N.Nodup) (hi:X.N[i]?=some x) (hx:Loc X.env.scope x) (he:PE X e te) (hs:swapsWith e (some (.Name x pos')) pos.line X.env=pure false:=by rfl) (hf:X.fn x=true∨X.env.scope.names.lookup x=some .local:=by first | exact .inl rfl | exact .inr rfl | assumption) :
  PS X (.Assign [.Name x pos'] e pos) (tAsg te (gName i)):=by
 intro pins s σ H D I h;refine wpAny_Assign_Name (thn (he pins s σ H _ I h) λ v s1 ⟨y,H1,I1,r1,q1⟩=>?_) hs;exact store_ok I1 hN hi hx r1 (λ s2 I2=>⟨_,H1,I2,q1⟩) hf
inductive ItPar (i:Nat) (j:Nat) (D:Ends) (σ:St) (vs:List V) (H1:Hp):Prop
 | mk (v:_) (w:_) (h1:vs=[v,w]) (h2:D.nx ((σ.set i (some v)).set j (some w)) H1):ItPar i j D σ vs H1
end
section
variable {X:Cx} {pos:Pos}
noncomputable def tWhile (c:TT) (tb:TS):TS:=λ D σ H=>∃ W:Nat->St->Hp->Prop,(∃ m,W m σ H)/\∀ m σ H,W m σ H->
 c σ H λ b H1=>if b=true then ∃ N:St->Hp->Prop,(∀ σ' H',N σ' H'->∃ m',m'<m/\W m' σ' H')/\tb { D with nx:=N,ct:=N,bk:=D.nx } σ H1 else D.nx σ H1
theorem dG {c:Expr} {body:List Stmt} {tc:TT} {tb:TS} (hp:PassesOwn (model X.prog X.w) X.A X.env X.xe) (hc:PT X c tc) (hb:PSs X body tb):PS X (.While c body [] pos) (tWhile tc tb):=by
 intro pins s σ H D I h;obtain ⟨W,⟨m0,w0⟩,turn⟩:=h;refine wpAny_While (codeAny_whileLoop (λ n s'=>∃ σ' H',Inv X pins σ' H' s'/\W n σ' H') ?_ m0 ⟨σ,H,I,w0⟩);rintro n s1 ⟨σ1,H1,I1,w1⟩;refine wpAny_passesOwn hp (thn (hc pins s1 σ1 H1 _ I1 (turn n σ1 H1 w1)) λ b s2 ⟨H2,I2,q2⟩=>?_)
 cases b with
 | true=>
  obtain ⟨N,hN,q2⟩:=q2;rw [if_pos rfl];refine wpAny_passesOwn hp (thn (hb pins s2 σ1 H2 _ I2 q2) λ f s3 q3=>?_)
  cases f with
  | next=>
   obtain ⟨σ3,H3,I3,n3⟩:=q3;obtain ⟨m',hm,w3⟩:=hN σ3 H3 n3;exact ⟨m',hm,σ3,H3,I3,w3⟩
  | cont=>
   obtain ⟨σ3,H3,I3,n3⟩:=q3;obtain ⟨m',hm,w3⟩:=hN σ3 H3 n3;exact ⟨m',hm,σ3,H3,I3,w3⟩
  | brk=>exact q3
  | ret v=>exact q3
 | false=>
  rw [if_neg ii];exact wpAny_execs_nil ⟨σ1,H2,I2,q2⟩
end
structure It where
 go:Nat->Hp->Prop
 yld:Nat->Hp->V->Hp->Prop
 stop:Nat->Hp->Prop
noncomputable def FpOk (X:Cx) (pins:List (Addr × Obj)) (H:Hp) (b:Addr):Prop:=
 H b=none/\b≠X.env.locals/\b ∉ X.fs/\(b∈X.ex∨X.s₀.heap.objs.size<=b)/\(∀ x c,X.env.cells.lookup x=some c->c≠b)/\∀ p∈X.pn++pins,p.1≠b
theorem Inv.fpOk {X:Cx} {pins:List (Addr × Obj)} {σ:St} {H H':Hp} {s:Shared} {b:Addr} (I:Inv X pins σ H s) (hb:s.heap.objs.size<=b) (hn:H' b=none):FpOk X pins H' b:=by
 refine ⟨hn,Nat.ne_of_gt (ic I.lt hb),I.nofs hb,.inr (gZ I.sz hb),λ x c e z=>?_,λ p hp z=>?_⟩
 ·obtain ⟨v,q⟩:=I.cell x c e;exact absurd (ic q.lt (by rw [z];exact hb)) (i4 _)
 ·exact absurd (ic (hJ (I.pin p hp).1) (by rw [z];exact hb)) (i4 _)
structure Turn (P:Program) (w:World) (K:W.Frag) (tg:Expr) (J:It) (fp:List Addr) (it:Addr) (tn:Nat->Heap->Prop):Prop where
 mem:it∈fp
 obj:∀ i h,tn i h->∀ b∈fp,∃ o,h.get? b=some o/\∀ v,o.data≠.cell v
 keep:∀ i h h',tn i h->(∀ b∈fp,∀ o,h.get? b=some o->h'.get? b=some o)->tn i h'
 item:∀ (X:Cx),X.prog=P->X.w=w->X.K=K->X.calm=true->∀ (i:Nat) (pins:List (Addr × Obj)) (s:Shared) (σ:St) (H:Hp) (E:Value->Shared->Prop),Inv X pins σ H s->(∀ b∈fp,FpOk X pins H b)->tn i s.heap->J.go i H->
  wpAny (model P w) X.A (pyNext (.ref it)) (λ r s1=>∃ u,r=some u/\
   wpAny (model P w) X.A (letOwnedTupleGo tg (.ref it) u) (λ _ s2=>∃ x H',Inv X pins σ H' s2/\RelV x u/\J.yld i H x H'/\tn (i+1) s2.heap/\∀ b∈fp,H' b=none) E s1) E s
 done:∀ (X:Cx),X.prog=P->X.w=w->X.K=K->X.calm=true->∀ (i:Nat) (pins:List (Addr × Obj)) (s:Shared) (σ:St) (H:Hp) (E:Value->Shared->Prop),Inv X pins σ H s->(∀ b∈fp,FpOk X pins H b)->tn i s.heap->J.stop i H->
  wpAny (model P w) X.A (pyNext (.ref it)) (λ r s1=>r=none/\Inv X pins σ H s1) E s
 self:∀ (A:Around) (i:Nat) (s:Shared) (Q:Value->Shared->Prop) (E:Value->Shared->Prop),tn i s.heap->Q (.ref it) s->wpAny (model P w) A (pyIter (.ref it)) Q E s
noncomputable abbrev TI:=St->Hp->(It->Hp->Prop)->Prop
noncomputable def PIE (X:Cx) (pins:List (Addr × Obj)) (σ:St) (tg:Expr) (R:It->Hp->Prop) (itv:Value) (s2:Shared):Prop:=
 ∃ (it:Addr) (fp:List Addr) (tn:Nat->Heap->Prop) (J:It) (H':Hp),itv=.ref it/\Inv X pins σ H' s2/\Turn X.prog X.w X.K tg J fp it tn/\tn 0 s2.heap/\(∀ b∈fp,FpOk X pins H' b)/\R J H'
noncomputable def PI (X:Cx) (tg iter:Expr) (wi:TI):Prop:=
 ∀ (pins:List (Addr × Obj)) (s:Shared) (σ:St) (H:Hp) (R:It->Hp->Prop),Inv X pins σ H s->wi σ H R->
  wpAny (model X.prog X.w) X.A (eval iter X.env) (λ v s1=>wpAny (model X.prog X.w) X.A (pyIter v) (PIE X pins σ tg R) X.xe s1) X.xe s
theorem go_of {M:Model} {A:Around} {E:Value->Shared->Prop} {s:Shared} {tg:Expr} {it:Addr} {u:Value} {o:Obj} {n:String} {vs:Array Value} {Q:Unit->Shared->Prop} (ho:s.heap.get? it=some o) (hc:o.cls=.type n) (hd:o.data=.fields vs)
    (hn:["enumerate","zip","dict_itemiterator","dict_reverseitemiterator","odict_iterator","itertools.zip_longest","itertools.pairwise"].contains n=false) (hQ:Q () s):wpAny M A (letOwnedTupleGo tg (.ref it) u) Q E s:=by
  unfold letOwnedTupleGo
  cases tg <;> first
    | exact iE hQ
    | (cases u <;> first
        | exact iE hQ
        | (refine ip (wpAny_load ho ?_)
           rw [hc,hd];show wpAny M A (if (["enumerate","zip","dict_itemiterator","dict_reverseitemiterator","odict_iterator","itertools.zip_longest","itertools.pairwise"].contains n && vs[0]? == some (rawInt _))=true then _ else _) Q E s;rw [if_neg (by intro h;rw [hn,Bool.false_and] at h;cases h)];exact iE hQ))
noncomputable def Itl (K:W.Frag) (a:Addr):It:=
 ⟨λ i H=>∃ xs x,SqL K H a xs/\xs[i]?=some x,λ i H x H'=>H'=H/\∀ xs,SqL K H a xs->xs[i]?=some x,λ i H=>∃ xs,SqL K H a xs/\xs.length<=i⟩
noncomputable def Itt (K:W.Frag) (a:Addr):It:=
 ⟨λ i H=>∃ xs x,SqT K H a xs/\xs[i]?=some x,λ i H x H'=>H'=H/\∀ xs,SqT K H a xs->xs[i]?=some x,λ i H=>∃ xs,SqT K H a xs/\xs.length<=i⟩
noncomputable def Itr (lo:Int) (n:Nat):It:=⟨λ i _=>i<n,λ i H x H'=>H'=H/\x=.int (lo+i),λ i _=>n<=i⟩
theorem turn_list {P:Program} {w:World} {K:W.Frag} {tg:Expr} (a it:Addr):Turn P w K tg (Itl K a) [it] it (λ i h=>h.IsListIter it a i) where
 mem:=by simp
 obj:=λ i h st b hb=>by
  have e:b=it:=by simpa using hb
  subst e;obtain ⟨o,e,c,d⟩:=st;exact ⟨o,e,λ v z=>by rw [d] at z;cases z⟩
 keep:=λ i h h' st k=>st.at λ o e=>k it (by simp) o e
 item:=by
  intro X hP hw hK hc i pins s σ H E I hf st hg;subst hP hw hK;obtain ⟨xs,x,hq,hx⟩:=hg;obtain ⟨its,rv,p,hz⟩:=I.list hq;obtain ⟨u,hu,ru⟩:=rv.get hx;obtain ⟨f0,f1,f2,f3,f4,f5⟩:=hf it (by simp);refine wpAny_pyNext_list_item st p.isList (x:=u) (by simpa using hu) λ h' st' sb=>?_;have I1:Inv X pins σ H { s with heap:=h' }:=I.turned (t':=s.toks) (λ b o hb e=>(sb.2 b hb).trans e) f0 f1 f3 f4 f5;obtain ⟨o,e,c,d⟩:=id st';exact ⟨u,rfl,go_of (s:={ s with heap:=h' }) e c d (by decide) ⟨x,H,I1,ru,⟨rfl,λ ys hy=>by rw [I.list_inj hy hq];exact hx⟩,st',λ b hb=>(hf b hb).1⟩⟩
 done:=by
  intro X hP hw hK hc i pins s σ H E I hf st hg;subst hP hw hK;obtain ⟨xs,hq,hx⟩:=hg;obtain ⟨its,rv,p,hz⟩:=I.list hq;obtain ⟨f0,f1,f2,f3,f4,f5⟩:=hf it (by simp);have hl:=rv.length;exact wpAny_pyNext_list_end (I.ok.hd hc) st p.isList (by simp;omega) λ h' eb=>⟨rfl,I.turned (t':=s.toks) (λ b o hb e=>eb b o hb e) f0 f1 f3 f4 f5⟩
 self:=λ _ _ _ _ _ st h=>wpAny_pyIter_listiter st h
theorem turn_tuple {P:Program} {w:World} {K:W.Frag} {tg:Expr} (a it:Addr):Turn P w K tg (Itt K a) [it] it (λ i h=>h.IsTupleIter it a i) where
 mem:=by simp
 obj:=λ i h st b hb=>by
  have e:b=it:=by simpa using hb
  subst e;obtain ⟨o,e,c,d⟩:=st;exact ⟨o,e,λ v z=>by rw [d] at z;cases z⟩
 keep:=λ i h h' st k=>st.at λ o e=>k it (by simp) o e
 item:=by
  intro X hP hw hK hc i pins s σ H E I hf st hg;subst hP hw hK;obtain ⟨xs,x,hq,hx⟩:=hg;obtain ⟨its,rv,p,hz⟩:=I.tuple hq;obtain ⟨u,hu,ru⟩:=rv.get hx;obtain ⟨f0,f1,f2,f3,f4,f5⟩:=hf it (by simp);refine wpAny_pyNext_tuple_item st (show s.heap.IsTuple a its.toArray from p) (x:=u) (by simpa using hu) λ h' st' sb=>?_;have I1:Inv X pins σ H { s with heap:=h' }:=I.turned (t':=s.toks) (λ b o hb e=>(sb.2 b hb).trans e) f0 f1 f3 f4 f5;obtain ⟨o,e,c,d⟩:=id st';exact ⟨u,rfl,go_of (s:={ s with heap:=h' }) e c d (by decide) ⟨x,H,I1,ru,⟨rfl,λ ys hy=>by rw [I.tuple_inj hy hq];exact hx⟩,st',λ b hb=>(hf b hb).1⟩⟩
 done:=by
  intro X hP hw hK hc i pins s σ H E I hf st hg;subst hP hw hK;obtain ⟨xs,hq,hx⟩:=hg;obtain ⟨its,rv,p,hz⟩:=I.tuple hq;obtain ⟨f0,f1,f2,f3,f4,f5⟩:=hf it (by simp);have hl:=rv.length;exact wpAny_pyNext_tuple_end (I.ok.hd hc) st (show s.heap.IsTuple a its.toArray from p) (by simp;omega) λ h' eb=>⟨rfl,I.turned (t':=s.toks) (λ b o hb e=>eb b o hb e) f0 f1 f3 f4 f5⟩
 self:=λ _ _ _ _ _ st h=>wpAny_pyIter_tupleiter st h
theorem turn_range {P:Program} {w:World} {K:W.Frag} {tg:Expr} (it:Addr) (lo:Int) (n:Nat):Turn P w K tg (Itr lo n) [it] it (λ i h=>IsRangeIter h it (lo+(i:Nat)*1) ((n:Int)-(i:Nat)) 1) where
 mem:=by simp
 obj:=λ i h st b hb=>by
  have e:b=it:=by simpa using hb
  subst e
  exact ⟨_,st,λ v z=>by
   have z':Data.fields _=Data.cell v:=z
   cases z'⟩
 keep:=λ i h h' st k=>k it (by simp) _ st
 item:=by
  intro X hP hw hK hc i pins s σ H E I hf st hg;subst hP hw hK;obtain ⟨f0,f1,f2,f3,f4,f5⟩:=hf it (by simp);have W:=Walks.range (prog:=X.prog) (w:=X.w) (I.ok.hd hc) it lo 1 n;refine W.item i s _ _ hg st λ v h' tk hv st' kk=>?_;obtain ⟨t,rfl⟩:=hv;have I1:Inv X pins σ H { s with heap:=h',toks:=tk }:=I.turned (λ b o hb e=>kk b o (by simpa using hb) e) f0 f1 f3 f4 f5;refine ⟨_,rfl,go_of (s:={ s with heap:=h',toks:=tk }) (n:="range_iterator") st' rfl rfl (by decide) ⟨.int (lo+i),H,I1,⟨t,?_⟩,⟨rfl,rfl⟩,st',λ b hb=>(hf b hb).1⟩⟩;rw [Int.mul_one]
 done:=by
  intro X hP hw hK hc i pins s σ H E I hf st hg;subst hP hw hK;obtain ⟨f0,f1,f2,f3,f4,f5⟩:=hf it (by simp);exact wpAny_pyNext_range_end (I.ok.hd hc) st (by have:n<=i:=hg;omega) λ h' eb=>⟨rfl,I.turned (t':=s.toks) (λ b o hb e=>eb b o hb e) f0 f1 f3 f4 f5⟩
 self:=λ _ _ _ _ _ st h=>wpAny_pyIter_rangeiter st h
end L2
namespace L2
open PySem PySem.Spec PyProof.Rows
section
variable {X:Cx} {tg:Expr}
inductive IiList (K:W.Frag) (R:It->Hp->Prop) (x:V) (H1:Hp):Prop
 | mk (a:_) (h1:x=.ref a) (h2:(∃ xs,SqL K H1 a xs)) (h3:R (Itl K a) H1):IiList K R x H1
noncomputable def iList (K:W.Frag) (tl:TE):TI:=λ σ H R=>tl σ H λ x H1=>IiList K R x H1
inductive IiTup (K:W.Frag) (R:It->Hp->Prop) (x:V) (H1:Hp):Prop
 | mk (a:_) (h1:x=.ref a) (h2:(∃ xs,SqT K H1 a xs)) (h3:R (Itt K a) H1):IiTup K R x H1
noncomputable def iTup (K:W.Frag) (tl:TE):TI:=λ σ H R=>tl σ H λ x H1=>IiTup K R x H1
theorem aZ {l:Expr} {tl:TE} (hl:PE X l tl):PI X tg l (iList X.K tl):=by
 intro pins s σ H R I h;refine thn (hl pins s σ H _ I h) λ v s1 ⟨x,H1,I1,r1,q1⟩=>?_;obtain ⟨a,e,⟨xs,hq⟩,q⟩:=q1;subst e
 cases r1;obtain ⟨its,rv,p,hz⟩:=I1.list hq;refine wpAny_pyIter_list p.isList ?_;refine ⟨s1.heap.objs.size,[s1.heap.objs.size],_,_,H1,rfl,I1.kept (t':=s1.toks) λ b o e=>gO _ e,turn_list a _,⟨_,ib _ rfl,rfl,rfl⟩,λ b hb=>?_,q⟩;have e:b=s1.heap.objs.size:=by simpa using hb
 subst e;exact I1.fpOk (gJ _) (I1.hok.fresh (gJ _))
theorem pi_tup {l:Expr} {tl:TE} (hl:PE X l tl):PI X tg l (iTup X.K tl):=by
 intro pins s σ H R I h;refine thn (hl pins s σ H _ I h) λ v s1 ⟨x,H1,I1,r1,q1⟩=>?_;obtain ⟨a,e,⟨xs,hq⟩,q⟩:=q1;subst e
 cases r1;obtain ⟨its,rv,p,hz⟩:=I1.tuple hq;refine wpAny_pyIter_tuple (show s1.heap.IsTuple a its.toArray from p) ?_;refine ⟨s1.heap.objs.size,[s1.heap.objs.size],_,_,H1,rfl,I1.kept (t':=s1.toks) λ b o e=>gO _ e,turn_tuple a _,⟨_,ib _ rfl,rfl,rfl⟩,λ b hb=>?_,q⟩;have e:b=s1.heap.objs.size:=by simpa using hb
 subst e;exact I1.fpOk (gJ _) (I1.hok.fresh (gJ _))
theorem range_it {pins:List (Addr × Obj)} {σ:St} {H:Hp} {s:Shared} {R:It->Hp->Prop} {E:Value->Shared->Prop} {lo hi:Int} {t u v:Tok} {tk:Nat} (I:Inv X pins σ H s) (h1:-(2 ^ 62)<=lo) (h2:lo<2 ^ 62) (h3:-(2 ^ 62)<=hi) (h4:hi<2 ^ 62)
  (q:R (Itr lo (hi-lo).toNat) H):wpAny (model X.prog X.w) X.A (pyIter (.ref s.heap.objs.size)) (PIE X pins σ tg R) E { s with heap:=s.heap.push { cls:=.type "range",data:=.fields #[.int lo t,.int hi u,.int 1 v] },toks:=tk }:=by
 refine wpAny_pyIter_range (IsRange.new ..) (small_one h1 h2 h3 h4) ?_;have I1:Inv X pins σ H { s with heap:=s.heap.push { cls:=.type "range",data:=.fields #[.int lo t,.int hi u,.int 1 v] },toks:=tk }:=I.kept λ b o e=>gO _ e
 refine ⟨(s.heap.push { cls:=.type "range",data:=.fields #[.int lo t,.int hi u,.int 1 v] }).objs.size,[(s.heap.push { cls:=.type "range",data:=.fields #[.int lo t,.int hi u,.int 1 v] }).objs.size],_,_,H,rfl,
  I1.kept (t':=tk) λ b o e=>gO _ e,turn_range _ lo (hi-lo).toNat,?_,λ b hb=>?_,q⟩
 ·have e1:lo+((0:Nat):Int)*1=lo:=by simp
  have e2:(((hi-lo).toNat:Nat):Int)-((0:Nat):Int)=Builtin.Range.rangeSize lo hi 1:=by rw [rangeSize_one];split <;> omega
  show IsRangeIter _ _ (lo+((0:Nat):Int)*1) ((((hi-lo).toNat:Nat):Int)-((0:Nat):Int)) 1;rw [e1,e2];exact ib _ rfl
 ·have e:b=(s.heap.push { cls:=.type "range",data:=.fields #[.int lo t,.int hi u,.int 1 v] }).objs.size:=by simpa using hb
  subst e;exact I1.fpOk (gJ _) (I1.hok.fresh (gJ _))
noncomputable def iRng1 (ta:TA):TI:=λ σ H R=>ta σ H λ vs H1=>∃ j:Int,vs=[.int j]/\-(2 ^ 62)<=j/\j<2 ^ 62/\R (Itr 0 j.toNat) H1
theorem dH {a:Expr} {ta:TA} {p pos:Pos} (hg:Gl X "range") (hm:X.mg "range"=none) (ha:PA X [a] ta) (hs:starEach [a] X.env=[(false,eval a X.env)]:=by rfl):PI X tg (.Call (.Name "range" p) [a] [] pos) (iRng1 ta):=by
 intro pins s σ H R I h;refine Call_ (ld_blt I hg hm boot_range (PyProof.Rows.callWith_type1 (thn (ha pos pins s σ H _ I h) λ us s1 ⟨vs,H1,I1,r1,q1⟩=>?_) hs rfl));obtain ⟨j,e,q1,q2,q⟩:=q1;subst e
 cases r1 with
 | cons r rr=>
  cases rr;obtain ⟨t,rfl⟩:=r;exact call_range_1 (range_it I1 (by omega) (by omega) q1 q2 (by simpa using q))
noncomputable def tFor (wi:TI) (g:TG) (tb:TS):TS:=λ D σ H=>wi σ H λ J H1=>∃ W:Nat->Nat->St->Hp->Prop,(∃ m,W 0 m σ H1)/\∀ i m σ H,W i m σ H->
 (J.stop i H/\D.nx σ H)∨(J.go i H/\∃ N:St->Hp->Prop,(∀ σ' H',N σ' H'->∃ m',m'<m/\W (i+1) m' σ' H')/\∀ x H',J.yld i H x H'->g x σ H' λ σ2 H2=>tb { D with nx:=N,ct:=N,bk:=D.nx } σ2 H2)
noncomputable def pinsAt (fp:List Addr) (h:Heap):List (Addr × Obj):=fp.filterMap λ b=>(h.get? b).map λ o=>(b,o)
theorem cf {fp:List Addr} {h:Heap} {b:Addr} {o:Obj} (hb:b∈fp) (e:h.get? b=some o):(b,o)∈pinsAt fp h:=List.mem_filterMap.mpr ⟨b,hb,by rw [e];rfl⟩
theorem of_pinsAt {fp:List Addr} {h:Heap} {p:Addr × Obj} (hp:p∈pinsAt fp h):p.1∈fp/\h.get? p.1=some p.2:=by
 obtain ⟨b,hb,e⟩:=List.mem_filterMap.mp hp
 cases q:h.get? b with
 | none=>rw [q] at e;cases e
 | some o=>
  rw [q] at e;have e':(b,o)=p:=hZ e;subst e';exact ⟨hb,q⟩
theorem Inv.pinned {pins:List (Addr × Obj)} {σ:St} {H:Hp} {s:Shared} {fp:List Addr} (I:Inv X pins σ H s) (hf:∀ b∈fp,FpOk X pins H b) (ho:∀ b∈fp,∃ o,s.heap.get? b=some o/\∀ v,o.data≠.cell v):Inv X (pins++pinsAt fp s.heap) σ H s:=
 I.pins_of λ p hp=>(g7.mp hp).elim (λ z=>I.pin p (g8 _ z)) λ z=>by
  obtain ⟨hb,e⟩:=of_pinsAt z;obtain ⟨f0,f1,f2,_⟩:=hf p.1 hb;obtain ⟨o,e',d⟩:=ho p.1 hb;rw [e] at e';cases e';exact ⟨e,f0,f1,f2,d⟩
theorem Inv.unpinned {pins pl:List (Addr × Obj)} {σ:St} {H:Hp} {s:Shared} (I:Inv X (pins++pl) σ H s):Inv X pins σ H s:=I.pins_of λ p hp=>I.pin p (g8 _ (gU _ hp))
theorem aS {iter:Expr} {body:List Stmt} {wi:TI} {g:TG} {tb:TS} {pos:Pos} (hp:PassesOwn (model X.prog X.w) X.A X.env X.xe) (hc:X.calm=true) (hi:PI X tg iter wi) (hg:PG X tg g) (hb:PSs X body tb)
  (hs:∀ x,foldedSetIterable iter X.env x=pure x:=by intro _;rfl):PS X (.For tg iter body [] pos) (tFor wi g tb):=by
 intro pins s σ H D I h;refine wpAny_For (thn (hi pins s σ H _ I h) λ v s1 h1=>thn h1 λ itv s2 h2=>?_) hs;obtain ⟨it,fp,tn,J,H2,e,I2,T,st2,f2,W,⟨m0,w0⟩,turn⟩:=h2;subst e;have stat:∀ {H':Hp},(∀ b∈fp,H' b=none)->∀ b∈fp,FpOk X pins H' b:=λ hn b hb=>⟨hn b hb,(f2 b hb).2⟩;refine codeAny_forLoop_any (λ n s'=>∃ i σ' H',Inv X pins σ' H' s'/\tn i s'.heap/\(∀ b∈fp,H' b=none)/\W i n σ' H') ?_ m0 ⟨0,σ,H2,I2,st2,λ b hb=>(f2 b hb).1,w0⟩;rintro n s3 ⟨i,σ3,H3,I3,st3,fr3,w3⟩;rcases turn i n σ3 H3 w3 with ⟨stop,qn⟩ | ⟨go,N,hN,step⟩
 ·refine wpAny_passesOwn hp (thn (T.done X rfl rfl rfl hc i pins s3 σ3 H3 X.xe I3 (stat fr3) st3 stop) λ r s4 ⟨hr,I4⟩=>?_);subst hr;exact wpAny_execs_nil ⟨σ3,H3,I4,qn⟩
 ·refine wpAny_passesOwn hp (thn (T.item X rfl rfl rfl hc i pins s3 σ3 H3 X.xe I3 (stat fr3) st3 go) λ r s4 ⟨u,hr,h4⟩=>?_);subst hr;refine wpAny_passesOwn hp (thn h4 λ _ s5 ⟨x,H5,I5,r5,y5,st5,fr5⟩=>?_);have I5':=I5.pinned (stat fr5) (T.obj _ _ st5);refine wpAny_passesOwn hp (thn (hg _ s5 σ3 H5 x u _ I5' r5 (step x H5 y5)) λ _ s6 ⟨σ6,H6,I6,q6⟩=>?_);refine wpAny_passesOwn hp (thn (hb _ s6 σ6 H6 _ I6 q6) λ f s7 q7=>?_)
  have again:∀ {σ7:St} {H7:Hp},Inv X (pins++pinsAt fp s5.heap) σ7 H7 s7->N σ7 H7->∃ m,m<n/\∃ i σ' H',Inv X pins σ' H' s7/\tn i s7.heap/\(∀ b∈fp,H' b=none)/\W i m σ' H':=λ {σ7 H7} I7 n7=>by
   obtain ⟨m',hm,w7⟩:=hN σ7 H7 n7;refine ⟨m',hm,i+1,σ7,H7,I7.unpinned,T.keep _ _ _ st5 λ b hb o e=>(I7.pin (b,o) (g8 _ (g8 _ (cf hb e)))).1,λ b hb=>?_,w7⟩;obtain ⟨o,e,d⟩:=T.obj _ _ st5 b hb;exact (I7.pin (b,o) (g8 _ (g8 _ (cf hb e)))).2.1
  cases f with
  | next=>obtain ⟨σ7,H7,I7,n7⟩:=q7;exact again I7 n7
  | cont=>obtain ⟨σ7,H7,I7,n7⟩:=q7;exact again I7 n7
  | brk=>obtain ⟨σ7,H7,I7,q7⟩:=q7;exact ⟨σ7,H7,I7.unpinned,q7⟩
  | ret v=>obtain ⟨x7,σ7,H7,I7,r7,q7⟩:=q7;exact ⟨x7,σ7,H7,I7.unpinned,r7,q7⟩
end
theorem a9 {K:W.Frag} {a:Addr} {xs:List V} {g:TG} {tb:TS} {D:Ends} {σ:St} {H:Hp} (Pv:Nat->St->Hp->Prop) (h0:Pv 0 σ H) (hl:∀ i σ H,i<=xs.length->Pv i σ H->SqL K H a xs)
  (hs:∀ i x σ H,xs[i]?=some x->Pv i σ H->g x σ H λ σ2 H2=>tb { D with nx:=Pv (i+1),ct:=Pv (i+1),bk:=D.nx } σ2 H2) (hd:∀ σ H,Pv xs.length σ H->D.nx σ H) :
  ∃ W:Nat->Nat->St->Hp->Prop,(∃ m,W 0 m σ H)/\∀ i m σ H,W i m σ H->
   ((Itl K a).stop i H/\D.nx σ H)∨((Itl K a).go i H/\∃ N:St->Hp->Prop,(∀ σ' H',N σ' H'->∃ m',m'<m/\W (i+1) m' σ' H')/\∀ x H',(Itl K a).yld i H x H'->g x σ H' λ σ2 H2=>tb { D with nx:=N,ct:=N,bk:=D.nx } σ2 H2):=by
 refine ⟨λ i m σ H=>m=xs.length-i/\i<=xs.length/\Pv i σ H,⟨xs.length,by simp,gR _,h0⟩,?_⟩;rintro i m σ H ⟨rfl,hi,p⟩;have q:=hl i σ H hi p;by_cases hlt:i<xs.length
 ·refine .inr ⟨⟨xs,xs[i],q,by simp [hlt]⟩,Pv (i+1),λ σ' H' p'=>⟨xs.length-(i+1),by omega,rfl,hlt,p'⟩,λ x H' y=>?_⟩;obtain ⟨e,y⟩:=y;subst e;exact hs i x σ _ (y xs q) p
 ·have e:i=xs.length:=by omega
  subst e;exact .inl ⟨⟨xs,q,gJ _⟩,hd σ H p⟩
theorem for_tup {K:W.Frag} {a:Addr} {xs:List V} {g:TG} {tb:TS} {D:Ends} {σ:St} {H:Hp} (Pv:Nat->St->Hp->Prop) (h0:Pv 0 σ H) (hl:∀ i σ H,i<=xs.length->Pv i σ H->SqT K H a xs)
  (hs:∀ i x σ H,xs[i]?=some x->Pv i σ H->g x σ H λ σ2 H2=>tb { D with nx:=Pv (i+1),ct:=Pv (i+1),bk:=D.nx } σ2 H2) (hd:∀ σ H,Pv xs.length σ H->D.nx σ H) :
  ∃ W:Nat->Nat->St->Hp->Prop,(∃ m,W 0 m σ H)/\∀ i m σ H,W i m σ H->
   ((Itt K a).stop i H/\D.nx σ H)∨((Itt K a).go i H/\∃ N:St->Hp->Prop,(∀ σ' H',N σ' H'->∃ m',m'<m/\W (i+1) m' σ' H')/\∀ x H',(Itt K a).yld i H x H'->g x σ H' λ σ2 H2=>tb { D with nx:=N,ct:=N,bk:=D.nx } σ2 H2):=by
 refine ⟨λ i m σ H=>m=xs.length-i/\i<=xs.length/\Pv i σ H,⟨xs.length,by simp,gR _,h0⟩,?_⟩;rintro i m σ H ⟨rfl,hi,p⟩;have q:=hl i σ H hi p;by_cases hlt:i<xs.length
 ·refine .inr ⟨⟨xs,xs[i],q,by simp [hlt]⟩,Pv (i+1),λ σ' H' p'=>⟨xs.length-(i+1),by omega,rfl,hlt,p'⟩,λ x H' y=>?_⟩;obtain ⟨e,y⟩:=y;subst e;exact hs i x σ _ (y xs q) p
 ·have e:i=xs.length:=by omega
  subst e;exact .inl ⟨⟨xs,q,gJ _⟩,hd σ H p⟩
theorem for_range {lo:Int} {n:Nat} {g:TG} {tb:TS} {D:Ends} {σ:St} {H:Hp} (Pv:Nat->St->Hp->Prop) (h0:Pv 0 σ H)
  (hs:∀ i σ H,i<n->Pv i σ H->g (.int (lo+i)) σ H λ σ2 H2=>tb { D with nx:=Pv (i+1),ct:=Pv (i+1),bk:=D.nx } σ2 H2) (hd:∀ σ H,Pv n σ H->D.nx σ H) :
  ∃ W:Nat->Nat->St->Hp->Prop,(∃ m,W 0 m σ H)/\∀ i m σ H,W i m σ H->
   ((Itr lo n).stop i H/\D.nx σ H)∨((Itr lo n).go i H/\∃ N:St->Hp->Prop,(∀ σ' H',N σ' H'->∃ m',m'<m/\W (i+1) m' σ' H')/\∀ x H',(Itr lo n).yld i H x H'->g x σ H' λ σ2 H2=>tb { D with nx:=N,ct:=N,bk:=D.nx } σ2 H2):=by
 refine ⟨λ i m σ H=>m=n-i/\i<=n/\Pv i σ H,⟨n,by simp,gR _,h0⟩,?_⟩;rintro i m σ H ⟨rfl,hi,p⟩;by_cases hlt:i<n
 ·refine .inr ⟨hlt,Pv (i+1),λ σ' H' p'=>⟨n-(i+1),by omega,rfl,hlt,p'⟩,λ x H' y=>?_⟩;obtain ⟨e,y⟩:=y;subst e y;exact hs i σ _ hlt p
 ·have e:i=n:=by omega
  subst e;exact .inl ⟨gJ _,hd σ H p⟩
theorem while_by {c:TT} {tb:TS} {D:Ends} {σ:St} {H:Hp} (Pv:St->Hp->Prop) (μ:St->Hp->Nat) (h0:Pv σ H)
  (hs:∀ σ H,Pv σ H->c σ H λ b H1=>if b=true then tb { D with nx:=λ σ' H'=>Pv σ' H'/\μ σ' H' < μ σ H,ct:=λ σ' H'=>Pv σ' H'/\μ σ' H' < μ σ H,bk:=D.nx } σ H1 else D.nx σ H1)
  (mono:∀ σ H Q Q',(∀ b H1,Q b H1->Q' b H1)->c σ H Q->c σ H Q'):tWhile c tb D σ H:=by
 refine ⟨λ m σ H=>m = μ σ H/\Pv σ H,⟨_,rfl,h0⟩,?_⟩;rintro m σ H ⟨rfl,p⟩;refine mono σ H _ _ (λ b H1 q=>?_) (hs σ H p)
 cases b with
 | true=>exact ⟨_,λ σ' H' ⟨p',l⟩=>⟨_,l,rfl,p'⟩,q⟩
 | false=>exact q
end L2
namespace L2
open PySem PySem.Spec PyProof.Rows
noncomputable abbrev R2:=V->V->Hp->VK->Prop
noncomputable def OpR (X:Cx) (f:Value->Value->Sem Value) (r:R2):Prop:=
 ∀ (pins:List (Addr × Obj)) (s:Shared) (σ:St) (H:Hp) (x y:V) (v u:Value) (Q:VK),Inv X pins σ H s->RelV x v->RelV y u->r x y H Q->
  wpAny (model X.prog X.w) X.A (f v u) (EP X pins σ Q) X.xe s
noncomputable def UnR (X:Cx) (f:Value->Sem Value) (r:V->Hp->VK->Prop):Prop:=
 ∀ (pins:List (Addr × Obj)) (s:Shared) (σ:St) (H:Hp) (x:V) (v:Value) (Q:VK),Inv X pins σ H s->RelV x v->r x H Q->
  wpAny (model X.prog X.w) X.A (f v) (EP X pins σ Q) X.xe s
noncomputable def dj (X:Cx) (f:Value) (r:List V->Hp->VK->Prop):Prop:=
 ∀ (pins:List (Addr × Obj)) (s:Shared) (σ:St) (H:Hp) (xs:List V) (us:List Value) (Q:VK),Inv X pins σ H s->Vals xs us->r xs H Q->
  wpAny (model X.prog X.w) X.A (call f us) (EP X pins σ Q) X.xe s
noncomputable def tOp (r:R2) (ta tb:TE):TE:=λ σ H Q=>ta σ H λ x H1=>tb σ H1 λ y H2=>r x y H2 Q
noncomputable def tUn (r:V->Hp->VK->Prop) (ta:TE):TE:=λ σ H Q=>ta σ H λ x H1=>r x H1 Q
noncomputable def rI (C:Int->Int->Prop) (g:Int->Int->V):R2:=λ x y H Q=>∃ i j,x=.int i/\y=.int j/\C i j/\Q (g i j) H
inductive IrI0 (g:Int->Int->V) (x:V) (y:V) (H:Hp) (Q:VK):Prop
 | mk (i:_) (j:_) (h1:x=.int i) (h2:y=.int j) (h3:Q (g i j) H):IrI0 g x y H Q
noncomputable def rI0 (g:Int->Int->V):R2:=λ x y H Q=>IrI0 g x y H Q
inductive IrU (g:Int->V) (x:V) (H:Hp) (Q:VK):Prop
 | mk (i:_) (h1:x=.int i) (h2:Q (g i) H):IrU g x H Q
noncomputable def rU (g:Int->V):V->Hp->VK->Prop:=λ x H Q=>IrU g x H Q
section
variable {X:Cx} {a b c:Expr} {ta tb tc:TE} {pos:Pos}
theorem binT (ha:PE X a ta) (hb:PE X b tb) {pins:List (Addr × Obj)} {s:Shared} {σ:St} {H:Hp} {R:V->V->Hp->Prop} (I:Inv X pins σ H s)
  (h:ta σ H λ x H1=>tb σ H1 λ y H2=>R x y H2) {Q:Value->Shared->Prop} {f:Value->Value->Sem Value}
  (hf:∀ v u s2 x y H2,Inv X pins σ H2 s2->RelV x v->RelV y u->R x y H2->wpAny (model X.prog X.w) X.A (f v u) Q X.xe s2) :
  wpAny (model X.prog X.w) X.A (eval a X.env) (λ v s₁=>wpAny (model X.prog X.w) X.A (eval b X.env) (λ u s₂=>wpAny (model X.prog X.w) X.A (f v u) Q X.xe s₂) X.xe s₁) X.xe s:=by
 refine thn (ha pins s σ H _ I h) λ v s1 ⟨x,H1,I1,r1,q1⟩=>?_;refine thn (hb pins s1 σ H1 _ I1 q1) λ u s2 ⟨y,H2,I2,r2,q2⟩=>?_;exact hf v u s2 x y H2 I2 r1 r2 q2
theorem ao {op:Operator} {r:R2} (ho:OpR X (binaryOp op) r) (ha:PE X a ta) (hb:PE X b tb):PE X (.BinOp a op b pos) (tOp r ta tb):=by
 intro pins s σ H Q I h;exact wpAny_BinOp (binT ha hb I h λ v u s2 x y H2 I2 rx ry q=>ho pins s2 σ H2 x y v u Q I2 rx ry q)
theorem fH {op:UnaryOp} {r:V->Hp->VK->Prop} (ho:UnR X (unaryOp op) r) (ha:PE X a ta):PE X (.UnaryOp op a pos) (tUn r ta):=by
 intro pins s σ H Q I h;exact UnaryOp_ (thn (ha pins s σ H _ I h) λ v s1 ⟨x,H1,I1,r1,q1⟩=>ho pins s1 σ H1 x v Q I1 r1 q1)
theorem opI {f:Value->Value->Sem Value} {C:Int->Int->Prop} {g:Int->Int->Int}
  (rule:∀ (i j:Int) (t u:Tok) (s:Shared) (Q:Value->Shared->Prop) (E:Value->Shared->Prop),C i j->Q (.int (g i j) s.toks) { s with toks:=s.toks+1 }->wpAny (model X.prog X.w) X.A (f (.int i t) (.int j u)) Q E s) :
  OpR X f (rI C λ i j=>.int (g i j)):=by
 intro pins s σ H x y v u Q I rx ry h;obtain ⟨i,j,rfl,rfl,hc,q⟩:=h;obtain ⟨t,rfl⟩:=rx;obtain ⟨t',rfl⟩:=ry;exact rule i j t t' s _ _ hc ⟨.int (g i j),H,I.tok _,⟨_,rfl⟩,q⟩
theorem opI0 {f:Value->Value->Sem Value} {g:Int->Int->Int}
  (rule:∀ (i j:Int) (t u:Tok) (s:Shared) (Q:Value->Shared->Prop) (E:Value->Shared->Prop),Q (.int (g i j) s.toks) { s with toks:=s.toks+1 }->wpAny (model X.prog X.w) X.A (f (.int i t) (.int j u)) Q E s) :
  OpR X f (rI0 λ i j=>.int (g i j)):=by
 intro pins s σ H x y v u Q I rx ry h;obtain ⟨i,j,rfl,rfl,q⟩:=h;obtain ⟨t,rfl⟩:=rx;obtain ⟨t',rfl⟩:=ry;exact rule i j t t' s _ _ ⟨.int (g i j),H,I.tok _,⟨_,rfl⟩,q⟩
theorem opB0 {f:Value->Value->Sem Value} {g:Int->Int->Bool}
  (rule:∀ (i j:Int) (t u:Tok) (s:Shared) (Q:Value->Shared->Prop) (E:Value->Shared->Prop),Q (.bool (g i j)) s->wpAny (model X.prog X.w) X.A (f (.int i t) (.int j u)) Q E s) :
  OpR X f (rI0 λ i j=>.bl (g i j)):=by
 intro pins s σ H x y v u Q I rx ry h;obtain ⟨i,j,rfl,rfl,q⟩:=h;obtain ⟨t,rfl⟩:=rx;obtain ⟨t',rfl⟩:=ry;exact rule i j t t' s _ _ ⟨.bl (g i j),H,I,rfl,q⟩
noncomputable def CDiv (i j:Int):Prop:=0<j/\j<1073741824
noncomputable def CPow (i j:Int):Prop:=0<=j/\j<=1000000/\i.natAbs<2 ^ 64
noncomputable def CMul (i j:Int):Prop:=(-(2 ^ 64)<i/\i<2 ^ 64)∨(-(2 ^ 64)<j/\j<2 ^ 64)
theorem CMul.ok {i j:Int} (h:CMul i j):IntMulOk i j:=by
 rcases h with ⟨h1,h2⟩ | ⟨h1,h2⟩
 ·exact .of_left (intBits_le_64 h1 h2)
 ·exact .of_right (intBits_le_64 h1 h2)
theorem bO:OpR X (binaryOp .Add) (rI0 λ i j=>.int (i+j)):=opI0 λ _ _ _ _ _ _ _ q=>add_int q
theorem op_sub:OpR X (binaryOp .Sub) (rI0 λ i j=>.int (i-j)):=opI0 λ _ _ _ _ _ _ _ q=>sub_int q
theorem op_mul:OpR X (binaryOp .Mult) (rI CMul λ i j=>.int (i*j)):=opI λ _ _ _ _ _ _ _ hc q=>mul_int q hc.ok
theorem ci:OpR X (binaryOp .FloorDiv) (rI CDiv λ i j=>.int (i / j)):=opI λ i j _ _ _ _ _ hc q=>by
 have h1:(0:Int)<j:=hc.1;have h2:j<1073741824:=hc.2;exact floordiv_int (by omega) (by rw [Int.fdiv_eq_ediv_of_nonneg i (by omega)];exact q) (.inl (PyProof.noPylong_small (by omega)))
theorem bv:OpR X (binaryOp .Mod) (rI (λ _ j=>0<j) λ i j=>.int (i % j)):=opI λ i j _ _ _ _ _ hc q=>by
 have h1:(0:Int)<j:=hc;exact mod_int' (by omega) (by rw [Int.fmod_eq_emod_of_nonneg i (by omega)];exact q)
theorem op_pow:OpR X (binaryOp .Pow) (rI CPow λ i j=>.int (i ^ j.toNat)):=opI λ _ _ _ _ _ _ _ hc q=>pow_int_small hc.1 hc.2.1 hc.2.2 q
theorem unI {f:Value->Sem Value} {g:Int->Int}
  (rule:∀ (i:Int) (t:Tok) (s:Shared) (Q:Value->Shared->Prop) (E:Value->Shared->Prop),Q (.int (g i) s.toks) { s with toks:=s.toks+1 }->wpAny (model X.prog X.w) X.A (f (.int i t)) Q E s) :
  UnR X f (rU λ i=>.int (g i)):=by
 intro pins s σ H x v Q I rx h;obtain ⟨i,rfl,q⟩:=h;obtain ⟨t,rfl⟩:=rx;exact rule i t s _ _ ⟨.int (g i),H,I.tok _,⟨_,rfl⟩,q⟩
theorem dk:UnR X (unaryOp .USub) (rU λ i=>.int (-i)):=unI λ _ _ _ _ _ q=>neg_int q
end
noncomputable def scal:V->V->Bool
 | .non,.non=>true | .non,.int _=>true | .int _,.non=>true | .non,.bl _=>true | .bl _,.non=>true | .non,.str _=>true | .str _,.non=>true
 | .int _,.int _=>true | .bl _,.bl _=>true | .str _,.str _=>true | .byt _,.byt _=>true
 | .int _,.str _=>true | .str _,.int _=>true | .bl _,.str _=>true | .str _,.bl _=>true
 | _,_=>false
noncomputable def rEq:R2:=λ x y H Q=>scal x y=true/\Q (.bl (decide (x=y))) H
noncomputable def rNe:R2:=λ x y H Q=>scal x y=true/\Q (.bl (!decide (x=y))) H
theorem dec_int {i j:Int}:decide (V.int i=V.int j)=(i == j):=by
 rw [Bool.eq_iff_iff];simp
theorem dec_bl {i j:Bool}:decide (V.bl i=V.bl j)=(i == j):=by
 rw [Bool.eq_iff_iff];simp
theorem dec_str {i j:Str}:decide (V.str i=V.str j)=(i == j):=by
 rw [Bool.eq_iff_iff];simp
theorem dec_byt {i j:Array UInt8}:decide (V.byt i=V.byt j)=(i.toList == j.toList):=by
 rw [Bool.eq_iff_iff]
 cases i
 cases j;simp
section
variable {X:Cx} {a b c:Expr} {ta tb tc:TE} {pos:Pos}
theorem aN {pins:List (Addr × Obj)} {σ:St} {H:Hp} {s:Shared} {Q:VK} {k k':Bool} (I:Inv X pins σ H s) (q:Q (.bl k) H) (e:k=k'):EP X pins σ Q (.bool k') s:=by
 subst e;exact ⟨.bl k,H,I,rfl,q⟩
theorem cR:OpR X (compareOp .Eq) rEq:=by
 intro pins s σ H x y v u Q I rx ry h;obtain ⟨hs,q⟩:=h
 cases x with
 | non=>
  cases rx
  cases y with
  | non=>cases ry;exact PySem.EqNone.eq_none_none (aN I q (by simp))
  | bl j=>cases ry;exact PySem.EqNone.eq_none_bool (aN I q (by simp))
  | int j=>obtain ⟨t',rfl⟩:=ry;exact PySem.EqNone.eq_none_int (aN I q (by simp))
  | str j=>obtain ⟨t',rfl⟩:=ry;exact PySem.EqNone.eq_none_str (aN I q (by simp))
  | _=>exact absurd (show false=true from hs) ii
 | bl i=>
  cases rx
  cases y with
  | non=>cases ry;exact PySem.EqNone.eq_bool_none (aN I q (by simp))
  | bl j=>cases ry;exact eq_bool (aN I q dec_bl)
  | str j=>obtain ⟨t',rfl⟩:=ry;exact PySem.EqMixed.eq_bool_str (aN I q (by simp))
  | _=>exact absurd (show false=true from hs) ii
 | int i=>
  obtain ⟨t,rfl⟩:=rx
  cases y with
  | non=>cases ry;exact PySem.EqNone.eq_int_none (aN I q (by simp))
  | int j=>obtain ⟨t',rfl⟩:=ry;exact eq_int (aN I q dec_int)
  | str j=>obtain ⟨t',rfl⟩:=ry;exact PySem.EqMixed.eq_int_str (aN I q (by simp))
  | _=>exact absurd (show false=true from hs) ii
 | str i=>
  obtain ⟨t,rfl⟩:=rx
  cases y with
  | non=>cases ry;exact PySem.EqNone.eq_str_none (aN I q (by simp))
  | bl j=>cases ry;exact PySem.EqMixed.eq_str_bool (aN I q (by simp))
  | int j=>obtain ⟨t',rfl⟩:=ry;exact PySem.EqMixed.eq_str_int (aN I q (by simp))
  | str j=>obtain ⟨t',rfl⟩:=ry;exact eq_str (aN I q dec_str)
  | _=>exact absurd (show false=true from hs) ii
 | byt i=>
  obtain ⟨t,rfl⟩:=rx
  cases y with
  | byt j=>obtain ⟨t',rfl⟩:=ry;exact PySem.W.eq_bytes (aN I q dec_byt)
  | _=>exact absurd (show false=true from hs) ii
 | _=>cases y <;> exact absurd (show false=true from hs) ii
theorem fI:OpR X (compareOp .NotEq) rNe:=by
 intro pins s σ H x y v u Q I rx ry h;obtain ⟨hs,q⟩:=h
 cases x with
 | non=>
  cases rx
  cases y with
  | non=>cases ry;exact PySem.EqNone.ne_none_none (aN I q (by simp))
  | bl j=>cases ry;exact PySem.EqNone.ne_none_bool (aN I q (by simp))
  | int j=>obtain ⟨t',rfl⟩:=ry;exact PySem.EqNone.ne_none_int (aN I q (by simp))
  | str j=>obtain ⟨t',rfl⟩:=ry;exact PySem.EqNone.ne_none_str (aN I q (by simp))
  | _=>exact absurd (show false=true from hs) ii
 | bl i=>
  cases rx
  cases y with
  | non=>cases ry;exact PySem.EqNone.ne_bool_none (aN I q (by simp))
  | bl j=>cases ry;exact ne_bool (aN I q (ix not dec_bl))
  | str j=>obtain ⟨t',rfl⟩:=ry;exact PySem.EqMixed.ne_bool_str (aN I q (by simp))
  | _=>exact absurd (show false=true from hs) ii
 | int i=>
  obtain ⟨t,rfl⟩:=rx
  cases y with
  | non=>cases ry;exact PySem.EqNone.ne_int_none (aN I q (by simp))
  | int j=>obtain ⟨t',rfl⟩:=ry;exact ne_int (aN I q (ix not dec_int))
  | str j=>obtain ⟨t',rfl⟩:=ry;exact PySem.EqMixed.ne_int_str (aN I q (by simp))
  | _=>exact absurd (show false=true from hs) ii
 | str i=>
  obtain ⟨t,rfl⟩:=rx
  cases y with
  | non=>cases ry;exact PySem.EqNone.ne_str_none (aN I q (by simp))
  | bl j=>cases ry;exact PySem.EqMixed.ne_str_bool (aN I q (by simp))
  | int j=>obtain ⟨t',rfl⟩:=ry;exact PySem.EqMixed.ne_str_int (aN I q (by simp))
  | str j=>obtain ⟨t',rfl⟩:=ry;exact ne_str (aN I q (ix not dec_str))
  | _=>exact absurd (show false=true from hs) ii
 | byt i=>
  obtain ⟨t,rfl⟩:=rx
  cases y with
  | byt j=>obtain ⟨t',rfl⟩:=ry;exact PySem.W.ne_bytes (aN I q (ix not dec_byt))
  | _=>exact absurd (show false=true from hs) ii
 | _=>cases y <;> exact absurd (show false=true from hs) ii
theorem eR:OpR X (compareOp .Lt) (rI0 λ i j=>.bl (decide (i<j))):=opB0 λ _ _ _ _ _ _ _ q=>lt_int q
theorem op_le:OpR X (compareOp .LtE) (rI0 λ i j=>.bl (decide (i<=j))):=opB0 λ _ _ _ _ _ _ _ q=>le_int q
theorem gm:OpR X (compareOp .Gt) (rI0 λ i j=>.bl (decide (j<i))):=opB0 λ _ _ _ _ _ _ _ q=>gt_int q
theorem op_ge:OpR X (compareOp .GtE) (rI0 λ i j=>.bl (decide (j<=i))):=opB0 λ _ _ _ _ _ _ _ q=>ge_int q
theorem op_isN:OpR X (compareOp .Is) (λ x y H Q=>y=.non/\Q (.bl (decide (x=.non))) H):=by
 intro pins s σ H x y v u Q I rx ry h;obtain ⟨rfl,q⟩:=h
 cases ry;refine is_none_gen (aN I q ?_)
 cases x <;> first
  | (cases rx;rfl)
  | (obtain ⟨t,rfl⟩:=rx;rfl)
theorem op_notN:OpR X (compareOp .IsNot) (λ x y H Q=>y=.non/\Q (.bl (!decide (x=.non))) H):=by
 intro pins s σ H x y v u Q I rx ry h;obtain ⟨rfl,q⟩:=h
 cases ry;refine isnot_none_gen (aN I q ?_)
 cases x <;> first
  | (cases rx;rfl)
  | (obtain ⟨t,rfl⟩:=rx;rfl)
theorem av (b:Expr) {op:CmpOp} (h:op≠.In:=by decide) (h2:op≠.NotIn:=by decide):behindInMarks op b=false:=by
 have e1:(op == CmpOp.In)=false:=by cases op <;> first | rfl | exact absurd rfl h
 have e2:(op == CmpOp.NotIn)=false:=by cases op <;> first | rfl | exact absurd rfl h2
 cases b <;> simp [behindInMarks,e1,e2]
theorem cD {op:CmpOp} {r:R2} (ho:OpR X (compareOp op) r) (ha:PE X a ta) (hb:PE X b tb) (hm:behindInMarks op b=false):PE X (.Compare a [op] [b] pos) (tOp r ta tb):=by
 intro pins s σ H Q I h;exact wpAny_Compare1 (binT ha hb I h λ v u s2 x y H2 I2 rx ry q=>ho pins s2 σ H2 x y v u Q I2 rx ry q) hm
inductive ItTest (Q:Bool->Hp->Prop) (x:V) (H':Hp):Prop
 | mk (k:_) (h1:x=.bl k) (h2:Q k H'):ItTest Q x H'
noncomputable def tTest (t:TE):TT:=λ σ H Q=>t σ H λ x H'=>ItTest Q x H'
theorem ar {op:CmpOp} {r:R2} (ho:OpR X (compareOp op) r) (ha:PE X a ta) (hb:PE X b tb) (hm:behindInMarks op b=false):PT X (.Compare a [op] [b] pos) (tTest (tOp r ta tb)):=by
 intro pins s σ H Q I h
 refine wpAny_isTrue_Compare1 (thn (ha pins s σ H _ I h) λ v s1 ⟨x,H1,I1,r1,q1⟩=>thn (hb pins s1 σ H1 _ I1 q1) λ u s2 ⟨y,H2,I2,r2,q2⟩=>
  thn (ho pins s2 σ H2 x y v u _ I2 r1 r2 q2) λ c s3 ⟨z,H3,I3,r3,k,e,q3⟩=>?_) hm
 subst e
 cases r3;exact wpAny_truthy_bool ⟨H3,I3,q3⟩
theorem line63:(sizeLine:Nat)<2 ^ 63:=by rw [sizeLine_eq];decide
theorem op_add_str:OpR X (binaryOp .Add) (λ x y H Q=>∃ i j,x=.str i/\y=.str j/\i.length+j.length<=sizeLine/\Q (.str (i++j)) H):=by
 intro pins s σ H x y v u Q I rx ry h;obtain ⟨i,j,rfl,rfl,hz,q⟩:=h;obtain ⟨t,rfl⟩:=rx;obtain ⟨t',rfl⟩:=ry;exact add_str (λ t' tk=>⟨.str (i++j),H,I.tok _,⟨_,rfl⟩,q⟩) hz
theorem fu {x:V} {us:List Value} (r:Vals [x] us):∃ u,us=[u]/\RelV x u:=by
 cases r with
 | cons r1 r2=>cases r2;exact ⟨_,rfl,r1⟩
theorem call_abs:dj X (.builtin "abs") (λ xs H Q=>∃ i,xs=[.int i]/\Q (.int (if i<0 then -i else i)) H):=by
 intro pins s σ H xs us Q I r h;obtain ⟨i,rfl,q⟩:=h;obtain ⟨u,rfl,t,rfl⟩:=fu r;exact call_abs_int λ u tk=>⟨.int (if i<0 then -i else i),H,I.tok _,⟨_,rfl⟩,q⟩
end
end L2
namespace L2
open PySem PySem.Spec PyProof.Rows
structure ObjM (h:Heap) (x dx C:Addr) (mA:Str->Option Value):Prop where
 obj:h.get? x=some (PySem.W.instObj C dx)
 ns:h.Ns1 dx mA
 ne:dx≠x
theorem lookIn_ns {h:Heap} {dx:Addr} {mA:Str->Option Value} (n:h.Ns1 dx mA):∃ od,h.get? dx=some od/\∀ name,PySem.W.lookIn name od=some (mA name):=by
 obtain ⟨o,es,ep,ho,hd,hk,_,hm⟩:=n;refine ⟨o,ho,λ name=>?_⟩;have e:=hm name;unfold nsFind findBy at e;rw [<- Array.find?_toList] at e;unfold PySem.W.lookIn;rw [hd];dsimp only
 split
 ·rename_i y q;rw [q] at e;exact ix some e
 ·rename_i q;rw [q] at e
  have a:es.toList.any (·.refKey)=false:=by
   rw [List.any_eq_false];intro y hy;obtain ⟨z,t,hkey⟩:=hk y (Array.mem_toList_iff.mp hy);simp [DictEntry.refKey,hkey]
  have a':¬ es.toList.any (·.refKey)=true:=by rw [a];exact ii
  rw [if_neg a'];exact ix some e
theorem ObjM.look {h:Heap} {x dx C:Addr} {mA:Str->Option Value} (I:ObjM h x dx C mA):∃ od,PySem.W.InstAt h x (PySem.W.instObj C dx) C (some od)/\∀ name,PySem.W.lookIn name od=some (mA name):=
 let ⟨od,ho,hl⟩:=lookIn_ns I.ns
 ⟨od,⟨I.obj,rfl,rfl,ho⟩,hl⟩
section
variable {prog:Program} {w:World} {A:Around} {E:Value->Shared->Prop} {s:Shared} {K:W.Frag} {x dx C f:Addr} {mA:Str->Option Value} {name:Str} {v:Value}
theorem get_map {expr:Bool} {Q:Value->Shared->Prop} (X:K.In s.heap) (I:ObjM s.heap x dx C mA) (hg:PySem.W.plainGet K C name=true) (hh:PySem.W.hasDictIn K C=true)
  (ha:PySem.W.findIn K (.ref C) name=some none) (hv:mA name=some v) (hv':PySem.W.handedIn v=true) (h:Q v { s with toks:=s.toks+1 }) :
  wpAny (model prog w) A (getAttr (.ref x) name expr) Q E s:=by
 obtain ⟨od,J,hl⟩:=I.look;exact PySem.W.get_value X J (PySem.W.plainGet_of hg).1 (PySem.W.findObj_own hh ha rfl (by rw [hl,hv])) hv' h
theorem get_meth {pl:Sem Bool} {Q:Value × List Value->Shared->Prop} (X:K.In s.heap) (I:ObjM s.heap x dx C mA) (hg:PySem.W.plainGet K C name=true)
  (hf:PySem.W.findIn K (.ref C) name=some (some (.ref f))) (ht:PySem.W.isFn K (.ref f)=true) (hv:mA name=none) (h:Q (.ref f,[.ref x]) s) :
  wpAny (model prog w) A (getMethod (.ref x) name pl) Q E s:=by
 obtain ⟨od,J,hl⟩:=I.look;exact PySem.W.method_fn X J (PySem.W.plainGet_of hg).1 (PySem.W.plainGet_of hg).2 hf (beq_iff_eq.mp ht) (by show (PySem.W.lookIn name od).map (·.isSome)=some false;rw [hl,hv];rfl) h
theorem set_map {ns:List Str} {Q:Unit->Shared->Prop} (X:K.In s.heap) (I:ObjM s.heap x dx C mA)
  (hs:PySem.W.findIn K (.ref C) "__setattr__"=some (some (.builtin "object.__setattr__"))) (hp:PySem.W.plainOver K C=true) (ht:PySem.W.takerIn K C name=some none) (hh:PySem.W.hasDictIn K C=true)
  (hw:PySem.Within mA ns) (hsz:ns.length<=sizeLine)
  (h:∀ h',ObjM h' x dx C (λ y=>if y=name then some v else mA y)->Heap.SameBut dx s.heap h'->Q () { s with heap:=h',toks:=s.toks+2 }) :
  wpAny (model prog w) A (setAttr (.ref x) name v) Q E s:=by
 obtain ⟨od,J,hl⟩:=I.look;refine PySem.W.set_plain X J hs (PySem.W.osa_open (s:={ s with toks:=s.toks+1 }) (r:=none) X J hp ht λ b=>?_);obtain ⟨cd,hc,hd'⟩:=PySem.W.any_some hh;have hx:s.heap.get? x=some ⟨.ref C,some dx,.plain,#[]⟩:=I.obj;refine ip (iE (ip (ip (wpAny_loadPart hx (ip (PySem.W.Looks.here (s:={ s with toks:=s.toks+1 }) (PySem.W.looks_clsIn X hc) ?_))))));rw [hd'];refine iE (a:=some dx) (ip (iE (ip ?_)));refine wpAny_nsSet1 (s:={ s with toks:=s.toks+1 }) I.ns λ h' hn2 hs2=>?_;obtain ⟨oD,esD,epD,hoD,hdD,hcD⟩:=hn2.count (PySem.Within.cons name v hw);refine ip (wpAny_lookBehind hoD (by rw [hdD];exact pastItsLine_dict (gZ hcD (by rw [ia];omega))) ?_);exact iE (h _ ⟨(hs2.2 _ (Ne.symm I.ne)).trans I.obj,hn2,I.ne⟩ hs2)
theorem make_map {R:Result->Shared->Prop} {vs:List Value} {kw:List (Str × Value)} (X:K.In s.heap) (hm:PySem.W.makesIn K C=true)
  (hi:PySem.W.findIn K (.ref C) "__init__"=some (some (.ref f))) (hf:PySem.W.typeIn K (.ref f)=some (.type "function"))
  (h:codeAny (model prog w) (A.under (.builtin "type.__call__" ⟨.ref C::vs,kw⟩)) (.call (.ref f) ⟨.ref (s.heap.objs.size+1)::vs,kw⟩) (PySem.W.InitBack (s.heap.objs.size+1) R)
   { s with heap:=(s.heap.push PySem.W.emptyDict).push (PySem.W.instObj C s.heap.objs.size) }) :
  codeAny (model prog w) A (.call (.ref C) ⟨vs,kw⟩) R s:=by
 obtain ⟨hh,g,d,t,os⟩:=s;exact PySem.W.make_core (PySem.W.makes_of X hm) (PySem.W.looks_findIn X hi) (λ self=>PySem.W.bind_fn X self hf) (.inl rfl) h
end
noncomputable def aR (f:Str) (v:V):List (Str × V)->List (Str × V)
 | []=>[(f,v)]
 | (g,x)::r=>if g=f then (g,v)::r else (g,x)::aR f v r
theorem bX (f g:Str) (v:V):∀ fs:List (Str × V),(aR f v fs).lookup g=if g=f then some v else fs.lookup g
 | []=>by
  show List.lookup g [(f,v)]=_;by_cases h:g=f
  ·have hb:(g == f)=true:=beq_iff_eq.mpr h;simp only [List.lookup,hb,if_pos h]
  ·have hb:(g == f)=false:=iV.mpr h;simp only [List.lookup,hb,if_neg h]
 | (k,x)::r=>by
  have ih:=bX f g v r;rw [show aR f v ((k,x)::r)=(if k=f then (k,v)::r else (k,x)::aR f v r) from rfl];by_cases hk:k=f
  ·rw [if_pos hk];by_cases h:g=k
   ·have hb:(g == k)=true:=beq_iff_eq.mpr h;simp only [List.lookup,hb,if_pos (h.trans hk)]
   ·have hb:(g == k)=false:=iV.mpr h;simp only [List.lookup,hb,if_neg (λ e:g=f=>h (e.trans hk.symm))]
  ·rw [if_neg hk];by_cases h:g=k
   ·have hb:(g == k)=true:=beq_iff_eq.mpr h;simp only [List.lookup,hb,if_neg (λ e:g=f=>hk (h.symm.trans e))]
   ·have hb:(g == k)=false:=iV.mpr h;simp only [List.lookup,hb];exact ih
theorem keys_putF (f:Str) (v:V):∀ fs:List (Str × V),f∈(aR f v fs).map (·.1)/\∀ g,g∈fs.map (·.1)->g∈(aR f v fs).map (·.1)
 | []=>⟨by simp [aR],λ g h=>by simp at h⟩
 | (k,x)::r=>by
  obtain ⟨i1,i2⟩:=keys_putF f v r;rw [show aR f v ((k,x)::r)=(if k=f then (k,v)::r else (k,x)::aR f v r) from rfl];by_cases hk:k=f
  ·rw [if_pos hk];subst hk;exact ⟨by simp,λ g h=>by simpa using h⟩
  ·rw [if_neg hk];refine ⟨?_,λ g h=>?_⟩
   ·rw [iM];exact g6 _ i1
   ·rw [iM] at h ⊢;rcases hV.mp h with e | e
    ·exact hV.mpr (.inl e)
    ·exact g6 _ (i2 g e)
theorem bq (f:Str) (v:V):∀ fs:List (Str × V),(aR f v fs).length<=fs.length+1
 | []=>by simp [aR]
 | (k,x)::r=>by
  have ih:=bq f v r;rw [show aR f v ((k,x)::r)=(if k=f then (k,v)::r else (k,x)::aR f v r) from rfl];by_cases hk:k=f
  ·rw [if_pos hk,ia,ia];omega
  ·rw [if_neg hk,ia,ia];omega
theorem RelO.some_of {v:V} {o:Option Value} (r:RelO (some v) o):∃ u,o=some u/\RelV v u:=by
 cases o with
 | none=>exact (show False from r).elim
 | some u=>exact ⟨u,rfl,r⟩
theorem RelO.none_of {o:Option Value} (r:RelO none o):o=none:=by
 cases o with
 | none=>rfl
 | some u=>exact (show False from r).elim
theorem handed_of {v:V} {u:Value} (r:RelV v u):PySem.W.handedIn u=true:=by
 cases v with
 | non=>cases (show u=Value.none from r);rfl
 | bl b=>cases (show u=Value.bool b from r);rfl
 | int i=>obtain ⟨t,e⟩:=(show ∃ t,u=Value.int i t from r);cases e;rfl
 | str x=>obtain ⟨t,e⟩:=(show ∃ t,u=Value.str x t from r);cases e;rfl
 | byt b=>obtain ⟨t,e⟩:=(show ∃ t,u=Value.bytes b t from r);cases e;rfl
 | flt b=>obtain ⟨t,e⟩:=(show ∃ t,u=Value.float b t from r);cases e;rfl
 | ref a=>cases (show u=Value.ref a from r);rfl
 | ty n=>cases (show u=Value.type n from r);rfl
section
variable {P:Program} {w:World} {H H':Hp} {h h':Heap} {a C dx:Addr} {fs fs':List (Str × V)}
theorem ins_get (hok:HOk P w H h) (e:H a=some (.ins C dx fs)):∃ mA,ObjM h a dx C mA/\(∀ f,RelO (fs.lookup f) (mA f))/\PySem.Within mA (fs.map (·.1))/\fs.length<=1000/\H dx=some (.own a):=by
 obtain ⟨d,z,ne,ob,mA,n,r,q⟩:=(show ObjOk P w H h a (.ins C dx fs) from hok a _ e);exact ⟨mA,⟨ob,n,ne⟩,r,q,z,d⟩
end
structure Cls (K:W.Frag) (C:Addr):Prop where
 pg:PySem.W.plainGet K C Str.empty=true
 hd:PySem.W.hasDictIn K C=true
 po:PySem.W.plainOver K C=true
 sa:PySem.W.findIn K (.ref C) "__setattr__"=some (some (.builtin "object.__setattr__"))
theorem Cls.get {K:W.Frag} {C:Addr} (c:Cls K C) (f:Str):PySem.W.plainGet K C f=true:=c.pg
noncomputable def NoAttr (K:W.Frag) (C:Addr) (f:Str):Prop:=PySem.W.findIn K (.ref C) f=some none
theorem NoAttr.taker {K:W.Frag} {C:Addr} {f:Str} (n:NoAttr K C f):PySem.W.takerIn K C f=some none:=by
 unfold PySem.W.takerIn;rw [show PySem.W.findIn K (.ref C) f=some none from n];rfl
structure Con (K:W.Frag) (C:Addr) (f:Str) (v:V) (u:Value):Prop where
 at_:PySem.W.findIn K (.ref C) f=some (some u)
 rel:RelV v u
 get:PySem.W.specialIn K u "__get__"=some none
 cp:PySem.W.copiedNames.contains f=false
structure Meth (K:W.Frag) (C:Addr) (m:Str) (f:Addr):Prop where
 at_:PySem.W.findIn K (.ref C) m=some (some (.ref f))
 fn:PySem.W.isFn K (.ref f)=true
 kp:PySem.W.keepIn K (.ref f)=true
section
variable {X:Cx} {pins:List (Addr × Obj)} {σ:St} {H:Hp} {s:Shared} {a C dx:Addr} {fs:List (Str × V)} {f:Str} {v:V} {A:Around} {E:Value->Shared->Prop}
theorem fP {b:Bool} {Q:Value->Shared->Prop} (I:Inv X pins σ H s) (e:H a=some (.ins C dx fs)) (c:Cls X.K C) (n:NoAttr X.K C f) (l:fs.lookup f=some v)
  (h:∀ u s',Inv X pins σ H s'->RelV v u->Q u s'):wpAny (model X.prog X.w) A (getAttr (.ref a) f b) Q E s:=by
 obtain ⟨mA,O,r,_,_,_⟩:=ins_get I.hok e;obtain ⟨u,hu,ru⟩:=RelO.some_of (v:=v) (o:=mA f) (by rw [<- l];exact r f);exact get_map I.kIn O (c.get f) c.hd n hu (handed_of ru) (h u _ (I.tok _) ru)
theorem dS {m:Str} {g:Addr} {pl:Sem Bool} {Q:Value × List Value->Shared->Prop} (I:Inv X pins σ H s) (e:H a=some (.ins C dx fs)) (c:Cls X.K C) (k:Meth X.K C m g) (l:fs.lookup m=none)
  (h:Q (.ref g,[.ref a]) s):wpAny (model X.prog X.w) A (getMethod (.ref a) m pl) Q E s:=by
 obtain ⟨mA,O,r,_,_,_⟩:=ins_get I.hok e;have hn:mA m=none:=RelO.none_of (by rw [<- l];exact r m);exact get_meth I.kIn O (c.get m) k.at_ k.fn hn h
theorem setattr_ok {y:V} {u:Value} {Q:Unit->Shared->Prop} (I:Inv X pins σ H s) (e:H a=some (.ins C dx fs)) (c:Cls X.K C) (n:NoAttr X.K C f) (hl:fs.length<1000) (ry:RelV y u)
  (h:∀ s',Inv X pins σ (upd H a (.ins C dx (aR f y fs))) s'->Q () s'):wpAny (model X.prog X.w) A (setAttr (.ref a) f u) Q E s:=by
 obtain ⟨mA,O,r,wi,_,ho⟩:=ins_get I.hok e;have hz:(fs.map (·.1)).length<=sizeLine:=by rw [gG,sizeLine_eq];omega
 refine set_map I.kIn O c.sa c.po n.taker c.hd wi hz λ h' O' sb=>h _ ?_;have hd:∃ o,h'.get? dx=some o:=let ⟨o,_,_,e',_⟩:=O'.ns;⟨o,e'⟩
 refine I.write (x:=a) (e:=dx) (by rw [e];exact True.intro) (.inr ho) (λ b q hb z=>(sb.2 b hb).trans z) hd ?_;refine ⟨by rw [af O.ne];exact ho,?_,O.ne,O'.obj,_,O'.ns,λ g=>?_,λ g hg=>?_⟩
 ·have:=bq f y fs;omega
 ·show RelO ((aR f y fs).lookup g) (if g=f then some u else mA g);rw [bX];by_cases q:g=f
  ·rw [if_pos q,if_pos q];exact ry
  ·rw [if_neg q,if_neg q];exact r g
 ·by_cases q:g=f
  ·rw [q];exact (keys_putF f y fs).1
  ·refine (keys_putF f y fs).2 g (wi g λ z=>hg ?_);show (if g=f then some u else mA g)=none;rw [if_neg q];exact z
theorem Inv.made (I:Inv X pins σ H s):Inv X pins σ (upd (upd H s.heap.objs.size (.own (s.heap.objs.size+1))) (s.heap.objs.size+1) (.ins C s.heap.objs.size []))
  { s with heap:=(s.heap.push PySem.W.emptyDict).push (PySem.W.instObj C s.heap.objs.size) }:=by
 have e1:(s.heap.push PySem.W.emptyDict).get? s.heap.objs.size=some PySem.W.emptyDict:=ib s.heap rfl
 have e2:((s.heap.push PySem.W.emptyDict).push (PySem.W.instObj C s.heap.objs.size)).get? (s.heap.objs.size+1)=some (PySem.W.instObj C s.heap.objs.size):=by
  have:=ib (s.heap.push PySem.W.emptyDict) (o:=PySem.W.instObj C s.heap.objs.size) rfl
  rwa [Heap.size_push] at this
 have e3:(s.heap.push PySem.W.emptyDict).Ns s.heap.objs.size (λ _=>none):=⟨PySem.W.emptyDict,#[],_,e1,rfl,(λ e he=>absurd he (by simp)),λ _=>rfl⟩;have I1:=I.laid (a:=s.heap.objs.size) (o:=.own (s.heap.objs.size+1)) (h':=s.heap.push PySem.W.emptyDict) (t':=s.toks) (λ b u q=>gO _ q) (gJ _) ⟨_,e1⟩;refine I1.laid (a:=s.heap.objs.size+1) (o:=.ins C s.heap.objs.size []) (t':=s.toks) (λ b u q=>gO _ q) (Nat.le_of_eq (Heap.size_push _ _)) ?_;have ne:s.heap.objs.size≠s.heap.objs.size+1:=iw (Nat.lt_succ_self _);refine ⟨by rw [af ne,ae],gR _,ne,e2,λ _=>none,(Heap.Ns1.of_empty e3).at λ o q=>gO _ q,λ _=>True.intro,λ y hy=>absurd rfl hy⟩
theorem attr_of {prog:Program} {w:World} {env:Env} {e:Expr} {f:Str} {pos:Pos} {s:Shared} {Q:Value->Shared->Prop} (hb:attributeBase e f env (eval e env)=eval e env)
  (h:wpAny (model prog w) A (eval e env) (λ o s₁=>wpAny (model prog w) A (getAttr o f true) Q E s₁) E s):wpAny (model prog w) A (eval (.Attribute e f pos) env) Q E s:=
 Attribute_any_ h (by rw [arm_eval_Attribute,hb])
end
inductive ItFld (K:W.Frag) (f:Str) (Q:VK) (x:V) (H1:Hp):Prop
 | mk (a:_) (C:_) (dx:_) (fs:_) (v:_) (h1:x=.ref a) (h2:H1 a=some (.ins C dx fs)) (h3:Cls K C) (h4:NoAttr K C f) (h5:fs.lookup f=some v) (h6:Q v H1):ItFld K f Q x H1
noncomputable def tFld (K:W.Frag) (ta:TE) (f:Str):TE:=λ σ H Q=>ta σ H λ x H1=>ItFld K f Q x H1
noncomputable def sFld (K:W.Frag) (ta tv:TE) (f:Str):TS:=λ D σ H=>tv σ H λ y H1=>ta σ H1 λ x H2=>∃ a C dx fs,x=.ref a/\H2 a=some (.ins C dx fs)/\Cls K C/\NoAttr K C f/\fs.length<1000/\
 D.nx σ (upd H2 a (.ins C dx (aR f y fs)))
section
variable {X:Cx} {o e value:Expr} {f:Str} {pos pos' tpos:Pos} {ta tv:TE}
theorem ay (he:PE X e ta) (hb:attributeBase e f X.env (eval e X.env)=eval e X.env):PE X (.Attribute e f pos) (tFld X.K ta f):=by
 intro pins s σ H Q I h;refine attr_of hb (thn (he pins s σ H _ I h) λ u s1 ⟨x,H1,I1,rx,a,C,dx,fs,v,ex,ea,c,n,l,q⟩=>?_);subst ex;obtain rfl:u=Value.ref a:=rx;exact fP I1 ea c n l λ u' s2 I2 ru=>⟨v,H1,I2,ru,q⟩
theorem a5 (ha:PE X o ta) (hv:PE X value tv) (hs:swapsWith value (some (.Attribute o f pos')) pos.line X.env=pure false):PS X (.Assign [.Attribute o f pos'] value pos) (sFld X.K ta tv f):=by
 intro pins s σ H D I h;refine plainObj_wpAny_Assign_Attribute (thn (hv pins s σ H _ I h) λ u s1 ⟨y,H1,I1,ry,q⟩=>thn (ha pins s1 σ H1 _ I1 q) λ ov s2 ⟨x,H2,I2,rx,a,C,dx,fs,ex,ea,c,n,l,q2⟩=>?_) hs;subst ex;obtain rfl:ov=Value.ref a:=rx;exact setattr_ok I2 ea c n l ry λ s3 I3=>⟨σ,_,I3,q2⟩
end
section
variable {X:Cx} {pins:List (Addr × Obj)} {σ:St} {H:Hp} {s:Shared} {A:Around} {E:Value->Shared->Prop} {Q:Value->Shared->Prop} {c:Value} {b:Bool}
inductive TyOf (K:W.Frag) (H:Hp):V->Value->Prop where
 | non:TyOf K H .non (.type "NoneType")
 | bl (x:Bool):TyOf K H (.bl x) (.type "bool")
 | int (i:Int):TyOf K H (.int i) (.type "int")
 | str (x:Str):TyOf K H (.str x) (.type "str")
 | flt (x:UInt64):TyOf K H (.flt x) (.type "float")
 | lst {a:Addr} {xs:List V} (e:H a=some (.lst xs)):TyOf K H (.ref a) (.type "list")
 | frz {a:Addr} {o:Obj} {xs:List V} (e:H a=some (.frz o (.lst xs))):TyOf K H (.ref a) (.type "list")
 | tup {a:Addr} {xs:List V} (e:H a=some (.tup xs)):TyOf K H (.ref a) (.type "tuple")
 | dK {a:Addr} {kvs:List (Key × V)} (e:H a=some (.dK kvs)):TyOf K H (.ref a) (.type "dict")
 | dT {a:Addr} {kvs:List (List Key × V)} (e:H a=some (.dT kvs)):TyOf K H (.ref a) (.type "dict")
 | ins {a C dx:Addr} {fs:List (Str × V)} (e:H a=some (.ins C dx fs)) (cl:Cls K C) (ha:PySem.W.findIn K (.ref C) "__class__"=some (some (.builtin "object.__class__")))
   (hn:PySem.W.specialIn K (.builtin "object.__class__") "__get__"=some (some (.builtin "getset_descriptor.__get__"))) (htk:PySem.W.takesIn K (.builtin "object.__class__")=some true)
   (hm:PySem.W.mroIn K C (.type "object")=some true):TyOf K H (.ref a) (.ref C)
theorem isinst_ok {x:V} {u t:Value} (I:Inv X pins σ H s) (rx:RelV x u) (ty:TyOf X.K H x t) (e:PySem.W.kitOne X.K t c=some b) (h:∀ tk,Q (.bool b) { s with toks:=tk }) :
  wpAny (model X.prog X.w) A (call (.builtin "isinstance") [u,c]) Q E s:=by
 cases ty with
 | non=>cases (show u=Value.none from rx);exact iU PySem.W.kitx_none I.kIn True.intro e (λ z=>nomatch z) h
 | bl y=>cases (show u=Value.bool y from rx);exact iU PySem.W.kitx_bool I.kIn True.intro e (λ z=>nomatch z) h
 | int i=>obtain ⟨t,q⟩:=(show ∃ t,u=Value.int i t from rx);cases q;exact iU PySem.W.kitx_int I.kIn True.intro e (λ z=>nomatch z) h
 | str y=>obtain ⟨t,q⟩:=(show ∃ t,u=Value.str y t from rx);cases q;exact iU PySem.W.kitx_str I.kIn True.intro e (λ z=>nomatch z) h
 | flt y=>obtain ⟨t,q⟩:=(show ∃ t,u=Value.float y t from rx);cases q;exact iU PySem.W.kitx_float I.kIn True.intro e (λ z=>nomatch z) h
 | @lst a xs ea=>
  cases (show u=Value.ref a from rx);obtain ⟨_,_,n,_,h1⟩:=(show ObjOk X.prog X.w H s.heap a (.lst xs) from I.hok a _ ea);exact iU PySem.W.kitx_list I.kIn ⟨_,h1,rfl⟩ e (λ z=>nomatch z) h
 | @frz a ob xs ea=>
  cases (show u=Value.ref a from rx);obtain ⟨_,_,_,n,_,h1⟩:=(show ObjOk X.prog X.w H s.heap a (.frz ob (.lst xs)) from I.hok a _ ea);exact iU PySem.W.kitx_list I.kIn ⟨_,h1,rfl⟩ e (λ z=>nomatch z) h
 | @tup a xs ea=>
  cases (show u=Value.ref a from rx);obtain ⟨_,_,_,p⟩:=(show ObjOk X.prog X.w H s.heap a (.tup xs) from I.hok a _ ea);obtain ⟨o,h1,h2,_⟩:=p;exact iU PySem.W.kitx_tuple I.kIn ⟨o,h1,h2⟩ e (λ z=>nomatch z) h
 | @dK a kvs ea=>
  cases (show u=Value.ref a from rx);obtain ⟨_,_,vs,_,p⟩:=(show ObjOk X.prog X.w H s.heap a (.dK kvs) from I.hok a _ ea);obtain ⟨o,es,ep,h1,h2,_⟩:=p;exact iU PySem.W.kitx_dict I.kIn ⟨o,h1,h2.1⟩ e (λ z=>nomatch z) h
 | @dT a kvs ea=>
  cases (show u=Value.ref a from rx);obtain ⟨_,_,xs,_,o,es,ep,h1,h2,_⟩:=(show ObjOk X.prog X.w H s.heap a (.dT kvs) from I.hok a _ ea);exact iU PySem.W.kitx_dict I.kIn ⟨o,h1,h2.1⟩ e (λ z=>nomatch z) h
 | @ins a C dx fs ea cl ha hn htk hm=>
  cases (show u=Value.ref a from rx);obtain ⟨mA,O,_⟩:=ins_get I.hok ea;obtain ⟨od,J,_⟩:=O.look;exact iU (PySem.W.kitx_own (cl.get _) cl.hd ha hn htk hm) I.kIn J e (λ z=>nomatch z) h
end
end L2
namespace L2
open PySem PySem.Spec PyProof.Rows
structure Room (k:Nat) (A:Around):Prop where
 hd:A.handled=none
 dp:A.depth+3*k+5<recursionLimit
 un:A.units+16*k+200<cLine
theorem Room.mono {j k:Nat} {A:Around} (r:Room k A) (h:j<=k):Room j A:=⟨r.hd,by have:=r.dp;omega,by have:=r.un;omega⟩
theorem Room.deeper {k:Nat} {A:Around} (r:Room (k+1) A) (env:Env):Room k (A.deeper env):=
 ⟨r.hd,by have:=r.dp;show A.depth+1+3*k+5<_;omega,by have:=r.un;show A.units+3+16*k+200<_;omega⟩
theorem make_depth {A:Around} {C:Addr} {us:List Value} {kw:List (Str × Value)}:(A.under (.builtin "type.__call__" ⟨.ref C::us,kw⟩)).depth=A.depth+1:=by
 first | rfl | simp [Around.under,Code.weight,Code.isCreation,Code.isGuard,Code.isCaller,Code.frames,Code.isFrame,guardIds]
theorem make_units {A:Around} {C:Addr} {us:List Value} {kw:List (Str × Value)}:(A.under (.builtin "type.__call__" ⟨.ref C::us,kw⟩)).units=A.units+1:=by
 first | rfl | simp [Around.under,Code.cUnits,Code.frames,Code.isFrame]
theorem Room.make {k:Nat} {A:Around} (r:Room (k+1) A) (C:Addr) (us:List Value) (kw:List (Str × Value)):Room k (A.under (.builtin "type.__call__" ⟨.ref C::us,kw⟩)):=
 ⟨r.hd,by have:=r.dp;rw [make_depth];omega,by have:=r.un;rw [make_units];omega⟩
theorem Room.depth {k:Nat} {A:Around} (r:Room k A):A.depth<recursionLimit:=by have:=r.dp;omega
theorem Room.units {k:Nat} {A:Around} (r:Room k A):A.units+64<cLine:=by have:=r.un;omega
theorem Room.units0 {k:Nat} {A:Around} (r:Room k A):A.units<cLine:=by have:=r.un;omega
noncomputable def tNil:TA:=λ _ H Q=>Q [] H
noncomputable def tCons (ta:TE) (tr:TA):TA:=λ σ H Q=>ta σ H λ x H1=>tr σ H1 λ xs H2=>Q (x::xs) H2
section
variable {X:Cx} {e:Expr} {es:List Expr} {te:TE} {t:TA} {pos:Pos}
theorem ad:PA X [] tNil:=λ _ _ _ _ H Q I h=>Calls.spliced_nil ⟨[],H,I,.nil,h⟩
theorem aa (ha:PE X e te) (hr:PA X es t) (hs:starEach (e::es) X.env=(false,eval e X.env)::starEach es X.env:=by rfl):PA X (e::es) (tCons te t):=by
 intro pos pins s σ H Q I h;rw [hs];show wpAny _ _ (spliced ((false,eval e X.env)::backTo pos (starEach es X.env))) _ _ s;refine Calls.spliced_cons (thn (ha pins s σ H _ I h) λ u s1 ⟨x,H1,I1,r1,q1⟩=>?_);exact thn (hr pos pins s1 σ H1 _ I1 q1) λ us s2 ⟨xs,H2,I2,r2,q2⟩=>⟨x::xs,H2,I2,.cons r1 r2,q2⟩
noncomputable def tTup (t:TA):TE:=λ σ H Q=>t σ H λ xs H1=>xs.length<=sizeLine/\∀ p,H1 p=none->Q (.ref p) (upd H1 p (.tup xs))
noncomputable def tLst (t:TA):TE:=λ σ H Q=>t σ H λ xs H1=>xs.length<=sizeLine/\∀ p,H1 p=none->Q (.ref p) (upd H1 p (.lst xs))
theorem bK {x1} (h:PA X es t):PE X (.Tuple es x1 pos) (tTup t):=by
 intro pins s σ H Q I hq;refine wpAny_Tuple_spliced (thn (h pos pins s σ H _ I hq) λ us s1 ⟨xs,H1,I1,r,z,q⟩=>⟨by rw [<- r.length];exact z,?_⟩);have hf:H1 s1.heap.objs.size=none:=I1.hok.fresh (gJ _);refine ⟨.ref s1.heap.objs.size,upd H1 s1.heap.objs.size (.tup xs),I1.laid (t':=s1.toks) (λ b u e=>gO _ e) (gJ _) ?_,rfl,q _ hf⟩;exact ⟨z,us,r,⟨_,ib _ rfl,rfl,_,rfl⟩⟩
theorem a6 (h:PA X es t):PE X (.List es pos) (tLst t):=by
 intro pins s σ H Q I hq;refine wpAny_List_spliced (thn (h pos pins s σ H _ I hq) λ us s1 ⟨xs,H1,I1,r,z,q⟩=>⟨by rw [<- r.length];exact z,?_⟩);have hf:H1 s1.heap.objs.size=none:=I1.hok.fresh (gJ _);refine ⟨.ref s1.heap.objs.size,upd H1 s1.heap.objs.size (.lst xs),I1.laid (t':=s1.toks) (λ b u e=>gO _ e) (gJ _) ?_,rfl,q _ hf⟩;exact ⟨z,us,0,r,ib _ rfl⟩
end
noncomputable abbrev Sp:=List V->Hp->VK->XK->Prop
noncomputable abbrev CXT:=List Env->Hp->Shared->XK->Value->Shared->Prop
structure Env0 (P:Program) (w:World) (K:W.Frag) (mg:Str->Option Value) (base:Heap) (A:Around) (outer:List Env) (s:Shared) (H:Hp):Prop where
 frames:A.frames=some outer
 mod:Mod K mg base
 bs:∀ b o,base.get? b=some o->s.heap.get? b=some o/\H b=none
 bsz:base.objs.size<=s.heap.objs.size
 funs:s.heap.FunFrames base outer
 frf:∀ b∈frs outer,H b=none
 hok:HOk P w H s.heap
 bare:AllBare s.gens
noncomputable def CE (outer:List Env) (P:Program) (w:World) (H:Hp) (s:Shared) (Q:VK) (u:Value) (s':Shared):Prop:=
 ∃ v H',s'.os=s.os/\AllBare s'.gens/\Un (frs outer) [] H H' s.heap s'.heap/\HOk P w H' s'.heap/\RelV v u/\Q v H'
noncomputable def CR (CX:CXT) (outer:List Env) (P:Program) (w:World) (H:Hp) (s:Shared) (Q:VK) (E:XK) (r:Result) (s':Shared):Prop:=
 match r with
 | .ok (.ret u)=>CE outer P w H s Q u s'
 | .ok _=>False
 | .error e=>CX outer H s E e s'
structure FnOk (P:Program) (w:World) (K:W.Frag) (mg:Str->Option Value) (base:Heap) (CX:CXT) (k:Nat) (f:Addr) (fd:FuncData) (ps:List Str) (sp:Sp):Prop where
 len:∀ vs H Q E,sp vs H Q E->vs.length=ps.length
 run:∀ (A:Around) (outer:List Env) (s:Shared) (H:Hp) (args:Args) (us:List Value) (vs:List V) (Q:VK) (E:XK),Room k A->Env0 P w K mg base A outer s H->BindsTo s fd args (ps.zip us)->Vals vs us->sp vs H Q E->
  codeAny (model P w) A (.call (.ref f) args) (CR CX outer P w H s Q E) s
theorem FnOk.imp {P:Program} {w:World} {K:W.Frag} {mg:Str->Option Value} {base:Heap} {CX:CXT} {k:Nat} {f:Addr} {fd:FuncData} {ps:List Str} {sp sp':Sp} (F:FnOk P w K mg base CX k f fd ps sp)
  (h:∀ vs H Q E,sp' vs H Q E->sp vs H Q E):FnOk P w K mg base CX k f fd ps sp':=
 ⟨λ vs H Q E q=>F.len vs H Q E (h _ _ _ _ q),λ A outer s H args us vs Q E hr he hb hv hs=>F.run A outer s H args us vs Q E hr he hb hv (h _ _ _ _ hs)⟩
theorem Env0.make {P:Program} {w:World} {K:W.Frag} {mg:Str->Option Value} {base:Heap} {A:Around} {outer:List Env} {s:Shared} {H:Hp} (e:Env0 P w K mg base A outer s H) (C:Addr) (us:List Value) (kw:List (Str × Value)) :
  Env0 P w K mg base (A.under (.builtin "type.__call__" ⟨.ref C::us,kw⟩)) outer s H:=⟨by first | exact e.frames | (simpa [Around.under,Code.envs,Code.isFrame,pushEnvs] using e.frames),e.mod,e.bs,e.bsz,e.funs,e.frf,e.hok,e.bare⟩
section
variable {X:Cx} {pins:List (Addr × Obj)} {σ:St} {H:Hp} {s s':Shared}
theorem Inv.env0 (I:Inv X pins σ H s):Env0 X.prog X.w X.K X.mg X.base X.A X.stack s H:=
 ⟨I.ok.frames,I.ok.mod,I.bs,gZ I.ok.bsz I.sz,I.stack,I.stkFree,I.hok,I.bare⟩
theorem Inv.after {Q:VK} {u:Value} (I:Inv X pins σ H s) (h:CE X.stack X.prog X.w H s Q u s'):EP X pins σ Q u s':=by
 obtain ⟨v,H',os,bare,un,hok,r,q⟩:=h;obtain ⟨hh,g,d,t,os'⟩:=s';obtain rfl:os'=s.os:=os;exact ⟨v,H',I.call (h':=hh) (g':=g) (d':=d) (t':=t) (ch:=[]) un hok bare (λ b z=>absurd z (by simp)),r,q⟩
end
noncomputable def tCall (sp:Sp) (dvs:List V) (E:XK) (t:TA):TE:=λ σ H Q=>t σ H λ vs H1=>sp (vs++dvs) H1 Q E
inductive ItMeth (C:Addr) (m:Str) (sp:Sp) (dvs:List V) (E:XK) (t:TA) (σ:St) (Q:VK) (x:V) (H1:Hp):Prop
 | mk (a:_) (dx:_) (fs:_) (h1:x=.ref a) (h2:H1 a=some (.ins C dx fs)) (h3:fs.lookup m=none) (h4:t σ H1 λ vs H2=>sp (x::(vs++dvs)) H2 Q E):ItMeth C m sp dvs E t σ Q x H1
noncomputable def tMake (C:Addr) (sp:Sp) (dvs:List V) (E:XK) (t:TA):TE:=λ σ H Q=>t σ H λ vs H1=>∀ x dx,H1 x=none->H1 dx=none->dx≠x->
 sp (.ref x::(vs++dvs)) (upd (upd H1 dx (.own x)) x (.ins C dx [])) (λ v H2=>v=.non/\Q (.ref x) H2) E
noncomputable def Binds (K:W.Frag) (fd:FuncData) (ps:List Str) (ds:List Value):Prop:=
 ∀ (s:Shared) (us:List Value),K.In s.heap->(us++ds).length=ps.length->BindsTo s fd ⟨us,[]⟩ (ps.zip (us++ds))
theorem Binds.all {K:W.Frag} {fd:FuncData} {ps:List Str} (h:∀ us:List Value,us.length=ps.length->bindArgs fd ⟨us,[]⟩=pure (ps.zip us)):Binds K fd ps []:=λ s us _ hl=>by
 rw [iB] at hl ⊢;exact .of_eq (h us hl)
noncomputable def cb (CX:CXT) (X:Cx) (E:XK):Prop:=∀ (pins:List (Addr × Obj)) (σ:St) (H:Hp) (s:Shared) (e:Value) (s':Shared),Inv X pins σ H s->CX X.stack H s E e s'->X.xe e s'
section
variable {X:Cx} {CX:CXT} {k:Nat} {f C:Addr} {fd:FuncData} {ps:List Str} {sp:Sp} {dvs:List V} {ds:List Value} {E:XK} {x m:Str} {p pos apos:Pos} {e o:Expr} {es:List Expr} {ta:TE} {t:TA}
theorem run_fn {pins:List (Addr × Obj)} {σ:St} {H:Hp} {s:Shared} {Q:VK} {us:List Value} {vs:List V} (F:FnOk X.prog X.w X.K X.mg X.base CX k f fd ps sp) (hr:Room k X.A) (hb:Binds X.K fd ps ds) (hd:Vals dvs ds) (hx:cb CX X E)
  (I:Inv X pins σ H s) (r:Vals vs us) (h:sp (vs++dvs) H Q E):wpAny (model X.prog X.w) X.A (call (.ref f) us) (EP X pins σ Q) X.xe s:=by
 have r2:Vals (vs++dvs) (us++ds):=r.append hd;have hl:(us++ds).length=ps.length:=by rw [<- r2.length];exact F.len _ _ _ _ h
 refine wpAny_call (codeAny_mono (F.run X.A X.stack s H ⟨us,[]⟩ (us++ds) (vs++dvs) Q E hr I.env0 (hb s us I.kIn hl) r2 h) λ r s' hq=>?_)
 cases r with
 | error e=>exact hx pins σ H s e s' I hq
 | ok fl=>
  cases fl with
  | ret u=>exact I.after hq
  | next=>exact False.elim hq
  | brk=>exact False.elim hq
  | cont=>exact False.elim hq
theorem pe_call (F:FnOk X.prog X.w X.K X.mg X.base CX k f fd ps sp) (hr:Room k X.A) (hg:Gl X x) (hm:X.mg x=some (.ref f)) (hk:PySem.W.keepIn X.K (.ref f)=true) (hb:Binds X.K fd ps ds) (hd:Vals dvs ds) (hx:cb CX X E)
  (ha:PA X (e::es) t) (hdb:(x == ("__debug__":Str))=false:=by decide) (he:starEach (e::es) X.env=(false,eval e X.env)::starEach es X.env:=by rfl) (hpl:(backTo pos (starEach es X.env)).any (·.1)=false:=by rfl) :
  PE X (.Call (.Name x p) (e::es) [] pos) (tCall sp dvs E t):=by
 intro pins s σ H Q I h;refine wpAny_Call_Name_kw (gA I hg hm ?_ hdb);refine PySem.W.callWith_K (h₀:=X.base) I.ok.mod.kin hk (thn (ha pos pins s σ H _ I h) λ us s1 ⟨vs,H1,I1,r,q⟩=>⟨I1.kIn,?_⟩) he hpl;exact run_fn F hr hb hd hx I1 r q
structure Mk (K:W.Frag) (C f:Addr):Prop where
 makes:PySem.W.makesIn K C=true
 init:PySem.W.findIn K (.ref C) "__init__"=some (some (.ref f))
 fn:PySem.W.isFn K (.ref f)=true
 kp:PySem.W.keepIn K (.ref C)=true
theorem run_make {pins:List (Addr × Obj)} {σ:St} {H:Hp} {s:Shared} {Q:VK} {us:List Value} {vs:List V} (M:Mk X.K C f) (F:FnOk X.prog X.w X.K X.mg X.base CX k f fd ps sp) (hr:Room (k+1) X.A) (hb:Binds X.K fd ps ds) (hd:Vals dvs ds)
  (hx:cb CX X E) (I:Inv X pins σ H s) (r:Vals vs us)
  (h:∀ x dx,H x=none->H dx=none->dx≠x->sp (.ref x::(vs++dvs)) (upd (upd H dx (.own x)) x (.ins C dx [])) (λ v H2=>v=.non/\Q (.ref x) H2) E) :
  wpAny (model X.prog X.w) X.A (call (.ref C) us) (EP X pins σ Q) X.xe s:=by
 have hq:=h (s.heap.objs.size+1) s.heap.objs.size (I.hok.fresh (Nat.le_succ _)) (I.hok.fresh (gJ _)) (iw (Nat.lt_succ_self _));have I2:=Inv.made (C:=C) I;have r2:Vals (V.ref (s.heap.objs.size+1)::(vs++dvs)) (Value.ref (s.heap.objs.size+1)::(us++ds)):=.cons rfl (r.append hd)
 have hl:(Value.ref (s.heap.objs.size+1)::us++ds).length=ps.length:=by
  have e:=r2.length;rw [F.len _ _ _ _ hq] at e;exact e.symm
 refine wpAny_call (make_map (f:=f) I.kIn M.makes M.init (beq_iff_eq.mp M.fn) (codeAny_mono (F.run _ X.stack _ _ ⟨Value.ref (s.heap.objs.size+1)::us,[]⟩ (Value.ref (s.heap.objs.size+1)::(us++ds)) _ _ E (hr.make C us [])
  (I2.env0.make C us []) (hb _ (Value.ref (s.heap.objs.size+1)::us) I2.kIn hl) r2 hq) λ r s' hq'=>?_))
 cases r with
 | error e=>exact hx pins σ _ _ e s' I2 hq'
 | ok fl=>
  cases fl with
  | ret u=>
   obtain ⟨v,H',I3,rv,ev,q3⟩:=I2.after hq';subst ev;exact ⟨rv,⟨V.ref (s.heap.objs.size+1),H',I3,rfl,q3⟩⟩
  | next=>exact False.elim hq'
  | brk=>exact False.elim hq'
  | cont=>exact False.elim hq'
theorem pe_make (M:Mk X.K C f) (F:FnOk X.prog X.w X.K X.mg X.base CX k f fd ps sp) (hr:Room (k+1) X.A) (hg:Gl X x) (hm:X.mg x=some (.ref C)) (hb:Binds X.K fd ps ds) (hd:Vals dvs ds) (hx:cb CX X E)
  (ha:PA X (e::es) t) (hdb:(x == ("__debug__":Str))=false:=by decide) (he:starEach (e::es) X.env=(false,eval e X.env)::starEach es X.env:=by rfl) (hpl:(backTo pos (starEach es X.env)).any (·.1)=false:=by rfl) :
  PE X (.Call (.Name x p) (e::es) [] pos) (tMake C sp dvs E t):=by
 intro pins s σ H Q I h;refine wpAny_Call_Name_kw (gA I hg hm ?_ hdb);refine PySem.W.callWith_K (h₀:=X.base) I.ok.mod.kin M.kp (thn (ha pos pins s σ H _ I h) λ us s1 ⟨vs,H1,I1,r,q⟩=>⟨I1.kIn,?_⟩) he hpl;exact run_make M F hr hb hd hx I1 r q
end
section
variable {X:Cx} {CX:CXT} {k:Nat} {f C:Addr} {fd:FuncData} {ps ks:List Str} {sp:Sp} {E:XK} {x m:Str} {p pos apos kpos:Pos} {e o:Expr} {es:List Expr} {kws:List Keyword} {te ta:TE} {t tk:TA} {nm:Option Str}
variable {g:List Value->List Value->List Value} {gV:List V->List V->List V}
end
structure FnScope (N P:List Str) (sc:Scope):Prop where
 kind:sc.kind=.function
 co:sc.isCoroutine=false
 gen:sc.isGenerator=false
 nd:N.Nodup
 pre:N.take P.length=P
 par:∀ x∈P,sc.names.lookup x=some .local∨sc.names.lookup x=some .cell
 nofree:∀ y∈sc.names,y.2≠.free
theorem bindL_out {kindOf:Str->Option NameKind} {x:Str}:∀ {binds:List (Str × Value)} {m:Str->Option Value},(∀ v,(x,v) ∉ binds)->bindL kindOf binds m x=m x
 | [],_,_=>rfl
 | (n,v)::r,m,h=>by
  unfold bindL;rw [bindL_out λ w hw=>h w (g6 _ hw)]
  split
  ·have:x≠n:=by rintro rfl;exact h v ie
   simp [this]
  ·rfl
theorem bindC_out {kindOf:Str->Option NameKind} {x:Str}:∀ {binds:List (Str × Value)} {m:Str->Option Value},(∀ v,(x,v) ∉ binds)->bindC kindOf binds m x=m x
 | [],_,_=>rfl
 | (n,v)::r,m,h=>by
  unfold bindC;rw [bindC_out λ w hw=>h w (g6 _ hw)]
  split
  ·rfl
  ·have:x≠n:=by rintro rfl;exact h v ie
   simp [this]
theorem bindL_get {kindOf:Str->Option NameKind} {x:Str} {v:Value}:∀ {P:List Str} {vs:List Value} {i:Nat} {m:Str->Option Value},P.Nodup->P[i]?=some x->vs[i]?=some v->kindOf x=some .local->
  bindL kindOf (P.zip vs) m x=some v
 | [],_,_,_,_,h,_,_=>by simp at h
 | _::_,[],_,_,_,_,h,_=>by simp at h
 | p::P,w::vs,0,m,nd,h1,h2,hk=>by
  simp at h1 h2;subst h1;subst h2;show bindL kindOf ((p,w)::P.zip vs) m p=_;unfold bindL;rw [bindL_out λ v hv=>(iC.mp nd).1 (List.of_mem_zip hv).1,if_pos hk];simp
 | p::P,w::vs,i+1,m,nd,h1,h2,hk=>by
  show bindL kindOf ((p,w)::P.zip vs) m x=_;unfold bindL;exact bindL_get (i:=i) (iC.mp nd).2 (by simpa using h1) (by simpa using h2) hk
theorem bindC_get {kindOf:Str->Option NameKind} {x:Str} {v:Value}:∀ {P:List Str} {vs:List Value} {i:Nat} {m:Str->Option Value},P.Nodup->P[i]?=some x->vs[i]?=some v->kindOf x≠some .local->
  bindC kindOf (P.zip vs) m x=some v
 | [],_,_,_,_,h,_,_=>by simp at h
 | _::_,[],_,_,_,_,h,_=>by simp at h
 | p::P,w::vs,0,m,nd,h1,h2,hk=>by
  simp at h1 h2;subst h1;subst h2;show bindC kindOf ((p,w)::P.zip vs) m p=_;unfold bindC;rw [bindC_out λ v hv=>(iC.mp nd).1 (List.of_mem_zip hv).1,if_neg hk];simp
 | p::P,w::vs,i+1,m,nd,h1,h2,hk=>by
  show bindC kindOf ((p,w)::P.zip vs) m x=_;unfold bindC;exact bindC_get (i:=i) (iC.mp nd).2 (by simpa using h1) (by simpa using h2) hk
noncomputable def c5 (N:List Str) (vs:List V):St:=vs.map some++List.replicate (N.length-vs.length) none
noncomputable def aI (CX:CXT) (P:Program) (w:World) (K:W.Frag) (mg:Str->Option Value) (base:Heap) (N:List Str) (qual:Str) (scope:Scope) (f:Addr) (cd:Value) (A:Around) (outer:List Env) (s:Shared) (H:Hp) (E:XK):Cx where
 prog:=P
 w:=w
 K:=K
 mg:=mg
 base:=base
 A:=A.deeper (envOfC qual scope s.heap.objs.size f cd)
 N:=N
 s₀:=s
 H₀:=H
 env:=envOfC qual scope s.heap.objs.size f cd
 outer:=outer
 stack:=envOfC qual scope s.heap.objs.size f cd::outer
 ex:=[]
 calm:=true
 fn:=λ _=>true
 pn:=[]
 xe:=λ e s'=>wpAny (model P w) (A.deeper (envOfC qual scope s.heap.objs.size f cd)) (leaving (envOfC qual scope s.heap.objs.size f cd) e) (λ _ s''=>CX outer H s E e s'') (λ e' s''=>CX outer H s E e' s'') s'
theorem cell_has {sc:Scope} {n:Nat} {x:Str} (h:sc.names.lookup x=some .cell):∃ c,(cellsFrom n sc.names []).lookup x=some c:=by
 have q:=PySem.W.cellsFrom_some sc.names n [] (.inl h);exact Option.isSome_iff_exists.mp q
theorem inv_start {CX:CXT} {P:Program} {w:World} {K:W.Frag} {mg:Str->Option Value} {base:Heap} {N ps:List Str} {qual:Str} {scope:Scope} {f:Addr} {cd:Value} {A:Around} {outer:List Env} {s s1:Shared} {H:Hp} {E:XK} {us:List Value} {vs:List V}
  (S:FnScope N ps scope) (hd:A.handled=none) (e0:Env0 P w K mg base A outer s H) (hl:vs.length=ps.length) (r:Vals vs us)
  (x:InCallC s s.heap.objs.size (bindL (envOfC qual scope s.heap.objs.size f cd).kindOf (ps.zip us) λ _=>none) (cellsFrom (s.heap.objs.size+1) scope.names []) (bindC (envOfC qual scope s.heap.objs.size f cd).kindOf (ps.zip us) λ _=>none) s1) :
  Inv (aI CX P w K mg base N qual scope f cd A outer s H E) [] (c5 N vs) H s1:=by
 have hpl:ps.length<=N.length:=by have:=ix List.length S.pre;rw [gS] at this;omega
 obtain ⟨h1,tk,rfl,hk⟩:=x.done;have noA:∀ b:Addr,b ∉ (aI CX P w K mg base N qual scope f cd A outer s H E).ex:=λ b z=>absurd (show b∈([]:List Addr) from z) (by simp)
 refine ⟨⟨e0.mod,S.kind,rfl,rfl,gJ _,λ y z c h1 h2=>?_,λ y hy=>?_,λ y c _ h=>?_,λ _=>hd,Around.frames_deeper e0.frames,.inr ⟨rfl,rfl⟩,λ b z=>absurd z (noA b),e0.bs,e0.bsz,λ b _ _=>noA b,λ b z=>absurd z (noA b),e0.funs,e0.frf⟩,
  rfl,e0.bare,Un.kept hk,⟨_,x.toInCall.ns,λ i y v h1 h2 h3=>?_⟩,λ y c h=>⟨_,x.cell y c h⟩,e0.hok.fresh (gJ _),λ y c h=>?_,λ p hp=>absurd (show p∈([]:List (Addr × Obj)) from hp) (by simp),e0.hok.kept hk,?_⟩
 ·exact name_of_addr x.apart (iQ h1) (iQ h2)
 ·have hy:scope.names.lookup y=some .cell∨scope.names.lookup y=some .free:=hy;rcases hy with hy | hy
  ·exact cell_has hy
  ·exact absurd rfl (S.nofree _ (iQ hy))
 ·exact Nat.le_of_lt (x.above y c (iQ h))
 ·have hi:i<vs.length:=by
   unfold c5 at h2;by_cases hi:i<vs.length
   ·exact hi
   ·rw [iI (by simpa using hi)] at h2;rw [List.getElem?_replicate] at h2
    split at h2 <;> cases h2
  have ha:vs[i]?=some v:=by
   unfold c5 at h2;rw [List.getElem?_append_left (by simpa using hi),gK] at h2
   cases e:vs[i]? with
   | none=>rw [e] at h2;cases h2
   | some a=>rw [e] at h2;cases h2;rfl
  obtain ⟨u,hu,rv⟩:=r.get ha
  have hp:ps[i]?=some y:=by
   rw [<- S.pre,List.getElem?_take_of_lt (by omega)];exact h1
  have ndP:ps.Nodup:=by rw [<- S.pre];exact S.nd.sublist (List.take_sublist _ _)
  refine ⟨u,rv,?_⟩;rcases S.par y (gI hp) with k | k
  ·exact .inl ⟨k,bindL_get ndP hp hu k⟩
  ·obtain ⟨c,e⟩:=cell_has (n:=s.heap.objs.size+1) k;refine .inr ⟨.inl k,c,e,?_⟩;have q:=x.cell y c e;rw [bindC_get ndP hp hu (by show scope.names.lookup y≠_;rw [k];decide)] at q;exact q
 ·exact e0.hok.fresh (Nat.le_of_lt (x.above y c (iQ h)))
 ·unfold c5;show _=N.length;rw [hE,gG,List.length_replicate];omega
theorem fn_of {CX:CXT} {P:Program} {w:World} {K:W.Frag} {mg:Str->Option Value} {base:Heap} {k:Nat} {f:Addr} {name qual:Str} {params:Arguments} {body:List Stmt} {scope:Scope} {dV kV doc pm cdv ct oc:Value} {an od:Option Addr}
  {osl:Array (Option Value)} {N ps:List Str} {sp:Sp} (lk:K.lookup f=some ⟨oc,od,.func (PySem.W.fnOf name qual params body scope dV kV doc pm an cdv ct),osl⟩) (hcd:PySem.W.codeIn K cdv qual=true) (S:FnScope N ps scope)
  (len:∀ vs H Q E,sp vs H Q E->vs.length=ps.length)
  (hbody:∀ (A:Around) (outer:List Env) (s:Shared) (H:Hp) (vs:List V) (Q:VK) (E:XK),Room k (A.deeper (envOfC qual scope s.heap.objs.size f cdv))->sp vs H Q E->
   ∃ t,PSs (aI CX P w K mg base N qual scope f cdv A outer s H E) body t/\t { nx:=λ _ H'=>Q .non H',rt:=Q } (c5 N vs) H) :
  FnOk P w K mg base CX (k+1) f (PySem.W.fnOf name qual params body scope dV kV doc pm an cdv ct) ps sp:=by
 refine ⟨len,λ A outer s H args us vs Q E hr e0 hb r hsp=>?_⟩;have hl:=len _ _ _ _ hsp;have KX:K.In s.heap:=e0.mod.kin.keeps λ b o e=>(e0.bs b o e).1;have lim:s.heap.NoLimit:=e0.mod.nolimit.keeps λ b o e=>(e0.bs b o e).1
 have hkind:∀ y∈ps.zip us,scope.names.lookup y.1=some .local∨(scope.names.lookup y.1=some .cell/\((cellsFrom (s.heap.objs.size+1) scope.names []).lookup y.1).isSome=true):=λ⟨n,v⟩ hy=>by
  rcases S.par n (List.of_mem_zip hy).1 with q | q
  ·exact .inl q
  ·exact .inr ⟨q,PySem.W.cellsFrom_some _ _ _ (.inl q)⟩
 refine codeAny_call_function hr.depth (KX _ _ lk) rfl S.co S.gen rfl (PySem.W.codeRec_of KX hcd) (hb _ _ _ _ ?_);refine wpAny_newFunctionEnv_cells S.kind hkind λ env he s1 x=>?_;subst he;refine ⟨lim.keeps x.toInCall.keep,codeAny_func ?_⟩;obtain ⟨t,ht,hq⟩:=hbody A outer s H vs Q E (hr.deeper _) hsp;have I:Inv (aI CX P w K mg base N qual scope f cdv A outer s H E) [] (c5 N vs) H s1:=inv_start S hr.hd e0 hl r x;refine i9 (ht [] s1 (c5 N vs) H _ I hq) (λ fl s' hs=>?_) λ e s' hs=>hs
 have fin:∀ {σ':St} {H':Hp} {v:V} {u:Value},Inv (aI CX P w K mg base N qual scope f cdv A outer s H E) [] σ' H' s'->RelV v u->Q v H'->CE outer P w H s Q u s':=
  λ {σ' H' v u} J rv q=>⟨v,H',J.os,J.bare,J.base,J.hok,rv,q⟩
 cases fl with
 | ret u=>
  obtain ⟨v,σ',H',J,rv,q⟩:=hs;exact fin J rv q
 | next=>
  obtain ⟨σ',H',J,q⟩:=hs;exact fin (v:=V.non) (u:=Value.none) J rfl q
 | brk=>
  obtain ⟨_,_,_,q⟩:=hs;exact False.elim q
 | cont=>
  obtain ⟨_,_,_,q⟩:=hs;exact False.elim q
end L2
namespace L2
open PySem PySem.Spec PyProof.Rows
section
variable {X:Cx} {x:Str} {p pos:Pos} {e:Expr} {es:List Expr} {t:TA} {id T:String} {r:List V->Hp->VK->Prop}
noncomputable def tCB (r:List V->Hp->VK->Prop) (t:TA):TE:=λ σ H Q=>t σ H λ vs H1=>r vs H1 Q
theorem aD (hc:dj X (.builtin id) r) (hg:Gl X x) (hm:X.mg x=none) (hv:bootBuiltins x=some (.builtin id)) (ha:PA X (e::es) t) (hn:x≠"__name__":=by decide) (hdb:(x == ("__debug__":Str))=false:=by decide)
  (he:starEach (e::es) X.env=(false,eval e X.env)::starEach es X.env:=by rfl) (hpl:(backTo pos (starEach es X.env)).any (·.1)=false:=by rfl):PE X (.Call (.Name x p) (e::es) [] pos) (tCB r t):=by
 intro pins s σ H Q I h;refine wpAny_Call_Name_kw (ld_blt I hg hm hv ?_ hn hdb);exact PyProof.Rows.callWith_builtin1 (thn (ha pos pins s σ H _ I h) λ us s1 ⟨vs,H1,I1,r1,q1⟩=>hc pins s1 σ H1 vs us Q I1 r1 q1) he hpl
theorem bJ (hc:dj X (.type T) r) (hg:Gl X x) (hm:X.mg x=none) (hv:bootBuiltins x=some (.type T)) (ha:PA X (e::es) t) (hn:x≠"__name__":=by decide) (hdb:(x == ("__debug__":Str))=false:=by decide)
  (he:starEach (e::es) X.env=(false,eval e X.env)::starEach es X.env:=by rfl) (hpl:(backTo pos (starEach es X.env)).any (·.1)=false:=by rfl):PE X (.Call (.Name x p) (e::es) [] pos) (tCB r t):=by
 intro pins s σ H Q I h;refine wpAny_Call_Name_kw (ld_blt I hg hm hv ?_ hn hdb);exact PyProof.Rows.callWith_type1 (thn (ha pos pins s σ H _ I h) λ us s1 ⟨vs,H1,I1,r1,q1⟩=>hc pins s1 σ H1 vs us Q I1 r1 q1) he hpl
end
end L2
namespace HT
open PySem PyProof.Rows
noncomputable def lexLt:List Int->List Int->Bool
 | [],[]=>false
 | [],_::_=>true
 | _::_,[]=>false
 | x::xs,y::ys=>if x=y then lexLt xs ys else decide (x<y)
section
open PySem.SeqAt
open PySem.AutoSeq1 (wpAny_loadPart')
open PySem.MeetsSeq PySem.MeetsSeq2 PySem.MeetsSeq3
end
section
variable {prog:Program} {w:World} {A:Around} {E:Value->Shared->Prop} {s:Shared}
noncomputable def sIx (n d:Nat):Option Int->Nat
 | none=>d
 | some v=>if v<0 then (v+(n:Int)).toNat else min v.toNat n
theorem sIx_none (n d:Nat):sIx n d none=d:=rfl
theorem sIx_nat (n d k:Nat):sIx n d (some (k:Int))=min k n:=by
 show (if (k:Int)<0 then ((k:Int)+(n:Int)).toNat else min (k:Int).toNat n)=min k n;rw [if_neg (by omega),Int.toNat_natCast]
end
end HT
namespace L2
open PySem PySem.Spec PyProof.Rows
noncomputable abbrev TO:=St->Hp->(Option Int->Hp->Prop)->Prop
noncomputable def PO (X:Cx) (e:Option Expr) (t:TO):Prop:=
 ∀ (pins:List (Addr × Obj)) (s:Shared) (σ:St) (H:Hp) (Q:Option Int->Hp->Prop),Inv X pins σ H s->t σ H Q->
  wpAny (model X.prog X.w) X.A (evalPart e X.env) (λ u s'=>∃ o H',Inv X pins σ H' s'/\IsPart u o/\Q o H') X.xe s
noncomputable def tNoPart:TO:=λ _ H Q=>Q none H
noncomputable def tPart (t:TE):TO:=λ σ H Q=>t σ H λ x H1=>∃ i,x=.int i/\Q (some i) H1
section
variable {X:Cx} {e:Expr} {te:TE} {lo hi:Option Expr} {tl th:TO} {pos p2:Pos}
theorem po_none:PO X none tNoPart:=by
 intro pins s σ H Q I h;rw [evalPart_none];exact iE ⟨none,H,I,.none,h⟩
theorem po_some (h:PE X e te):PO X (some e) (tPart te):=by
 intro pins s σ H Q I hw;rw [evalPart_some];refine thn (h pins s σ H _ I hw) λ u s1 ⟨x,H1,I1,r1,q1⟩=>?_;obtain ⟨i,rfl,q⟩:=q1;obtain ⟨t,rfl⟩:=r1;exact ⟨some i,H1,I1,.int i t,q⟩
noncomputable def SlR (X:Cx) (r:V->Option Int->Option Int->Hp->VK->Prop):Prop:=
 ∀ (pins:List (Addr × Obj)) (s:Shared) (σ:St) (H:Hp) (x:V) (v vl vu:Value) (lo hi:Option Int) (sl:Addr) (Q:VK),Inv X pins σ H s->RelV x v->s.heap.IsSliceOf sl vl vu .none->IsPart vl lo->IsPart vu hi->r x lo hi H Q->
  ∃ T id,typeLookup (.type T) "__getitem__"=pure (some (.builtin id))/\s.TypeIs v T/\wpAny (model X.prog X.w) X.A (getItem v (.ref sl)) (EP X pins σ Q) X.xe s
noncomputable def tSl (r:V->Option Int->Option Int->Hp->VK->Prop) (te:TE) (tl th:TO):TE:=λ σ H Q=>te σ H λ x H1=>tl σ H1 λ l H2=>th σ H2 λ u H3=>r x l u H3 Q
theorem pe_slice {r:V->Option Int->Option Int->Hp->VK->Prop} (hr:SlR X r) (he:PE X e te) (hl:PO X lo tl) (hu:PO X hi th):PE X (.Subscript e (.Slice lo hi none p2) pos) (tSl r te tl th):=by
 intro pins s σ H Q I h;refine Subscript_ (thn (he pins s σ H _ I h) λ v s1 ⟨x,H1,I1,r1,q1⟩=>?_);refine wpAny_Slice (thn (hl pins s1 σ H1 _ I1 q1) λ vl s2 ⟨l,H2,I2,pl,q2⟩=>thn (hu pins s2 σ H2 _ I2 q2) λ vu s3 ⟨u,H3,I3,pu,q3⟩=>?_);rw [evalPart_none];refine iE ?_;have I4:Inv X pins σ H3 { s3 with heap:=s3.heap.push { cls:=.type "slice",data:=.fields #[vl,vu,.none] } }:=I3.kept (t':=s3.toks) λ b ob q=>gO _ q;obtain ⟨T,id,hT,ht,hg⟩:=hr pins { s3 with heap:=s3.heap.push { cls:=.type "slice",data:=.fields #[vl,vu,.none] } } σ H3 x v vl vu l u s3.heap.objs.size Q I4 r1 (Heap.IsSliceOf.new ..) pl pu q3;show wpAny (model X.prog X.w) X.A (subscriptTail e (.Slice lo hi none p2) v (.ref s3.heap.objs.size)) (EP X pins σ Q) X.xe { s3 with heap:=s3.heap.push { cls:=.type "slice",data:=.fields #[vl,vu,.none] } };exact tail_any (ops:=[.ref s3.heap.objs.size,v]) ht hT hg (by with_unfolding_all rfl)
noncomputable def cutV (xs:List V) (lo hi:Option Int):List V:=(xs.drop (HT.sIx xs.length 0 lo)).take (HT.sIx xs.length xs.length hi-HT.sIx xs.length 0 lo)
theorem cutV_length (xs:List V) (lo hi:Option Int):(cutV xs lo hi).length<=xs.length:=by
 unfold cutV;rw [gS,List.length_drop];omega
end
end L2
namespace L2
open PySem PySem.Spec PyProof.Rows
noncomputable def ixN (n:Nat) (i:Int):Option Nat:=if 0<=i then (if i<n then some i.toNat else none) else if -(n:Int)<=i then some (i+n).toNat else none
noncomputable def atI {α:Type} (xs:List α) (i:Int):Option α:=(ixN xs.length i).bind λ j=>xs[j]?
theorem ixN_seq {n:Nat} {i:Int} {j:Nat} (h:ixN n i=some j):seqIndex? i n=some j/\j<n/\-(n:Int)<=i/\i<n:=by
 unfold ixN at h;by_cases h0:0<=i
 ·rw [if_pos h0] at h;by_cases h1:i<n
  ·rw [if_pos h1] at h;have e:i.toNat=j:=hZ h;exact ⟨by rw [seqIndex_of h0 h1,e],by omega,by omega,h1⟩
  ·rw [if_neg h1] at h;cases h
 ·rw [if_neg h0] at h;by_cases h1:-(n:Int)<=i
  ·rw [if_pos h1] at h;have e:(i+n).toNat=j:=hZ h;exact ⟨by rw [seqIndex_neg (by omega) h1,e],by omega,h1,by omega⟩
  ·rw [if_neg h1] at h;cases h
theorem atI_get {α:Type} {xs:List α} {i:Int} {v:α} (h:atI xs i=some v):∃ j,seqIndex? i xs.length=some j/\xs[j]?=some v/\j<xs.length/\-(xs.length:Int)<=i/\i<xs.length:=by
 unfold atI at h
 cases e:ixN xs.length i with
 | none=>rw [e] at h;cases h
 | some j=>
  rw [e] at h;obtain ⟨h1,h2,h3,h4⟩:=ixN_seq e;exact ⟨j,h1,h,h2,h3,h4⟩
theorem atI_nat {α:Type} {xs:List α} {j:Nat} {v:α} (h:xs[j]?=some v):atI xs (j:Int)=some v:=by
 have hj:j<xs.length:=(gH.mp h).1
 have e:ixN xs.length (j:Int)=some j:=by
  unfold ixN;rw [if_pos (by omega),if_pos (by omega)];simp
 unfold atI;rw [e];exact h
theorem atI_last {α:Type} (xs:List α) (v:α):atI (xs++[v]) (-1)=some v:=by
 have hl:(xs++[v]).length=xs.length+1:=by simp
 have e:ixN (xs++[v]).length (-1)=some xs.length:=by
  unfold ixN;rw [hl,if_neg (by decide),if_pos (by omega)]
  congr 1
  omega
 unfold atI;rw [e];show (xs++[v])[xs.length]?=some v;simp
noncomputable def PlainIx (b:Expr):Prop:=∀ o i,subscripted b false o i=operate [o,i] (getItem o i)
noncomputable def IxR (X:Cx) (r:R2):Prop:=
 ∀ (value slice:Expr) (pins:List (Addr × Obj)) (s:Shared) (σ:St) (H:Hp) (x y:V) (v u:Value) (Q:VK),Inv X pins σ H s->RelV x v->RelV y u->r x y H Q->
  subscripted slice false v u=operate [v,u] (getItem v u)->wpAny (model X.prog X.w) X.A (subscriptTail value slice v u) (EP X pins σ Q) X.xe s
noncomputable def MtR (X:Cx) (id:String) (r:V->List V->Hp->VK->Prop):Prop:=
 ∀ (pins:List (Addr × Obj)) (s:Shared) (σ:St) (H:Hp) (x:V) (xs:List V) (v:Value) (us:List Value) (Q:VK),Inv X pins σ H s->RelV x v->Vals xs us->r x xs H Q->
  wpAny (model X.prog X.w) X.A (call (.builtin id) (v::us)) (EP X pins σ Q) X.xe s
section
variable {X:Cx} {a b:Expr} {ta tb:TE} {pos:Pos}
theorem aw {r:R2} (hr:IxR X r) (ha:PE X a ta) (hb:PE X b tb) (hs:PlainIx b):PE X (.Subscript a b pos) (tOp r ta tb):=by
 intro pins s σ H Q I h;exact Subscript_ (binT ha hb I h λ v u s2 x y H2 I2 rx ry q=>hr a b pins s2 σ H2 x y v u Q I2 rx ry q (hs _ _))
inductive IrIxL (K:W.Frag) (x:V) (y:V) (H:Hp) (Q:VK):Prop
 | mk (p:_) (xs:_) (i:_) (v:_) (h1:x=.ref p) (h2:y=.int i) (h3:SqL K H p xs) (h4:atI xs i=some v) (h5:Q v H):IrIxL K x y H Q
noncomputable def rIxL (K:W.Frag):R2:=λ x y H Q=>IrIxL K x y H Q
inductive IrIxT (K:W.Frag) (x:V) (y:V) (H:Hp) (Q:VK):Prop
 | mk (p:_) (xs:_) (i:_) (v:_) (h1:x=.ref p) (h2:y=.int i) (h3:SqT K H p xs) (h4:atI xs i=some v) (h5:Q v H):IrIxT K x y H Q
noncomputable def rIxT (K:W.Frag):R2:=λ x y H Q=>IrIxT K x y H Q
noncomputable def rIxS:R2:=λ x y H Q=>∃ z i c,x=.str z/\y=.int i/\z.length<=sizeLine/\atI z.cps.toList i=some c/\Q (.str ⟨#[c]⟩) H
theorem aY:IxR X (rIxL X.K):=by
 intro value slice pins s σ H x y v u Q I rx ry h hs;obtain ⟨p,xs,i,z,rfl,rfl,hq,he,q⟩:=h
 cases rx;obtain ⟨t,rfl⟩:=ry;obtain ⟨its,r,pl,hz⟩:=I.list hq;obtain ⟨j,h1,h2,h3,h4,h5⟩:=atI_get he;obtain ⟨w,ew,rw'⟩:=r.get h2;have hl:=r.length;have hn:=line63;have fin:EP X pins σ Q w s:=⟨z,H,I,rw',q⟩;by_cases h0:0<=i
 ·have hj:i.toNat=j:=by
   rw [seqIndex_of h0 h5] at h1;exact hZ h1
  exact item_listR pl.isList h0 (by omega) (by rw [hj];simpa using ew) fin hs
 ·have hj:(i+(its.toArray.size:Int)).toNat=j:=by
   rw [seqIndex_neg (by omega) h4] at h1;rw [ir,<- hl];exact hZ h1
  exact subscriptTail_builtinR (x:=w) pl.isList.typeIs slot_list_getitem.lookup
   (wpAny_getItem_list_neg (Q:=λ r s'=>r=w/\EP X pins σ Q r s') pl.isList (by omega) (by rw [ir] <;> omega) (by omega) (by rw [hj];simpa using ew) ⟨rfl,fin⟩) hs
theorem az:IxR X (rIxT X.K):=by
 intro value slice pins s σ H x y v u Q I rx ry h hs;obtain ⟨p,xs,i,z,rfl,rfl,hq,he,q⟩:=h
 cases rx;obtain ⟨t,rfl⟩:=ry;obtain ⟨its,r,pl,hz⟩:=I.tuple hq;obtain ⟨j,h1,h2,h3,h4,h5⟩:=atI_get he;obtain ⟨w,ew,rw'⟩:=r.get h2;have hl:=r.length;have hn:=line63;have fin:EP X pins σ Q w s:=⟨z,H,I,rw',q⟩
 exact subscriptTail_builtinR (x:=w) pl.typeIs slot_tuple_getitem.lookup
  (getItem_tuple (j:=j) (Q:=λ r s'=>r=w/\EP X pins σ Q r s') pl (by omega) (by omega) (by rw [ir,<- hl];exact h1) (by simpa using ew) ⟨rfl,fin⟩) hs
theorem ix_str:IxR X rIxS:=by
 intro value slice pins s σ H x y v u Q I rx ry h hs;obtain ⟨z,i,c,rfl,rfl,hz,he,q⟩:=h;obtain ⟨t,rfl⟩:=rx;obtain ⟨t',rfl⟩:=ry;obtain ⟨j,h1,h2,h3,h4,h5⟩:=atI_get he;have hl:z.cps.toList.length=z.length:=by simp [Str.length]
 rw [hl] at h1 h4 h5;have hn:=line63
 exact tail_any (typeIs_str s z t) slot_str_getitem.lookup (getItem_str (c:=c) (by
  have e1:decide (i < -(2 ^ 63:Int))=false:=gT (by omega);have e2:decide (i ≥ 2 ^ 63)=false:=gT (by omega);rw [e1,e2,Bool.or_false]) (by rw [h1];simpa using h2) ⟨.str ⟨#[c]⟩,H,I.tok _,⟨_,rfl⟩,q⟩) hs
theorem slice_bounds (lo hi:Option Int) (n:Nat):(sliceBounds lo hi none n).1=((HT.sIx n 0 lo:Nat):Int)/\(sliceBounds lo hi none n).2.1=((HT.sIx n n hi:Nat):Int)/\(sliceBounds lo hi none n).2.2=1:=by
 refine ⟨?_,?_,rfl⟩
 ·cases lo with
  | none=>simp [sliceBounds,HT.sIx]
  | some i=>
   simp only [sliceBounds,HT.sIx,Option.getD_none,show (1:Int) > 0 by decide,if_true];by_cases h:i<0
   ·simp only [h,if_true] <;> omega
   ·simp only [h,if_false] <;> omega
 ·cases hi with
  | none=>simp [sliceBounds,HT.sIx]
  | some i=>
   simp only [sliceBounds,HT.sIx,Option.getD_none,show (1:Int) > 0 by decide,if_true];by_cases h:i<0
   ·simp only [h,if_true] <;> omega
   ·simp only [h,if_false] <;> omega
theorem slicePick_cut (its:List Value) (lo hi:Option Int):slicePick its.toArray lo hi none=((its.drop (HT.sIx its.length 0 lo)).take (HT.sIx its.length its.length hi-HT.sIx its.length 0 lo)).toArray:=by
 obtain ⟨h1,h2,h3⟩:=slice_bounds lo hi its.toArray.size;unfold slicePick;rw [h1,h2,h3];simp only [sliceRange_one,pick_run,ir] <;> rfl
inductive IrSlL (K:W.Frag) (x:V) (lo:Option Int) (hi:Option Int) (H:Hp) (Q:VK):Prop
 | mk (a:_) (xs:_) (h1:x=.ref a) (h2:SqL K H a xs) (h3:∀ p,H p=none->Q (.ref p) (upd H p (.lst (cutV xs lo hi)))):IrSlL K x lo hi H Q
noncomputable def rSlL (K:W.Frag):V->Option Int->Option Int->Hp->VK->Prop:=λ x lo hi H Q=>IrSlL K x lo hi H Q
theorem sl_list:SlR X (rSlL X.K):=by
 intro pins s σ H x v vl vu lo hi sl Q I rx hs pl pu h;obtain ⟨a,xs,rfl,hx,q⟩:=h
 cases rx;obtain ⟨its,r,ht,hz⟩:=I.list hx;have hlen:=r.length;refine ⟨"list",_,slot_list_getitem.lookup,ht.isList.typeIs,?_⟩;refine wpAny_getItem_list_slice ht.isList hs pl pu .none (by simp) ?_ (by rw [ir] <;> omega);rw [slicePick_cut,<- hlen];refine ⟨.ref s.heap.objs.size,_,I.laid (t':=s.toks) (o:=.lst (cutV xs lo hi)) (λ b ob q=>gO _ q) (gJ _) ?_,rfl,q _ (I.hok.fresh (gJ _))⟩;exact ⟨gZ (cutV_length xs lo hi) hz,_,0,(r.drop (HT.sIx xs.length 0 lo)).take (HT.sIx xs.length xs.length hi-HT.sIx xs.length 0 lo),ib _ rfl⟩
noncomputable def flatV:V->Bool
 | .non=>true
 | .bl _=>true
 | .int _=>true
 | .str _=>true
 | _=>false
noncomputable def eqV:V->V->Bool
 | .non,.non=>true
 | .bl a,.bl b=>a == b
 | .bl a,.int b=>(if a then 1 else 0) == b
 | .int a,.bl b=>a == (if b then 1 else 0)
 | .int a,.int b=>a == b
 | .str a,.str b=>a == b
 | _,_=>false
noncomputable def inV (x:V) (xs:List V):Bool:=xs.any λ y=>eqV y x
theorem call_len_seq:dj X (.builtin "len") (λ xs H Q=>∃ p ys,xs=[.ref p]/\(SqL X.K H p ys∨SqT X.K H p ys)/\Q (.int ys.length) H):=by
 intro pins s σ H xs us Q I r h;obtain ⟨p,ys,rfl,hq,q⟩:=h;obtain ⟨u,rfl,rx⟩:=fu r
 cases rx;have hn:=line63;rcases hq with hq | hq
 ·obtain ⟨its,r',pl,hz⟩:=I.list hq;have hlen:=r'.length;exact Calls.call_len_list pl.isList (by simp only [ir] <;> omega) ⟨.int ys.length,H,I.tok _,⟨s.toks+1,by rw [ir,hlen]⟩,q⟩
 ·obtain ⟨its,r',pl,hz⟩:=I.tuple hq;have hlen:=r'.length;exact len_tuple pl (by simp only [ir] <;> omega) ⟨.int ys.length,H,I.tok _,⟨s.toks+1,by rw [ir,hlen]⟩,q⟩
theorem call_len_str:dj X (.builtin "len") (λ xs H Q=>∃ z,xs=[.str z]/\z.length<=sizeLine/\Q (.int z.length) H):=by
 intro pins s σ H xs us Q I r h;obtain ⟨z,rfl,hz,q⟩:=h;obtain ⟨u,rfl,t,rfl⟩:=fu r;have hn:=line63;exact len_str (by omega) ⟨.int z.length,H,I.tok _,⟨_,rfl⟩,q⟩
theorem gE:dj X (.type "list") (λ xs H Q=>∃ p ys,xs=[.ref p]/\(SqL X.K H p ys∨SqT X.K H p ys)/\∀ l,H l=none->Q (.ref l) (upd H l (.lst ys))):=by
 intro pins s σ H xs us Q I r h;obtain ⟨p,ys,rfl,hq,q⟩:=h;obtain ⟨u,rfl,rx⟩:=fu r
 cases rx
 have fin:∀ (its:List Value),Vals ys its->ys.length<=sizeLine->∀ (h':Heap) (c':Nat),(∀ b o',s.heap.get? b=some o'->h'.get? b=some o')->
   h'.get? s.heap.objs.size=some { cls:=.type "list",dict:=none,data:=.seq its.toArray c',slots:=#[] }->EP X pins σ Q (.ref s.heap.objs.size) { s with heap:=h' }:=λ its r' hz h' c' kp e=>
  ⟨.ref s.heap.objs.size,_,I.laid (t':=s.toks) kp (gJ _) (show ObjOk X.prog X.w _ h' _ (.lst ys) from ⟨hz,its,c',r',e⟩),rfl,q _ (I.hok.fresh (gJ _))⟩
 rcases hq with hq | hq
 ·obtain ⟨its,r',pl,hz⟩:=I.list hq;have hlen:=r'.length;obtain ⟨o,ho,hc,n,hd⟩:=pl.isList;exact call_list_seq p (.inl rfl) ho hc hd (λ h' c' kp e=>fin its r' hz h' c' kp e) (by simp only [ir] <;> omega)
 ·obtain ⟨its,r',pl,hz⟩:=I.tuple hq;have hlen:=r'.length;obtain ⟨o,ho,hc,n,hd⟩:=pl;exact call_list_seq p (.inr rfl) ho hc hd (λ h' c' kp e=>fin its r' hz h' c' kp e) (by simp only [ir] <;> omega)
noncomputable def tyV (K:W.Frag) (T:String) (x:V) (H:Hp):Prop:=match x with
 | .str _=>T = "str"
 | .int _=>T = "int"
 | .ref p=>(T = "list"/\∃ xs,SqL K H p xs)∨(T = "tuple"/\∃ o,K.lookup p=some o/\o.cls=.type "tuple"/\o.dict=none)∨
   (T = "dict"/\((∃ kvs,H p=some (.dK kvs))∨∃ kvs,H p=some (.dT kvs)))∨(T = "set"/\∃ S n,H p=some (.set S n))
 | _=>False
theorem tyV_is {pins:List (Addr × Obj)} {σ:St} {H:Hp} {s:Shared} {T:String} {x:V} {v:Value} (I:Inv X pins σ H s) (r:RelV x v) (ty:tyV X.K T x H) :
  s.TypeIs v T/\∀ a,v=.ref a->∃ ob,s.heap.get? a=some ob/\ob.dict=none:=by
 cases x with
 | str z=>
  obtain ⟨t,rfl⟩:=r
  cases (show T = "str" from ty);exact ⟨typeIs_str s z t,λ _ e=>nomatch e⟩
 | int i=>
  obtain ⟨t,rfl⟩:=r
  cases (show T = "int" from ty);exact ⟨typeIs_int s i t,λ _ e=>nomatch e⟩
 | ref p=>
  cases r;rcases ty with ⟨rfl,xs,hq⟩ | ⟨rfl,o,hk,hc,hd⟩ | ⟨rfl,hk⟩ | ⟨rfl,S,n,hk⟩
  ·obtain ⟨its,_,pl,_⟩:=I.list hq;refine ⟨pl.isList.typeIs,λ a e=>?_⟩
   cases e;obtain ⟨o,n,e,c,hd,_⟩:=pl;exact ⟨o,e,hd⟩
  ·refine ⟨⟨o,I.kIn p o hk,hc⟩,λ a e=>?_⟩
   cases e;exact ⟨o,I.kIn _ o hk,hd⟩
  ·have z:∃ o,s.heap.get? p=some o/\o.ExactDict:=by
    rcases hk with ⟨kvs,hk⟩ | ⟨kvs,hk⟩
    ·obtain ⟨_,_,_,_,o,_,_,e,ex,_⟩:=I.hok p _ hk;exact ⟨o,e,ex⟩
    ·obtain ⟨_,_,_,_,o,_,_,e,ex,_⟩:=I.hok p _ hk;exact ⟨o,e,ex⟩
   obtain ⟨o,e,ex⟩:=z;refine ⟨⟨o,e,ex.1⟩,λ a e2=>?_⟩
   cases e2;exact ⟨o,e,ex.2.1⟩
  ·obtain ⟨o,_,_,_,e,ex,_⟩:=I.hok p _ hk;refine ⟨⟨o,e,ex.1⟩,λ a e2=>?_⟩
   cases e2;exact ⟨o,e,ex.2.1⟩
 | _=>exact False.elim ty
noncomputable def tBM0 (K:W.Frag) (T:String) (r:V->List V->Hp->VK->Prop) (to:TE):TE:=λ σ H Q=>to σ H λ x H1=>tyV K T x H1/\r x [] H1 Q
noncomputable def tBM (K:W.Frag) (T:String) (r:V->List V->Hp->VK->Prop) (to:TE) (t:TA):TE:=λ σ H Q=>to σ H λ x H1=>tyV K T x H1/\t σ H1 λ xs H2=>r x xs H2 Q
variable {o e:Expr} {es:List Expr} {to:TE} {t:TA} {name:Str} {apos cpos:Pos} {T id:String} {r:V->List V->Hp->VK->Prop}
theorem pe_bm0 (pa:PlainAttrs T) (slot:Slot T name id) (hty:typeOf (.builtin id)=pure (.type "method_descriptor")) (hm:MtR X id r) (ho:PE X o to)
  (hbase:attributeBase o name X.env (eval o X.env)=eval o X.env:=by rfl) (hline:(apos.endLine == cpos.line)=true:=by rfl):PE X (.Call (.Attribute o name apos) [] [] cpos) (tBM0 X.K T r to):=by
 intro pins s σ H Q I h;refine wpAny_Call_method0_late hbase hline (thn (ho pins s σ H _ I h) λ v s1 ⟨x,H1,I1,r1,ty,q1⟩=>?_);obtain ⟨h1,h2⟩:=tyV_is I1 r1 ty;exact ⟨T,id,pa,slot,hty,h1,h2,Calls.callWith_builtin rfl (PySem.evalArgs_none (hm pins s1 σ H1 x [] v [] Q I1 r1 .nil q1))⟩
theorem pe_bm (pa:PlainAttrs T) (slot:Slot T name id) (hty:typeOf (.builtin id)=pure (.type "method_descriptor")) (hm:MtR X id r) (ho:PE X o to) (ha:PA X (e::es) t)
  (hbase:attributeBase o name X.env (eval o X.env)=eval o X.env:=by rfl)
  (hfew:((backTo cpos (starEach (e::es) X.env)).all (λ x=>!x.1) && (backToKw cpos (keywordEach [] X.env)).all (λ x=>x.1.isSome)
   && decide ((e::es).length+([]:List Keyword).length+(if ([]:List Keyword).isEmpty then 0 else 1)<30))=true:=by rfl)
  (hline:(apos.endLine == cpos.line)=true:=by rfl) (hs:starEach (e::es) X.env=(false,eval e X.env)::starEach es X.env:=by rfl) (hplain:(backTo cpos (starEach es X.env)).any (·.1)=false:=by rfl) :
  PE X (.Call (.Attribute o name apos) (e::es) [] cpos) (tBM X.K T r to t):=by
 intro pins s σ H Q I h;refine wpAny_Call_method_late hbase hfew hline rfl (thn (ho pins s σ H _ I h) λ v s1 ⟨x,H1,I1,r1,ty,q1⟩=>?_);obtain ⟨h1,h2⟩:=tyV_is I1 r1 ty;refine ⟨T,id,pa,slot,hty,h1,h2,?_⟩;have hA:=ha cpos pins s1 σ H1 _ I1 q1;rw [hs] at hA ⊢;refine Calls.callWith_builtin (by show (false || (backTo cpos (starEach es X.env)).any (·.1))=false;rw [hplain] <;> rfl) (Calls.evalArgs_plain ?_);exact thn hA λ us s2 ⟨vs,H2,I2,r2,q2⟩=>hm pins s2 σ H2 x vs v us Q I2 r1 r2 q2
end
end L2
namespace L2
open PySem PySem.Spec PyProof.Rows
noncomputable def MtM (X:Cx) (id:String) (r:V->List V->Hp->VK->Prop):Prop:=
 ∀ (pins:List (Addr × Obj)) (s:Shared) (σ:St) (H:Hp) (x:V) (xs:List V) (v:Value) (us:List Value) (Q:VK),Inv X pins σ H s->RelV x v->Vals xs us->r x xs H Q->
  wpAny (model X.prog X.w) X.A (call (.builtin id) (v::us)) (EP X pins σ Q) X.xe s
theorem Vals.one:∀ {x:V} {us:List Value},Vals [x] us->∃ u,us=[u]/\RelV x u
 | _,_,.cons r .nil=>⟨_,rfl,r⟩
section
variable {X:Cx} {pins:List (Addr × Obj)} {σ:St} {H:Hp} {s:Shared} {l b:Addr} {xs ys zs:List V}
theorem Inv.lset {its its':List Value} {n:Nat} {f:Array Value->Array Value} {t':Nat} (I:Inv X pins σ H s) (hH:H l=some (.lst xs))
  (e:s.heap.get? l=some { cls:=.type "list",data:=.seq its.toArray n }) (hf:f its.toArray=its'.toArray) (hv:Vals ys its') (hz:ys.length<=sizeLine) :
  Inv X pins σ (upd H l (.lst ys)) { s with heap:=s.heap.update l (Obj.mapSeq f),toks:=t' }:=by
 have q:=PySem.IsL.update e f;rw [hf] at q;refine I.write (x:=l) (e:=l) (by rw [hH];exact trivial) (.inl rfl) (λ b' u hb hu=>(Heap.get?_update_other s.heap (Obj.mapSeq f) (Ne.symm hb)).trans hu) ⟨_,q⟩ ?_;exact ⟨hz,its',_,hv,q⟩
theorem Inv.lnew {its:List Value} {t':Nat} (I:Inv X pins σ H s) (hv:Vals ys its) (hz:ys.length<=sizeLine) :
  Inv X pins σ (upd H s.heap.objs.size (.lst ys)) { s with heap:=s.heap.push { cls:=.type "list",data:=.seq its.toArray },toks:=t' }:=
 I.laid (λ _ _ q=>gO _ q) (gJ _) ⟨hz,its,0,hv,ib _ rfl⟩
theorem Inv.fresh (I:Inv X pins σ H s):H s.heap.objs.size=none:=I.hok.fresh (gJ _)
theorem Inv.lstM (I:Inv X pins σ H s) (hH:H l=some (.lst xs)):xs.length<=sizeLine/\∃ (its:List Value) (n:Nat),Vals xs its/\xs.length=its.length/\s.heap.get? l=some { cls:=.type "list",data:=.seq its.toArray n }:=by
 obtain ⟨z,its,n,r,e⟩:=I.hok l _ hH;exact ⟨z,its,n,r,r.length,e⟩
end
section
variable {X:Cx}
inductive IrAppend (x:V) (vs:List V) (H:Hp) (Q:VK):Prop
 | mk (l:_) (xs:_) (y:_) (h1:x=.ref l) (h2:vs=[y]) (h3:H l=some (.lst xs)) (h4:xs.length<sizeLine) (h5:Q .non (upd H l (.lst (xs++[y])))):IrAppend x vs H Q
noncomputable def rAppend:V->List V->Hp->VK->Prop:=λ x vs H Q=>IrAppend x vs H Q
theorem bW:MtM X "list.append" rAppend:=by
 intro pins s σ H x vs v us Q I rx rv h;obtain ⟨l,xs,y,rfl,rfl,hH,hz,q⟩:=h
 cases rx;obtain ⟨u,rfl,ru⟩:=rv.one;obtain ⟨z,its,n,r,hl,e⟩:=I.lstM hH;refine call_meets F.slot_list_append ⟨_,e,rfl⟩ F.entry_list_append (F.args_list_append_2 _ _) (PySem.list_append l its.toArray n u (by rw [ir];omega)) ⟨e,?_⟩;refine ⟨.non,_,I.lset (its':=its++[u]) hH e (by simp) (r.append (.cons ru .nil)) ?_,rfl,q⟩;rw [hE,iX];omega
inductive IrCat (x:V) (y:V) (H:Hp) (Q:VK):Prop
 | mk (l:_) (b:_) (xs:_) (zs:_) (h1:x=.ref l) (h2:y=.ref b) (h3:H l=some (.lst xs)) (h4:H b=some (.lst zs)) (h5:xs.length+zs.length<=sizeLine) (h6:∀ p,H p=none->Q (.ref p) (upd H p (.lst (xs++zs)))):IrCat x y H Q
noncomputable def rCat:R2:=λ x y H Q=>IrCat x y H Q
theorem op_cat:OpR X (binaryOp .Add) rCat:=by
 intro pins s σ H x y v u Q I rx ry h;obtain ⟨l,b,xs,zs,rfl,rfl,hH,hB,hz,q⟩:=h
 cases rx
 cases ry;obtain ⟨z,its,n,r,hl,e⟩:=I.lstM hH;obtain ⟨z2,its2,n2,r2,hl2,e2⟩:=I.lstM hB;refine PySem.P.add_list e e2 ?_ (by rw [ir,ir];omega);have ea:its.toArray++its2.toArray=(its++its2).toArray:=by simp
 rw [ea];exact ⟨.ref _,_,I.lnew (t':=s.toks) (r.append r2) (by rw [hE];omega),rfl,q _ I.fresh⟩
end
section
variable {prog:Program} {w:World} {A:Around} {E:Value->Shared->Prop} {s:Shared}
end
section
variable {X:Cx}
end
end L2
namespace Att
open PySem PySem.W PySem.Calls PyProof.Rows
theorem ints_of_wellAll {P:Params} {h:Heap}:∀ (ns:List Int) (vs:List Value),WellAll P h vs (ns.map WData.int)->IntsAre vs ns:=by
 intro ns
 induction ns with
 | nil=>
  intro vs w;rw [List.map_nil] at w
  cases w;exact .nil
 | cons n ns ih=>
  intro vs w;rw [iM] at w
  cases w with
  | cons a b=>
   cases a;exact .cons _ _ (ih _ b)
theorem script_of {l:OpenLaw} {n:Nat} (hn:l.most=some n) {P:Params} {h:Heap} {args:List WData} {vals:List Value}
  (hpre:l.row.toRowW.claim.pre args=true) (hwl:WellAll P h vals args) :
  ∃ a vs ns,vals=[Value.ref a]/\args=[WData.list (ns.map WData.int)]/\h.get? a=some { cls:=.type "list",data:=.seq vs.toArray }/\IntsAre vs ns/\ns.length<=n:=by
 have hsh:WShape.hasAll [] args [.list .int]=true:=(pre_splitW hpre).1;have hc:l.pre.holds [] { args:=args }=true:=(pre_splitW hpre).2;obtain ⟨d,r,rfl,h1,h2⟩:=hasAllW_cons hsh;obtain rfl:=hasAllW_nil h2;obtain ⟨xs,rfl,h3⟩:=hasW_list h1;obtain ⟨ns,rfl⟩:=items_int h3
 have hlen:ns.length<=n:=by
  unfold OpenLaw.pre at hc
  have h4:(WTm.not (.lt (.lit (.int (n:Int))) (.len (.arg 0)))).holds [] { args:=[.list (ns.map .int)] }=true:=by
   have h4:=(holds_andW hc).1;rw [hn] at h4;exact h4
  have h5:=condW_of h4 (w_not (w_lt w_lit (w_len_list (w_arg rfl))));rw [gG] at h5;refine Nat.le_of_not_lt λ q=>?_;have q':(n:Int)<((ns.length:Nat):Int):=by omega
  first
   | (rw [hU q'] at h5;exact absurd h5 (by decide))
   | (simp at h5;omega)
 cases hwl with
 | cons w1 w2=>
  cases w2
  cases w1 with
  | list ho hall=>exact ⟨_,_,ns,rfl,rfl,ho,ints_of_wellAll ns _ hall,hlen⟩
theorem post_true (l:OpenLaw) (args:List WData):l.row.toRowW.claim.post args (.bool true) args=true:=
 postW_of (r:=l.row.toRowW) (X:=(true == true))
  (show WShape.has [] (.bool true) .bool=true by first | rfl | decide | simp [WShape.has,WShape.arms,WShape.armsAll])
  (show (WTm.eq .res (.lit (.bool true))).value [] { args:=args,res:=some (.bool true),after:=args }=some (.bool (true == true)) from w_eq_bool (w_res rfl) w_lit) rfl
section
variable {prog:Program} {w:World} {A:Around} {E:Value->Shared->Prop} {s:Shared} {K:Frag}
end
end Att
namespace L2
open PySem PySem.Spec PyProof.Rows
theorem vals_ints:∀ {vs:List Value} {ns:List Int},IntsAre vs ns->Vals (ns.map V.int) vs
 | _,_,.nil=>.nil
 | _,_,.cons n t h=>.cons ⟨t,rfl⟩ (vals_ints h)
noncomputable def Only (H:Hp):Prop:=∀ b,H b=none∨∃ o xs,H b=some (.frz o (.lst xs))
theorem law_call {P:Program} {w:World} {K:W.Frag} {mg mb:Str->Option Value} {CX:CXT} {k:Nat} {fa a:Addr} {fd:FuncData} {x:Str} {sp:Sp} {s₁:Shared} {vs:List Value} {ns:List Int}
  (KX:K.In s₁.heap) (hns:s₁.heap.Ns mainGlobals mg) (hb:s₁.heap.Ns builtinsNs mb) (hbb:∀ x:Str,x≠"__name__"->mb x=bootBuiltins x) (hlim:s₁.heap.NoLimit) (hg:s₁.gens = #[])
  (ha:s₁.heap.get? a=some { cls:=.type "list",data:=.seq vs.toArray }) (hi:IntsAre vs ns) (hl:ns.length<=sizeLine) (hr:Room k callerA)
  (F:∀ base:Heap,K.In base->base.Ns mainGlobals mg->FnOk P w K mg base CX k fa fd [x] sp) (hbind:∀ (s:Shared) (u:Value),BindsTo s fd ⟨[u],[]⟩ [(x,u)])
  (hsp:∀ H:Hp,Only H->SqL K H a (ns.map V.int)->sp [.ref a] H (λ v _=>v=.bl true) λ _ _ _=>False)
  (hCX:∀ H e s',CX [] H s₁ (λ _ _ _=>False) e s'->False) :
  codeAny (model P w) callerA (.call (.ref fa) ⟨[.ref a],[]⟩) (λ r s'=>r=.ok (.ret (.bool true))/\OldK s₁.heap s'.heap/\s'.os=s₁.os/\AllBare s'.gens) s₁:=by
 have rv:=vals_ints hi;have lenV:=hi.length
 have core:∀ H:Hp,Only H->SqL K H a (ns.map V.int)->HOk P w H s₁.heap->(∀ b,H b≠none->b=a)->(H a≠none->K.lookup a=none)->
   codeAny (model P w) callerA (.call (.ref fa) ⟨[.ref a],[]⟩) (λ r s'=>r=.ok (.ret (.bool true))/\OldK s₁.heap s'.heap/\s'.os=s₁.os/\AllBare s'.gens) s₁:=by
  intro H hO hS hok hA hK;have base_of:∀ {b:Addr} {o:Obj},s₁.heap.get? b=some o->H b=none->(hidT s₁.heap H).get? b=some o:=λ e n=>hidT_get e n
  have noA:∀ {b:Addr} {o:Obj} {es:Array DictEntry} {ep:Nat},s₁.heap.get? b=some o->o.data=.dict es ep->H b=none:=λ {b o es ep} e d=>by
   cases q:H b with
   | none=>rfl
   | some u=>
    have e':b=a:=hA b (by rw [q];simp);subst e';rw [ha] at e;cases e;have d':Data.seq vs.toArray _=Data.dict es ep:=d
    cases d'
  have nsK:∀ {b:Addr} {m:Str->Option Value},s₁.heap.Ns b m->(hidT s₁.heap H).Ns b m:=λ {b m} ⟨o,es,ep,e,d,r⟩=>⟨o,es,ep,base_of e (noA e d),d,r⟩
  have hKb:K.In (hidT s₁.heap H):=λ b o e=>base_of (KX b o e) (by
   cases q:H b with
   | none=>rfl
   | some u=>
    have e':b=a:=hA b (by rw [q];simp);subst e';rw [hK (by rw [q];simp)] at e;cases e)
  have hM:Mod K mg (hidT s₁.heap H):=⟨hKb,nsK hns,⟨mb,nsK hb,hbb⟩,let ⟨mc,h1,h2⟩:=hlim;⟨mc,nsK h1,h2⟩⟩;have e0:Env0 P w K mg (hidT s₁.heap H) callerA [] s₁ H:=⟨rfl,hM,λ b o e=>of_hidT e,Nat.le_of_eq (hidT_size _ _),trivial,λ b hb=>absurd (show b∈([]:List Addr) from hb) (by simp),hok,.of_eq hg⟩;refine codeAny_mono ((F _ hKb (nsK hns)).run callerA [] s₁ H ⟨[.ref a],[]⟩ [.ref a] [.ref a] _ _ hr e0 (hbind s₁ (.ref a)) (.cons rfl .nil) (hsp H hO hS)) λ r s' h=>?_
  cases r with
  | error e=>exact (hCX H e s' h).elim
  | ok fl=>
   cases fl with
   | next=>exact False.elim h
   | brk=>exact False.elim h
   | cont=>exact False.elim h
   | ret u=>
    obtain ⟨v,H',os,bare,un,hok',r',q⟩:=h;have q':v=.bl true:=q;subst q';obtain rfl:u=Value.bool true:=r';refine ⟨rfl,OldK.of_keep λ b o e=>?_,os,bare⟩
    cases q:H b with
    | none=>exact un.keep b o e q (by intro z;exact absurd (show b∈([]:List Addr) from z) (by simp)) (by simp)
    | some u=>
     rcases hO b with z | ⟨ob,xs,z⟩
     ·rw [q] at z;cases z
     ·have z2:=un.frzs b ob _ z;obtain ⟨e1,_⟩:=hok b _ z;obtain ⟨e2,_⟩:=hok' b _ z2;rw [e] at e1;cases e1;exact e2
 cases hk:K.lookup a with
 | some o=>
  have e:=KX a o hk;rw [ha] at e
  cases e;refine core (λ _=>none) (λ _=>.inl rfl) (.inr ⟨_,vs.toArray,_,hk,rfl,rfl,rfl,by rw [ir,lenV];exact hl,by simpa using rv⟩) (λ b u z=>by have z':(none:Option HO)=some u:=z;cases z') (λ b z=>absurd rfl z) λ z=>absurd rfl z
 | none=>
  refine core (λ b=>if b=a then some (.frz { cls:=.type "list",data:=.seq vs.toArray } (.lst (ns.map V.int))) else none) (λ b=>?_) (.inl (.inr ⟨{ cls:=.type "list",data:=.seq vs.toArray },if_pos rfl⟩)) (λ b u z=>?_) (λ b z=>?_) λ _=>hk
  ·by_cases hb:b=a
   ·exact .inr ⟨_,_,if_pos hb⟩
   ·exact .inl (if_neg hb)
  ·by_cases hb:b=a
   ·have z':=(if_pos hb).symm.trans z
    cases z';subst hb;exact ⟨ha,by rw [gG];exact hl,vs,_,rv,ha⟩
   ·have z':=(if_neg hb).symm.trans z
    cases z'
  ·by_cases hb:b=a
   ·exact hb
   ·exact absurd (if_neg hb) z
end L2
namespace L2
open PySem PySem.Spec PyProof.Rows
end L2
namespace L2
open PySem PySem.Spec PyProof.Rows
noncomputable def aJ (s:Stmt) (j:Nat):Stmt:=match s with
 | .ClassDef _ _ _ body _ _ _ _ _ _ _=>body.getD j (.Pass ⟨0,0,0,0⟩)
 | _=>.Pass ⟨0,0,0,0⟩
noncomputable def b7 (s:Stmt):Arguments:=match s with
 | .FunctionDef _ a _ _ _ _ _ _ _ _=>a
 | _=>{ posonlyargs:=[],args:=[],vararg:=none,kwonlyargs:=[],kw_defaults:=[],kwarg:=none,defaults:=[] }
noncomputable def bh (s:Stmt):List Stmt:=match s with
 | .FunctionDef _ _ b _ _ _ _ _ _ _=>b
 | _=>[]
noncomputable def ai (s:Stmt):Scope:=match s with
 | .FunctionDef _ _ _ _ _ _ sc _ _ _=>sc
 | _=>{ kind:=.function,names:=[],isGenerator:=false,isCoroutine:=false }
noncomputable abbrev CX0:CXT:=λ _ _ _ _ _ _=>False
noncomputable abbrev E0:XK:=λ _ _ _=>False
theorem ak {X:Cx}:cb CX0 X E0:=λ _ _ _ _ _ _ _ h=>h.elim
structure Fun (K:W.Frag) (x qual:Str) (st:Stmt) (f:Addr) (fd:FuncData):Prop where
 ex:∃ (oc:Value) (od:Option Addr) (kV doc pm:Value) (an:Option Addr) (cdv ct:Value) (osl:Array (Option Value)),
  fd=PySem.W.fnOf x qual (b7 st) (bh st) (ai st) .none kV doc pm an cdv ct/\K.lookup f=some ⟨oc,od,.func fd,osl⟩/\PySem.W.codeIn K cdv qual=true
 kp:PySem.W.keepIn K (.ref f)=true
section
variable {P:Program} {w:World} {K:W.Frag} {mg:Str->Option Value} {base:Heap}
theorem Fun.ok {x qual:Str} {st:Stmt} {f:Addr} {fd:FuncData} {N ps:List Str} {k:Nat} {sp:Sp} (F:Fun K x qual st f fd) (S:FnScope N ps (ai st)) (len:∀ vs H Q E,sp vs H Q E->vs.length=ps.length)
  (hbody:∀ (cdv:Value) (A:Around) (outer:List Env) (s:Shared) (H:Hp) (vs:List V) (Q:VK) (E:XK),Room k (A.deeper (envOfC qual (ai st) s.heap.objs.size f cdv))->sp vs H Q E->
   ∃ t,PSs (aI CX0 P w K mg base N qual (ai st) f cdv A outer s H E).nox (bh st) t/\t { nx:=λ _ H'=>Q .non H',rt:=Q } (c5 N vs) H):FnOk P w K mg base CX0 (k+1) f fd ps sp:=by
 obtain ⟨oc,od,kV,doc,pm,an,cdv,ct,osl,rfl,lk,hcd⟩:=F.ex;refine fn_of lk hcd S len λ A outer s H vs Q E hr hsp=>?_;obtain ⟨t,h,q⟩:=hbody cdv A outer s H vs Q E hr hsp;exact ⟨t,h.nox,q⟩
theorem Fun.binds {x qual:Str} {st:Stmt} {f:Addr} {fd:FuncData} {ps:List Str} (F:Fun K x qual st f fd)
  (h:∀ (kV doc pm:Value) (an:Option Addr) (cdv ct:Value) (us:List Value),us.length=ps.length->bindArgs (PySem.W.fnOf x qual (b7 st) (bh st) (ai st) .none kV doc pm an cdv ct) ⟨us,[]⟩=pure (ps.zip us)):Binds K fd ps []:=by
 obtain ⟨oc,od,kV,doc,pm,an,cdv,ct,osl,rfl,lk,hcd⟩:=F.ex;exact .all (h kV doc pm an cdv ct)
theorem fun_mk {x qual:Str} {st:Stmt} {f:Addr} {oc:Value} {od an:Option Addr} {osl:Array (Option Value)} {kV doc pm cdv ct:Value} (l:K.lookup f=some ⟨oc,od,.func (PySem.W.fnOf x qual (b7 st) (bh st) (ai st) .none kV doc pm an cdv ct),osl⟩)
  (c:PySem.W.codeIn K cdv qual=true) (k:PySem.W.keepIn K (.ref f)=true):Fun K x qual st f (PySem.W.fnOf x qual (b7 st) (bh st) (ai st) .none kV doc pm an cdv ct):=⟨⟨oc,od,kV,doc,pm,an,cdv,ct,osl,rfl,l,c⟩,k⟩
end
theorem aH {A:Around} {k:Nat} (hr:Room k A):A.units+1<cLine:=ig (Nat.add_le_add_left (by decide:1<=64) _) hr.units
theorem aq {n:Nat} (h:n<=1000):n<sizeLine:=ig h (by decide)
section
variable {X:Cx}
theorem pv (i:Nat) {x:Str} {pos:Pos} (hN:X.N[i]?=some x:=by rfl) (hv:Vis X.env.scope x:=by first | exact Or.inl rfl | exact Or.inr (Or.inl rfl) | exact Or.inr (Or.inr rfl)) (hd:(x == ("__debug__":Str))=false:=by decide)
  (hcd:(x == ("__classdict__":Str))=false:=by decide):PE X (.Name x pos) (tVar i):=pe_var hN hv hd hcd
end
theorem iteF {A B:Prop} (h:B):if false=true then A else B:=by
 rw [if_neg ii];exact h
theorem iteT {A B:Prop} (h:A):if true=true then A else B:=by
 rw [if_pos rfl];exact h
theorem gB {c A B:Prop} [Decidable c] (hc:c) (h:B):if (!decide c)=true then A else B:=by
 rw [hU hc];exact iteF h
noncomputable def Same (H H':Hp):Prop:=∀ b o,H b=some o->H' b=some o
theorem Same.refl (H:Hp):Same H H:=λ _ _ h=>h
theorem Same.trans {H H1 H2:Hp} (a:Same H H1) (b:Same H1 H2):Same H H2:=λ c o h=>b c o (a c o h)
theorem Same.free {H H':Hp} (e:Same H H') {l:Addr} (h:H' l=Option.none):H l=Option.none:=by
 cases q:H l with
 | none=>rfl
 | some o=>
  rw [e l o q] at h
  cases h
theorem Same.seq {K:W.Frag} {H H':Hp} {a:Addr} {xs:List V} (e:Same H H') (h:SqL K H a xs):SqL K H' a xs:=by
 rcases h with (h | ⟨o,h⟩) | h
 ·exact .inl (.inl (e _ _ h))
 ·exact .inl (.inr ⟨o,e _ _ h⟩)
 ·exact .inr h
end L2
set_option maxHeartbeats 4000000
set_option exponentiation.threshold 300
namespace L2
open PySem PySem.Spec PyProof.Rows
section
variable {X:Cx}
theorem bits_le {k:Int} {n:Nat} (h:k.natAbs<2 ^ n):Builtin.Int.intBits k<=n:=by
 unfold Builtin.Int.intBits
 split
 ·exact gR _
 ·rename_i h0
  have hz:k.natAbs≠0:=by
   intro z;apply h0
   have:k=0:=by omega
   simp [this]
  have:k.natAbs.log2<n:=(Nat.log2_lt hz).mpr h
  omega
noncomputable def CMulB (i j:Int):Prop:=i.natAbs<2 ^ 9000/\j.natAbs<2 ^ 9000
theorem CMulB.ok {i j:Int} (h:CMulB i j):IntMulOk i j:=by
 refine IntMulOk.of_bits (gZ (bits_le h.1) (by decide)) (gZ (bits_le h.2) (by decide))
theorem ba:OpR X (binaryOp .Mult) (rI CMulB λ i j=>.int (i*j)):=opI λ _ _ _ _ _ _ _ hc q=>mul_int q hc.ok
noncomputable def CDivB (_ j:Int):Prop:=j≠0/\j.natAbs<2 ^ 9000
theorem CDivB.ok {i j:Int} (h:CDivB i j):Builtin.divisionGoesByPylong i j=false:=
 PyProof.noPylong_of_log2 ((Nat.log2_lt (by have:=h.1;omega)).mpr h.2)
theorem a8:OpR X (binaryOp .FloorDiv) (rI CDivB λ i j=>.int (i.fdiv j)):=opI λ _ _ _ _ _ _ _ hc q=>floordiv_int hc.1 q (.inl hc.ok)
inductive IrIsI (K:W.Frag) (c:Value) (vs:List V) (H:Hp) (Q:VK):Prop
 | mk (x:_) (y:_) (t:_) (b:_) (h1:vs=[x,y]) (h2:(∀ u,RelV y u->u=c)) (h3:TyOf K H x t) (h4:PySem.W.kitOne K t c=some b) (h5:Q (.bl b) H):IrIsI K c vs H Q
noncomputable def rIsI (K:W.Frag) (c:Value):List V->Hp->VK->Prop:=λ vs H Q=>IrIsI K c vs H Q
theorem cY {c:Value}:dj X (.builtin "isinstance") (rIsI X.K c):=by
 intro pins s σ H xs us Q I r h;obtain ⟨x,y,t,b,rfl,hc,ty,e,q⟩:=h
 cases r with
 | cons r1 r2=>
  cases r2 with
  | cons r3 r4=>
   cases r4
   have:=hc _ r3
   subst this;exact isinst_ok I r1 ty e λ tk=>⟨.bl b,H,I.tok tk,rfl,q⟩
end
section
variable {X:Cx}
noncomputable def bP (X:Cx) (pins:List (Addr × Obj)) (N':List Str) (scope:Scope) (cl:List (Str × Addr)) (C:Addr) (fp:List Addr) (s:Shared) (H:Hp):Cx:=
 { X with N:=N',s₀:=s,H₀:=H,env:=compEnvC scope cl C X.env,outer:=X.stack,stack:=X.stack,ex:=fp,fn:=λ _=>false,pn:=X.pn++pins,xe:=λ _ _=>False }
structure Clos (X:Cx) (scope:Scope) (cl:List (Str × Addr)):Prop where
 clos:closureFor scope X.env=pure cl
 sub:∀ y c,cl.lookup y=some c->X.env.cells.lookup y=some c
 has:∀ y,((relabel scope X.env).names.lookup y=some .cell∨(relabel scope X.env).names.lookup y=some .free)->∃ c,cl.lookup y=some c
theorem relabel_none {scope:Scope} {env:Env} (hf:∀ x∈scope.names,x.2≠.free):relabel scope env=scope:=by
 unfold relabel
 have:(scope.names.map λ(n,k)=>if (k == NameKind.free && env.scope.kind == .function && env.kindOf n == some .cell) then (n,NameKind.cell) else (n,k))=scope.names:=by
  refine map_eq_self λ x hx=>?_;obtain ⟨n,k⟩:=x;have h1:(k == NameKind.free)=false:=by simpa using hf _ hx
  simp [h1]
 rw [this]
theorem Clos.none {scope:Scope} (hf:∀ x∈scope.names,x.2≠.free) (hc:∀ x∈scope.names,x.2≠.cell):Clos X scope []:=by
 refine ⟨closureFor_none hf,λ y c h=>by simp at h,λ y h=>?_⟩;rw [relabel_none hf] at h;rcases h with h | h
 ·exact absurd rfl (hc _ (iQ h))
 ·exact absurd rfl (hf _ (iQ h))
noncomputable def Reads (X:Cx) (scope:Scope) (rest:List Str) (sel:St->St):Prop:=
 ∀ σ,(sel σ).length=rest.length/\∀ (i:Nat) (y:Str) (v:V),rest[i]?=some y->(sel σ)[i]?=some (some v)->∃ j:Nat,X.N[j]?=some y/\σ[j]?=some (some v)/\X.env.scope.names.lookup y=some .cell/\(relabel scope X.env).names.lookup y=some .cell
end
end L2
namespace L2
open PySem PySem.Spec PyProof.Rows
theorem ifV {k m:Int} {A B:Prop} (h1:k=m->A) (h2:k≠m->B):if decide (V.int k=V.int m)=true then A else B:=by
 by_cases h:k=m
 ·rw [if_pos (by rw [h];exact hU rfl)];exact h1 h
 ·rw [if_neg (by rw [gT (by intro z;exact h (V.int.inj z))];decide)];exact h2 h
theorem ifB {c A B:Prop} [Decidable c] (h1:c->A) (h2:¬ c->B):if decide c=true then A else B:=by
 by_cases h:c
 ·rw [if_pos (hU h)];exact h1 h
 ·rw [if_neg (by rw [gT h];decide)];exact h2 h
theorem eW {c:Bool} {A B:Prop} (h:c=true) (a:A):if c=true then A else B:=by
 rw [if_pos h];exact a
theorem cE {c:Bool} {A B:Prop} (h:c=false) (b:B):if c=true then A else B:=by
 rw [if_neg (by rw [h];decide)];exact b
theorem neV {k m:Int} (h:k≠m):decide (V.int k=V.int m)=false:=gT (by intro z;exact h (V.int.inj z))
end L2
namespace L2
open PySem PySem.Spec PyProof.Rows
section
variable {X:Cx} {st:Stmt} {rest:List Stmt} {t u:TS}
noncomputable def tCut (t u:TS):TS:=λ D σ H=>∃ M:St->Hp->Prop,t { D with nx:=M } σ H/\∀ σ' H',M σ' H'->u D σ' H'
theorem aP (h1:PS X st t) (h2:PSs X rest u):PSs X (st::rest) (tCut t u):=by
 intro pins s σ H D I ⟨M,h,hM⟩;refine wpAny_execs_cons (thn (h1 pins s σ H { D with nx:=M } I h) λ f s1 q=>?_)
 cases f with
 | next=>
  obtain ⟨σ',H',I',q⟩:=q;exact h2 pins s1 σ' H' D I' (hM σ' H' q)
 | ret v=>exact q
 | brk=>exact q
 | cont=>exact q
end
theorem cZ {t u:TS} {D:Ends} {σ:St} {H:Hp} (M:St->Hp->Prop) (h1:t { D with nx:=M } σ H) (h2:∀ U:TS,U=u->∀ σ' H',M σ' H'->U D σ' H'):tCut t u D σ H:=⟨M,h1,h2 u rfl⟩
theorem keepG {p:Prop} (h:p):p:=h
noncomputable def rLen (K:W.Frag):List V->Hp->VK->Prop:=λ xs H Q=>∃ p ys,xs=[.ref p]/\(SqL K H p ys∨SqT K H p ys)/\Q (.int ys.length) H
theorem aO {X:Cx}:dj X (.builtin "len") (rLen X.K):=call_len_seq
end L2
namespace L2
open PySem
noncomputable def Trail (h:Heap) (e:Addr) (vs:Array Value):Option Addr->Prop
 | none=>vs[1]?=some .none
 | some T=>vs[1]?=some (.ref T)/\T≠e/\∃ oT ts,h.get? T=some oT/\oT.data=.fields ts/\ts[3]?=some .none
section
variable {M:Model} {A:Around} {E:Value->Shared->Prop} {s:Shared} {base:Heap} {env:Env} {outer:List Env} {L e:Addr} {oe:Obj} {vs:Array Value} {Q:Unit->Shared->Prop}
end
end L2
namespace L2
open PySem PySem.Spec PyProof.Rows
section
variable {P:Program} {w:World} {H:Hp} {h:Heap} {a:Addr} {o:HO}
end
section
variable {X:Cx} {pins:List (Addr × Obj)} {σ:St} {H H':Hp} {s s':Shared} {h':Heap}
noncomputable def Off (X:Cx) (pins:List (Addr × Obj)) (b:Addr):Prop:=
 X.s₀.heap.get? b=none/\b≠X.env.locals/\b ∉ X.fs/\(∀ x c,X.env.cells.lookup x=some c->c≠b)/\∀ p∈X.pn++pins,p.1≠b
noncomputable def XFly (X:Cx) (pins:List (Addr × Obj)) (H:Hp) (h:Heap) (x:Addr) (cls:Value) (d:Option Addr):Prop:=
 H x=none/\Off X pins x/\∃ vs sl tr,h.get? x=some ⟨cls,d,.fields vs,sl⟩/\Trail h x vs tr/\∀ T,tr=some T->H T=none/\Off X pins T
noncomputable def XP (X:Cx) (pins:List (Addr × Obj)) (σ:St) (E:XK) (e:Value) (s':Shared):Prop:=∃ x cls d H',e=.ref x/\Inv X pins σ H' s'/\XFly X pins H' s'.heap x cls d/\E cls d H'
noncomputable def Fly (g:Heap) (H:Hp) (h:Heap) (x:Addr) (cls:Value) (d:Option Addr):Prop:=
 g.get? x=none/\H x=none/\∃ vs sl tr,h.get? x=some ⟨cls,d,.fields vs,sl⟩/\Trail h x vs tr/\∀ T,tr=some T->g.get? T=none/\H T=none
noncomputable def CX1 (P:Program) (w:World):CXT:=λ outer H s E e s'=>∃ x cls d H',e=.ref x/\s'.os=s.os/\AllBare s'.gens/\Un (frs outer) [] H H' s.heap s'.heap/\HOk P w H' s'.heap/\Fly s.heap H' s'.heap x cls d/\E cls d H'
end
section
variable {P:Program} {w:World} {K:W.Frag} {mg:Str->Option Value} {base:Heap} {N:List Str} {qual:Str} {scope:Scope} {f:Addr} {cd:Value} {A:Around} {outer:List Env} {s₀:Shared} {H₀:Hp} {E:XK}
end
end L2
namespace L2
open PySem PySem.Spec PyProof.Rows
section
variable {X:Cx} {E:XK}
variable {k:Nat} {f C:Addr} {fd:FuncData} {ps:List Str} {sp:Sp} {dvs:List V} {ds:List Value} {x m:Str} {p pos apos:Pos} {e o:Expr} {es:List Expr} {ta:TE} {t:TA}
end
section
variable {X:Cx}
noncomputable abbrev Cx.hnd (X:Cx) (x:Addr):Cx:={ X with A:=X.A.mark (some (.ref x)),calm:=false,xe:=λ _ _=>False }
variable {pins:List (Addr × Obj)} {σ:St} {H:Hp} {s:Shared} {x:Addr}
noncomputable def XO (x C:Addr) (d:Option Addr):HO:=.ext λ h=>∃ vs sl,h.get? x=some ⟨.ref C,d,.fields vs,sl⟩
noncomputable def XHeld (X:Cx) (pins:List (Addr × Obj)) (H:Hp) (h:Heap) (x:Addr) (cls:Value) (d:Option Addr):Prop:=
 H x=none/\Off X pins x/\∃ vs sl T,h.get? x=some ⟨cls,d,.fields vs,sl⟩/\Trail h x vs (some T)/\H T=none/\Off X pins T
noncomputable abbrev TH:=Ends->St->Value->Option Addr->Hp->Prop
end
end L2
namespace L2
open PySem PySem.Spec PyProof.Rows
noncomputable def FnB (P:Program) (w:World) (K:W.Frag) (mg:Str->Option Value) (base:Heap) (CX:CXT) (x:Str) (k:Nat) (ps:List Str) (sp:Sp):Prop:=
 ∃ f fd,mg x=some (.ref f)/\PySem.W.keepIn K (.ref f)=true/\Binds K fd ps []/\FnOk P w K mg base CX k f fd ps sp
noncomputable def MtB (P:Program) (w:World) (K:W.Frag) (mg:Str->Option Value) (base:Heap) (CX:CXT) (C:Addr) (m:Str) (k:Nat) (ps:List Str) (sp:Sp):Prop:=
 ∃ f fd,Meth K C m f/\Binds K fd ps []/\FnOk P w K mg base CX k f fd ps sp
noncomputable def MkB (P:Program) (w:World) (K:W.Frag) (mg:Str->Option Value) (base:Heap) (CX:CXT) (C:Addr) (k:Nat) (ps:List Str) (dvs:List V) (sp:Sp):Prop:=
 ∃ f fd ds,Mk K C f/\Binds K fd ps ds/\Vals dvs ds/\FnOk P w K mg base CX k f fd ps sp
section
variable {P:Program} {w:World} {K:W.Frag} {mg:Str->Option Value} {base:Heap} {CX:CXT} {x m:Str} {C:Addr} {k:Nat} {ps:List Str} {sp:Sp} {dvs:List V}
theorem FnB.imp {sp':Sp} (h:FnB P w K mg base CX x k ps sp) (i:∀ vs H Q E,sp' vs H Q E->sp vs H Q E):FnB P w K mg base CX x k ps sp':=by
 obtain ⟨f,fd,a,b,c,d⟩:=h
 exact ⟨f,fd,a,b,c,d.imp i⟩
end
section
variable {X:Cx} {CX:CXT} {k j:Nat} {C:Addr} {ps:List Str} {sp:Sp} {dvs:List V} {E:XK} {x m:Str} {p pos apos:Pos} {e o:Expr} {es:List Expr} {ta:TE} {t:TA}
theorem ax (F:FnB X.prog X.w X.K X.mg X.base CX x k ps sp) (hr:Room j X.A) (hx:cb CX X E) (ha:PA X (e::es) t) (hj:k<=j:=by decide) (hg:Gl X x:=by rfl) (hdb:(x == ("__debug__":Str))=false:=by decide)
  (he:starEach (e::es) X.env=(false,eval e X.env)::starEach es X.env:=by rfl) (hpl:(backTo pos (starEach es X.env)).any (·.1)=false:=by rfl):PE X (.Call (.Name x p) (e::es) [] pos) (tCall sp [] E t):=by
 obtain ⟨f,fd,a,b,c,d⟩:=F;exact pe_call d (hr.mono hj) hg a b c .nil hx ha hdb he hpl
theorem pe_mk (F:MkB X.prog X.w X.K X.mg X.base CX C k ps dvs sp) (hr:Room j X.A) (hm:X.mg x=some (.ref C)) (hx:cb CX X E) (ha:PA X (e::es) t) (hj:k+1<=j:=by decide) (hg:Gl X x:=by rfl) (hdb:(x == ("__debug__":Str))=false:=by decide)
  (he:starEach (e::es) X.env=(false,eval e X.env)::starEach es X.env:=by rfl) (hpl:(backTo pos (starEach es X.env)).any (·.1)=false:=by rfl):PE X (.Call (.Name x p) (e::es) [] pos) (tMake C sp dvs E t):=by
 obtain ⟨f,fd,ds,a,b,c,d⟩:=F;exact pe_make a d (hr.mono hj) hg hm b c hx ha hdb he hpl
end
noncomputable def FDe (K:W.Frag) (mg:Str->Option Value) (x:Str) (st:Stmt) (ps:List Str):Prop:=∃ f fd,Fun K x x st f fd/\mg x=some (.ref f)/\Binds K fd ps []
noncomputable def MDe (K:W.Frag) (C:Addr) (x qual:Str) (st:Stmt) (ps:List Str):Prop:=∃ f fd,Fun K x qual st f fd/\Meth K C x f/\Binds K fd ps []
section
variable {P:Program} {w:World} {K:W.Frag} {mg:Str->Option Value} {base:Heap} {x qual:Str} {C:Addr} {st:Stmt} {N ps:List Str} {k:Nat} {sp:Sp}
theorem FDe.ok (F:FDe K mg x st ps) (S:FnScope N ps (ai st)) (len:∀ vs H Q E,sp vs H Q E->vs.length=ps.length)
  (hbody:∀ (f:Addr) (cdv:Value) (A:Around) (outer:List Env) (s:Shared) (H:Hp) (vs:List V) (Q:VK) (E:XK),Room k (A.deeper (envOfC x (ai st) s.heap.objs.size f cdv))->sp vs H Q E->
   ∃ t,PSs (aI CX0 P w K mg base N x (ai st) f cdv A outer s H E).nox (bh st) t/\t { nx:=λ _ H'=>Q .non H',rt:=Q } (c5 N vs) H):FnB P w K mg base CX0 x (k+1) ps sp:=
 let ⟨f,fd,a,b,c⟩:=F
 ⟨f,fd,b,a.kp,c,a.ok S len (hbody f)⟩
theorem MDe.ok (F:MDe K C x qual st ps) (S:FnScope N ps (ai st)) (len:∀ vs H Q E,sp vs H Q E->vs.length=ps.length)
  (hbody:∀ (f:Addr) (cdv:Value) (A:Around) (outer:List Env) (s:Shared) (H:Hp) (vs:List V) (Q:VK) (E:XK),Room k (A.deeper (envOfC qual (ai st) s.heap.objs.size f cdv))->sp vs H Q E->
   ∃ t,PSs (aI CX0 P w K mg base N qual (ai st) f cdv A outer s H E).nox (bh st) t/\t { nx:=λ _ H'=>Q .non H',rt:=Q } (c5 N vs) H):MtB P w K mg base CX0 C x (k+1) ps sp:=
 let ⟨f,fd,a,b,c⟩:=F
 ⟨f,fd,b,c,a.ok S len (hbody f)⟩
end
noncomputable def FunG (K:W.Frag) (x qual:Str) (st:Stmt) (f:Addr) (fd:FuncData):Prop:=∃ (oc:Value) (od:Option Addr) (dV kV doc pm:Value) (an:Option Addr) (cdv ct:Value) (osl:Array (Option Value)),
  fd=PySem.W.fnOf x qual (b7 st) (bh st) (ai st) dV kV doc pm an cdv ct/\K.lookup f=some ⟨oc,od,.func fd,osl⟩/\PySem.W.codeIn K cdv qual=true
structure FunD (K:W.Frag) (x qual:Str) (st:Stmt) (f:Addr) (fd:FuncData) (ds:Array Value):Prop where
 ex:∃ (oc:Value) (od:Option Addr) (T:Addr) (kV doc pm:Value) (an:Option Addr) (cdv ct:Value) (osl:Array (Option Value)) (o:Obj) (n:Nat),
  fd=PySem.W.fnOf x qual (b7 st) (bh st) (ai st) (.ref T) kV doc pm an cdv ct/\K.lookup f=some ⟨oc,od,.func fd,osl⟩/\PySem.W.codeIn K cdv qual=true/\K.lookup T=some o/\o.data=.seq ds n
section
variable {P:Program} {w:World} {K:W.Frag} {mg:Str->Option Value} {base:Heap} {x qual:Str} {C:Addr} {st:Stmt} {f:Addr} {fd:FuncData} {ds:Array Value} {N ps:List Str} {k:Nat} {sp:Sp}
theorem FunD.gen (F:FunD K x qual st f fd ds):FunG K x qual st f fd:=by
 obtain ⟨oc,od,T,kV,doc,pm,an,cdv,ct,osl,_,_,e,l,c,_⟩:=F.ex
 exact ⟨oc,od,.ref T,kV,doc,pm,an,cdv,ct,osl,e,l,c⟩
theorem Fun.gen (F:Fun K x qual st f fd):FunG K x qual st f fd:=by
 obtain ⟨oc,od,kV,doc,pm,an,cdv,ct,osl,e,l,c⟩:=F.ex
 exact ⟨oc,od,.none,kV,doc,pm,an,cdv,ct,osl,e,l,c⟩
theorem FunD.binds {es:List Value} (F:FunD K x qual st f fd ds)
  (h:∀ (T:Addr) (kV doc pm:Value) (an:Option Addr) (cdv ct:Value) (us:List Value),(us++es).length=ps.length->∃ k,bindArgs (PySem.W.fnOf x qual (b7 st) (bh st) (ai st) (.ref T) kV doc pm an cdv ct) ⟨us,[]⟩=seqItems? (.ref T) >>= k/\k (some ds)=pure (ps.zip (us++es))):Binds K fd ps es:=by
 obtain ⟨oc,od,T,kV,doc,pm,an,cdv,ct,osl,o,n,rfl,lk,hcd,lt,hd⟩:=F.ex;intro s us KX hl;obtain ⟨k,h1,h2⟩:=h T kV doc pm an cdv ct us hl;exact PySem.W.binds_K KX rfl lt hd h1 h2
theorem funD_mk {T:Addr} {oc:Value} {od an:Option Addr} {osl:Array (Option Value)} {kV doc pm cdv ct:Value} {o:Obj} {n:Nat} (l:K.lookup f=some ⟨oc,od,.func (PySem.W.fnOf x qual (b7 st) (bh st) (ai st) (.ref T) kV doc pm an cdv ct),osl⟩)
  (c:PySem.W.codeIn K cdv qual=true) (t:K.lookup T=some o) (hd:o.data=.seq ds n):FunD K x qual st f (PySem.W.fnOf x qual (b7 st) (bh st) (ai st) (.ref T) kV doc pm an cdv ct) ds:=⟨⟨oc,od,T,kV,doc,pm,an,cdv,ct,osl,o,n,rfl,l,c,t,hd⟩⟩
theorem FunG.ok (F:FunG K x qual st f fd) (S:FnScope N ps (ai st)) (len:∀ vs H Q E,sp vs H Q E->vs.length=ps.length)
  (hbody:∀ (cdv:Value) (A:Around) (outer:List Env) (s:Shared) (H:Hp) (vs:List V) (Q:VK) (E:XK),Room k (A.deeper (envOfC qual (ai st) s.heap.objs.size f cdv))->sp vs H Q E->
   ∃ t,PSs (aI CX0 P w K mg base N qual (ai st) f cdv A outer s H E).nox (bh st) t/\t { nx:=λ _ H'=>Q .non H',rt:=Q } (c5 N vs) H):FnOk P w K mg base CX0 (k+1) f fd ps sp:=by
 obtain ⟨oc,od,dV,kV,doc,pm,an,cdv,ct,osl,rfl,lk,hcd⟩:=F;refine fn_of lk hcd S len λ A outer s H vs Q E hr hsp=>?_;obtain ⟨t,h,q⟩:=hbody cdv A outer s H vs Q E hr hsp;exact ⟨t,h.nox,q⟩
noncomputable def IDe (K:W.Frag) (C:Addr) (qual:Str) (st:Stmt) (ps:List Str) (dvss:List (List V)):Prop:=∃ f fd,FunG K "__init__" qual st f fd/\Mk K C f/\∀ dvs∈dvss,∃ es,Vals dvs es/\Binds K fd ps es
theorem IDe.ok {dvss:List (List V)} (F:IDe K C qual st ps dvss) (S:FnScope N ps (ai st)) (len:∀ vs H Q E,sp vs H Q E->vs.length=ps.length)
  (hbody:∀ (f:Addr) (cdv:Value) (A:Around) (outer:List Env) (s:Shared) (H:Hp) (vs:List V) (Q:VK) (E:XK),Room k (A.deeper (envOfC qual (ai st) s.heap.objs.size f cdv))->sp vs H Q E->
   ∃ t,PSs (aI CX0 P w K mg base N qual (ai st) f cdv A outer s H E).nox (bh st) t/\t { nx:=λ _ H'=>Q .non H',rt:=Q } (c5 N vs) H):∀ dvs∈dvss,MkB P w K mg base CX0 C (k+1) ps dvs sp:=λ dvs hd=>
 let ⟨f,fd,a,b,c⟩:=F
 let ⟨es,v,d⟩:=c dvs hd
 ⟨f,fd,es,b,d,v,a.ok S len (hbody f)⟩
end
end L2
namespace L2
open PySem PySem.Spec PyProof.Rows PySem.W PySem.Calls
theorem weight_mem:∀ (ns:List Int) (n:Int),n∈ns->Builtin.Int.intBits n<=WData.weightAll (ns.map WData.int)
 | m::r,n,h=>by
  rw [iM];show Builtin.Int.intBits n<=WData.weight (.int m)+1+WData.weightAll (r.map WData.int);rcases hV.mp h with z | z
  ·subst z
   have:WData.weight (.int n)=Builtin.Int.intBits n:=by
    simp only [WData.weight,Builtin.Int.intBits]
   omega
  ·have:=weight_mem r n z
   omega
theorem bits_of_lay {ns:List Int} (h:WData.layableAll [WData.list (ns.map WData.int)]=true):∀ n∈ns,Builtin.Int.intBits n<=2 ^ 20:=λ n hn=>by
 have h1:(WData.list (ns.map WData.int)).layable=true:=by
  unfold WData.layableAll at h;simpa using h
 have h2:=(layableW_iff.mp h1).2.2;have h3:=weight_mem ns n hn;exact gZ h3 h2
theorem walk_ofB {l:PySem.W.OpenLaw} {n k:Nat} {q:Program} {loose:List Str} {XP:(Str->Option Value)->Heap->Prop} {YP:World->Heap->Prop} {d:DefRec} {K:Params->W.Frag} {CX:World->CXT} {sp:World->Sp} {x:Str}
  (hn:l.most=some n) (hn2:n<=sizeLine) (hdf:d.params.defaults=[]) (hr:Room k callerA)
  (hY:∀ (w:World) (h:Heap),YP w h->(K w.params).In h)
  (F:∀ (w:World) (mg:Str->Option Value) (fa:Addr) (h:Heap),(K w.params).In h->h.Ns mainGlobals mg->mg d.name=some (.ref fa)->
   ∃ fd:FuncData,(∀ (s:Shared) (u:Value),BindsTo s fd ⟨[u],[]⟩ [(x,u)])/\
    ∀ base:Heap,(K w.params).In base->base.Ns mainGlobals mg->FnOk l.prog w (K w.params) mg base (CX w) k fa fd [x] (sp w))
  (hsp:∀ (w:World) (H:Hp) (a:Addr) (ns:List Int),ns.length<=n->(∀ i∈ns,Builtin.Int.intBits i<=2 ^ 20)->Only H->SqL (K w.params) H a (ns.map V.int)->sp w [.ref a] H (λ v _=>v=.bl true) λ _ _ _=>False)
  (hCX:∀ (w:World) (H:Hp) (s:Shared) (e:Value) (s':Shared),CX w [] H s (λ _ _ _=>False) e s'->False) :
  PySem.W.WalkO q loose XP YP l.row.toRowW d [] (λ f vs=>PySem.call f vs):=by
 intro w s₀ s₁ mg mb G Y fa o pm cd doc dV kV ho hd hcd hD hmg hg args vals as hpre hlay hrd hwl hlo;obtain rfl:dV=.none:=Dflts.none hD hdf;obtain rfl:kV=.none:=Dflts.noKw hD;obtain ⟨a,vs,ns,rfl,rfl,hobj,hints,hlen⟩:=Att.script_of hn hpre hwl;have hbits:=bits_of_lay hlay;have KX:=hY w _ Y;obtain ⟨fd,hb,hF⟩:=F w mg fa _ KX G.T.g hmg;refine enter_call (codeAny_mono (law_call KX G.T.g G.T.b G.T.builtins G.T.nolimit hg hobj hints (gZ hlen hn2) hr hF hb (λ H hO hS=>hsp w H a ns hlen hbits hO hS) λ H e s'=>hCX w H s₁ e s') λ r s' hq=>?_);obtain ⟨rfl,h2,h3,h4⟩:=hq;exact ⟨.inl ⟨.bool true,.bool true,[],rfl,λ _=>rfl,.bool true,Att.post_true l _,λ _=>⟨List.Pairwise.nil,λ _ hm=>(nomatch hm)⟩⟩,h2,h3,h4⟩
section
variable {X:Cx}
end
end L2
namespace L2
open PySem PySem.Spec PyProof.Rows
section
variable {prog:Program} {w:World} {A:Around} {E:Value->Shared->Prop} {s:Shared} {K:W.Frag} {x D:Addr} {ox:Obj} {od:Option Obj} {name:Str}
structure ExA (K:W.Frag) (D:Addr):Prop where
 ga:PySem.W.findIn K (.ref D) "__getattribute__"=some (some (.builtin "BaseException.__getattribute__"))
 gh:PySem.W.findIn K (.ref D) "__getattr__"=some none
 be:PySem.W.mroIn K D (.type "BaseException")=some true
 ca:PySem.W.findIn K (.ref D) "__class__"=some (some (.builtin "object.__class__"))
 gs:PySem.W.specialIn K (.builtin "object.__class__") "__get__"=some (some (.builtin "getset_descriptor.__get__"))
 tk:PySem.W.takesIn K (.builtin "object.__class__")=some true
 ob:PySem.W.mroIn K D (.type "object")=some true
 cl:∃ cd,PySem.W.clsIn K D=some cd
end
section
variable {X:Cx}
noncomputable def XAt (H:Hp) (x D:Addr):Prop:=H x=some (XO x D none)
noncomputable def eqVs:List V->List V->Bool
 | [],[]=>true
 | x::xs,y::ys=>eqV x y && eqVs xs ys
 | _,_=>false
theorem vals_at {xs:List V} {us:List Value} (r:Vals xs us):∀ {j:Nat} {x:V} {u:Value},xs[j]?=some x->us[j]?=some u->RelV x u:=by
 induction r with
 | nil=>intro j x u h;cases h
 | cons r1 _ ih=>
  intro j x u h1 h2
  cases j with
  | zero=>cases h1;cases h2;exact r1
  | succ j=>exact ih h1 h2
inductive IrEqL (K:W.Frag) (x:V) (y:V) (H:Hp) (Q:VK):Prop
 | mk (p:_) (q:_) (xs:_) (ys:_) (h1:x=.ref p) (h2:y=.ref q) (h3:SqL K H p xs) (h4:SqL K H q ys) (h5:xs.all flatV=true) (h6:ys.all flatV=true) (h7:Q (.bl (eqVs xs ys)) H):IrEqL K x y H Q
end
end L2
namespace L2
open PySem PySem.Spec PyProof.Rows
inductive ItMethD (P:Program) (w:World) (K:W.Frag) (mg:Str->Option Value) (base:Heap) (CX:CXT) (m:Str) (j:Nat) (E:XK) (t:TA) (σ:St) (Q:VK) (x:V) (H1:Hp):Prop
 | mk (a:_) (C:_) (dx:_) (fs:_) (k:_) (ps:_) (sp:_) (h1:x=.ref a) (h2:H1 a=some (.ins C dx fs)) (h3:fs.lookup m=none) (h4:Cls K C) (h5:k<=j) (h6:MtB P w K mg base CX C m k ps sp) (h7:t σ H1 λ vs H2=>sp ((.ref a::vs)++[]) H2 Q E):ItMethD P w K mg base CX m j E t σ Q x H1
noncomputable def tMethD (P:Program) (w:World) (K:W.Frag) (mg:Str->Option Value) (base:Heap) (CX:CXT) (m:Str) (j:Nat) (E:XK) (ta:TE) (t:TA):TE:=λ σ H Q=>ta σ H λ x H1=>ItMethD P w K mg base CX m j E t σ Q x H1
structure ClsRd (K:W.Frag) (C:Addr):Prop where
 rd:PySem.W.readsIn K C (.type "type")=true
 sg:PySem.W.specialIn K (.ref C) "__getattribute__"=some (some (.builtin "type.__getattribute__"))
noncomputable def CfB (P:Program) (w:World) (K:W.Frag) (mg:Str->Option Value) (base:Heap) (CX:CXT) (C:Addr) (m:Str) (k:Nat) (ps:List Str) (sp:Sp):Prop:=
 ∃ f fd,ClsRd K C/\PySem.W.findCls K (.ref C) (.type "type") m=some (.val (.ref f))/\PySem.W.keepIn K (.ref f)=true/\Binds K fd ps []/\FnOk P w K mg base CX k f fd ps sp
section
variable {X:Cx} {CX:CXT} {k j:Nat} {C:Addr} {ps:List Str} {sp:Sp} {E:XK} {x m:Str} {p pos apos:Pos} {e o:Expr} {es:List Expr} {ta:TE} {t:TA}
theorem bV {pl:Sem Bool} (he:PE X o ta) (hr:Room j X.A) (hx:cb CX X E) (ha:PA X (e::es) t)
  (hst:starEach (e::es) X.env=(false,eval e X.env)::starEach es X.env:=by rfl) (hpl:(backTo pos (starEach es X.env)).any (·.1)=false:=by rfl)
  (ht:eval (.Call (.Attribute o m apos) (e::es) [] pos) X.env=(do
   let ov <- eval o X.env
   standAt apos.atName
   let (f,first) <- holding [ov] (getMethod ov m pl)
   callWith pos f first (backTo pos (starEach (e::es) X.env)) (backToKw pos (keywordEach [] X.env))):=by rfl):PE X (.Call (.Attribute o m apos) (e::es) [] pos) (tMethD X.prog X.w X.K X.mg X.base CX m j E ta t):=by
 intro pins s σ H Q I h;refine PySem.W.methodCall_KW (pl:=pl) (thn (he pins s σ H _ I h) λ u s1 ⟨x,H1,I1,rx,a,C,dx,fs,k,ps,sp,ex,ea,l,c,hj,⟨f,fd,hm,hb,F⟩,q⟩=>?_) ht;subst ex;obtain rfl:u=Value.ref a:=rx;refine dS I1 ea c hm l ?_;refine PySem.W.callWith_K (first:=[.ref a]) (h₀:=X.base) I.ok.mod.kin hm.kp (thn (ha pos pins s1 σ H1 _ I1 q) λ us s2 ⟨vs,H2,I2,r,q2⟩=>⟨I2.kIn,?_⟩) hst hpl;exact run_fn (us:=.ref a::us) (vs:=.ref a::vs) F (hr.mono hj) hb .nil hx I2 (.cons rfl r) q2
theorem pe_mtD0 {pl:Sem Bool} (he:PE X o ta) (hr:Room j X.A) (hx:cb CX X E)
  (ht:eval (.Call (.Attribute o m apos) [] [] pos) X.env=(do
   let ov <- eval o X.env
   standAt apos.atName
   let (f,first) <- holding [ov] (getMethod ov m pl)
   callWith pos f first (backTo pos (starEach [] X.env)) (backToKw pos (keywordEach [] X.env))):=by rfl):PE X (.Call (.Attribute o m apos) [] [] pos) (tMethD X.prog X.w X.K X.mg X.base CX m j E ta tNil):=by
 intro pins s σ H Q I h;refine PySem.W.methodCall_KW (pl:=pl) (thn (he pins s σ H _ I h) λ u s1 ⟨x,H1,I1,rx,a,C,dx,fs,k,ps,sp,ex,ea,l,c,hj,⟨f,fd,hm,hb,F⟩,q⟩=>?_) ht;subst ex;obtain rfl:u=Value.ref a:=rx;refine dS I1 ea c hm l ?_;exact PySem.W.callWith_K0 (first:=[.ref a]) I1.kIn hm.kp (run_fn (us:=[.ref a]) (vs:=[.ref a]) F (hr.mono hj) hb .nil hx I1 (.cons rfl .nil) q)
theorem pe_cf {np:Pos} {pl:Sem Bool} (F:CfB X.prog X.w X.K X.mg X.base CX C m k ps sp) (hr:Room j X.A) (hm:X.mg x=some (.ref C)) (hx:cb CX X E) (ha:PA X (e::es) t) (hj:k<=j:=by decide) (hg:Gl X x:=by rfl) (hdb:(x == ("__debug__":Str))=false:=by decide)
  (hst:starEach (e::es) X.env=(false,eval e X.env)::starEach es X.env:=by rfl) (hpl:(backTo pos (starEach es X.env)).any (·.1)=false:=by rfl)
  (ht:eval (.Call (.Attribute (.Name x np) m apos) (e::es) [] pos) X.env=(do
   let ov <- eval (.Name x np) X.env
   standAt apos.atName
   let (f,first) <- holding [ov] (getMethod ov m pl)
   callWith pos f first (backTo pos (starEach (e::es) X.env)) (backToKw pos (keywordEach [] X.env))):=by rfl):PE X (.Call (.Attribute (.Name x np) m apos) (e::es) [] pos) (tCall sp [] E t):=by
 intro pins s σ H Q I h;obtain ⟨f,fd,c,hf,hk,hb,F⟩:=F;refine PySem.W.methodCall_KW (pl:=pl) (gA I hg hm ?_ hdb) ht;refine PySem.W.method_cls I.kIn c.sg (PySem.W.cls_value I.kIn c.rd hf rfl ?_);have I1:=I.tok (s.toks+1);refine PySem.W.callWith_K (first:=[]) (h₀:=X.base) I.ok.mod.kin hk (thn (ha pos pins _ σ H _ I1 h) λ us s2 ⟨vs,H2,I2,r,q2⟩=>⟨I2.kIn,?_⟩) hst hpl;exact run_fn (us:=us) (vs:=vs) F (hr.mono hj) hb .nil hx I2 r q2
noncomputable def rRepS:R2:=λ x y H Q=>∃ z n,x=.str z/\y=.int n/\z.length=1/\n.natAbs<1000/\Q (.str (Txt.mul z n)) H
theorem op_rep_str:OpR X (binaryOp .Mult) rRepS:=by
 intro pins s σ H x y v u Q I rx ry h;obtain ⟨z,n,rfl,rfl,hz,hn,q⟩:=h;obtain ⟨t,rfl⟩:=rx;obtain ⟨t',rfl⟩:=ry;refine SB.mul ⟨?_,λ h1 _=>?_,λ h1 _=>?_⟩ λ t' tk=>⟨.str _,H,I.tok _,⟨_,rfl⟩,q⟩
 ·simp;omega
 ·rw [hz]
  have:(1:Int)<=(2 ^ 63-1) / n:=Int.le_ediv_of_mul_le (by omega) (by omega)
  omega
 ·rw [hz];unfold Builtin.Str.tooLong;simp only [PySem.sizeLine_eq,gt_iff_lt,decide_eq_false_iff_not];omega
end
section
variable {P:Program} {w:World} {K:W.Frag} {mg:Str->Option Value} {base:Heap} {x qual:Str} {C:Addr} {st:Stmt} {N ps:List Str} {k:Nat} {sp:Sp}
noncomputable def CDe (K:W.Frag) (C:Addr) (qual:Str) (st:Stmt) (ps:List Str):Prop:=∃ f fd,FunG K "__init__" qual st f fd/\ClsRd K C/\PySem.W.findCls K (.ref C) (.type "type") "__init__"=some (.val (.ref f))/\PySem.W.keepIn K (.ref f)=true/\Binds K fd ps []
theorem CDe.ok (F:CDe K C qual st ps) (S:FnScope N ps (ai st)) (len:∀ vs H Q E,sp vs H Q E->vs.length=ps.length)
  (hbody:∀ (f:Addr) (cdv:Value) (A:Around) (outer:List Env) (s:Shared) (H:Hp) (vs:List V) (Q:VK) (E:XK),Room k (A.deeper (envOfC qual (ai st) s.heap.objs.size f cdv))->sp vs H Q E->
   ∃ t,PSs (aI CX0 P w K mg base N qual (ai st) f cdv A outer s H E).nox (bh st) t/\t { nx:=λ _ H'=>Q .non H',rt:=Q } (c5 N vs) H):CfB P w K mg base CX0 C "__init__" (k+1) ps sp:=
 let ⟨f,fd,a,b,c,d,e⟩:=F
 ⟨f,fd,b,c,d,e,a.ok S len (hbody f)⟩
end
end L2
namespace L2
open PySem PySem.Spec PyProof.Rows
section
variable {prog:Program} {w:World} {A:Around} {E:Value->Shared->Prop} {s:Shared}
end
section
variable {X:Cx} {pos:Pos}
end
end L2
namespace L2
open PySem PySem.Spec PyProof.Rows
noncomputable def BodyOk (P:Program) (w:World) (K:W.Frag) (mg:Str->Option Value) (base:Heap) (qual:Str) (st:Stmt) (N:List Str) (k:Nat) (sp:Sp):Prop:=
 ∀ (f:Addr) (cdv:Value) (A:Around) (outer:List Env) (s:Shared) (H:Hp) (vs:List V) (Q:VK) (E:XK),Room k (A.deeper (envOfC qual (ai st) s.heap.objs.size f cdv))->sp vs H Q E->
  ∃ t,PSs (aI CX0 P w K mg base N qual (ai st) f cdv A outer s H E).nox (bh st) t/\t { nx:=λ _ H'=>Q .non H',rt:=Q } (c5 N vs) H
end L2
namespace L2
open PySem PySem.Spec PyProof.Rows
section
variable {X:Cx}
theorem isPart_of {v:Value} {i:Option Int} (h:IsPart v i):∃ l:Option (Int × Tok),v=partValue l/\l.map (·.1)=i:=by
 cases h with
 | none=>exact ⟨none,rfl,rfl⟩
 | int i t=>exact ⟨some (i,t),rfl,rfl⟩
noncomputable def rSlS:V->Option Int->Option Int->Hp->VK->Prop:=λ x lo hi H Q=>∃ z,x=.str z/\z.length<=sizeLine/\Q (.str (Txt.slice z lo hi)) H
theorem sl_str:SlR X rSlS:=by
 intro pins s σ H x v vl vu lo hi sl Q I rx hs pl pu h;obtain ⟨z,rfl,hz,q⟩:=h;obtain ⟨t,rfl⟩:=rx;obtain ⟨l,rfl,rfl⟩:=isPart_of pl;obtain ⟨u,rfl,rfl⟩:=isPart_of pu;obtain ⟨o,ho,hc,hd⟩:=hs
 exact ⟨"str",_,F.slot_str_getitem.lookup,typeIs_str _ _ _,wpAny_getItem_str_slice (l:=l) (u:=u) (st:=none) ⟨o,ho,hc,hd⟩ rfl
  (post_val_or_str ⟨gZ (Txt.slice_le z _ _) hz,λ t' k=>⟨.str (Txt.slice z (l.map (·.1)) (u.map (·.1))),H,I.tok k,⟨t',rfl⟩,q⟩⟩)⟩
theorem pe_gi {x:Str} {i:Int} {pos:Pos} (h:∃ tk,X.mg x=some (.int i tk)) (hg:Gl X x:=by rfl) (hd:(x == ("__debug__":Str))=false:=by decide):PE X (.Name x pos) (tC (.int i)):=by
 obtain ⟨tk,h⟩:=h;exact pe_glob hg h ⟨tk,rfl⟩ hd
inductive IrEqN (K:W.Frag) (x:V) (y:V) (H:Hp) (Q:VK):Prop
 | mk (p:_) (q:_) (xs:_) (h1:x=.ref p) (h2:y=.ref q) (h3:SqL K H p xs) (h4:SqL K H q []) (h5:Q (.bl xs.isEmpty) H):IrEqN K x y H Q
noncomputable def rEqN (K:W.Frag):R2:=λ x y H Q=>IrEqN K x y H Q
inductive IrNeN (K:W.Frag) (x:V) (y:V) (H:Hp) (Q:VK):Prop
 | mk (p:_) (q:_) (xs:_) (h1:x=.ref p) (h2:y=.ref q) (h3:SqL K H p xs) (h4:SqL K H q []) (h5:Q (.bl (!xs.isEmpty)) H):IrNeN K x y H Q
noncomputable def rNeN (K:W.Frag):R2:=λ x y H Q=>IrNeN K x y H Q
theorem op_eqN (hu:X.A.units<cLine):OpR X (compareOp .Eq) (rEqN X.K):=by
 intro pins s σ H x y v u Q I rx ry h;obtain ⟨p,q,xs,rfl,rfl,hp,hq,k⟩:=h
 cases rx
 cases ry;obtain ⟨us,r,pl,hz⟩:=I.list hp;obtain ⟨ws,r',pl',hz'⟩:=I.list hq
 cases r'
 cases r with
 | nil=>exact SeqAt.eq_listAt (e:=λ _=>true) pl.isList pl'.isList rfl hu (λ j h1 _=>absurd h1 (by simp)) ⟨.bl true,H,I,rfl,k⟩
 | cons=>exact SeqAt.eq_list_lengthsAt pl.isList pl'.isList (by simp) hu ⟨.bl false,H,I,rfl,k⟩
theorem op_neN (hu:X.A.units<cLine):OpR X (compareOp .NotEq) (rNeN X.K):=by
 intro pins s σ H x y v u Q I rx ry h;obtain ⟨p,q,xs,rfl,rfl,hp,hq,k⟩:=h
 cases rx
 cases ry;obtain ⟨us,r,pl,hz⟩:=I.list hp;obtain ⟨ws,r',pl',hz'⟩:=I.list hq
 cases r'
 cases r with
 | nil=>exact SeqAt.RcNeAt.lists (e:=λ _=>true) pl.isList pl'.isList rfl hu (λ j h1 _=>absurd h1 (by simp)) X.prog X.w X.xe _ ⟨.bl false,H,I,rfl,k⟩
 | cons=>exact SeqAt.RcNeAt.lists_lengths pl.isList pl'.isList (by simp) hu X.prog X.w X.xe _ ⟨.bl true,H,I,rfl,k⟩
theorem pe_fldK {K:W.Frag} {o:Expr} {f:Str} {pos:Pos} {ta:TE} (hK:X.K=K) (h:PE X o ta) (hb:attributeBase o f X.env (eval o X.env)=eval o X.env):PE X (.Attribute o f pos) (tFld K ta f):=by
 subst hK;exact ay h hb
end
end L2
namespace L2
open PySem PySem.Spec PyProof.Rows
section
variable {κ:Type} [DecidableEq κ]
noncomputable def bu (kvs:List (κ × V)) (k:κ):Option V:=(kvs.find? λ kv=>decide (kv.1=k)).map (·.2)
noncomputable def bj (kvs:List (κ × V)) (k:κ) (v:V):List (κ × V):=
 if (kvs.any λ kv=>decide (kv.1=k))=true then kvs.map (λ kv=>if kv.1=k then (kv.1,v) else kv) else kvs++[(k,v)]
noncomputable def dropK (kvs:List (κ × V)) (k:κ):List (κ × V):=kvs.filter λ kv=>decide (kv.1≠k)
theorem bB {p:κ × V} {r:List (κ × V)} {k:κ} (e:p.1=k):bu (p::r) k=some p.2:=by simp [bu,List.find?_cons,e]
theorem bC {p:κ × V} {r:List (κ × V)} {k:κ} (e:¬ p.1=k):bu (p::r) k=bu r k:=by simp [bu,List.find?_cons,e]
theorem ck (k:κ):∀ kvs:List (κ × V),(kvs.any λ kv=>decide (kv.1=k))=(bu kvs k).isSome
 | []=>rfl
 | p::r=>by
  rw [List.any_cons];by_cases e:p.1=k
  ·simp only [bB e,hU e,Bool.true_or,Option.isSome_some]
  ·rw [bC e,gT e,Bool.false_or];exact ck k r
theorem valV_map (k j:κ) (y:V):∀ kvs:List (κ × V),bu (kvs.map λ kv=>if kv.1=k then (kv.1,y) else kv) j=(bu kvs j).map λ x=>if j=k then y else x
 | []=>rfl
 | p::r=>by
  have ih:=valV_map k j y r;rw [iM];by_cases h:p.1=k
  ·rw [if_pos h];by_cases e:p.1=j
   ·rw [bB (p:=(p.1,y)) e,bB e,iD,if_pos (e.symm.trans h)]
   ·rw [bC (p:=(p.1,y)) e,bC e,ih]
  ·rw [if_neg h];by_cases e:p.1=j
   ·rw [bB (p:=p) e,bB e,iD,if_neg (λ z=>h (e.trans z))]
   ·rw [bC (p:=p) e,bC e,ih]
theorem valV_snoc (k j:κ) (y:V):∀ kvs:List (κ × V),bu kvs k=none->bu (kvs++[(k,y)]) j=if j=k then some y else bu kvs j
 | [],_=>by
  by_cases e:k=j
  ·rw [if_pos e.symm];exact bB (p:=(k,y)) e
  ·rw [if_neg (λ z=>e z.symm)];exact bC (p:=(k,y)) e
 | p::r,hn=>by
  rw [List.cons_append];have hk:¬ p.1=k:=λ z=>by rw [bB z] at hn;cases hn
  rw [bC hk] at hn;have ih:=valV_snoc k j y r hn;by_cases e:p.1=j
  ·rw [bB e,bB e,if_neg (λ z=>hk (e.trans z))]
  ·rw [bC e,bC e,ih]
theorem valV_put (kvs:List (κ × V)) (k j:κ) (y:V):bu (bj kvs k y) j=if j=k then some y else bu kvs j:=by
 unfold bj;by_cases a:(kvs.any λ kv=>decide (kv.1=k))=true
 ·rw [if_pos a,valV_map];rw [ck] at a;by_cases e:j=k
  ·obtain ⟨x,hx⟩:=Option.isSome_iff_exists.mp a;rw [if_pos e,e,hx,iD,if_pos rfl]
  ·rw [if_neg e]
   cases bu kvs j with
   | none=>rfl
   | some x=>rw [iD,if_neg e]
 ·rw [if_neg a];refine valV_snoc k j y kvs ?_;rw [ck] at a
  cases q:bu kvs k with
  | none=>rfl
  | some x=>rw [q] at a;exact (a rfl).elim
theorem eV (kvs:List (κ × V)) (k:κ) (v:V):(bj kvs k v).length<=kvs.length+1:=by
 unfold bj
 split
 ·rw [gG];omega
 ·rw [hE,ia,List.length_nil];omega
theorem gi {kvs:List (κ × V)} {k:κ} (v:V) (h:bu kvs k=none):bj kvs k v=kvs++[(k,v)]:=by
 unfold bj;rw [ck,h];exact if_neg (by decide)
theorem RelO.isSome_eq {o:Option V} {u:Option Value} (r:RelO o u):o.isSome=u.isSome:=by
 cases o with
 | none=>cases u with
  | none=>rfl
  | some _=>exact (show False from r).elim
 | some _=>cases u with
  | none=>exact (show False from r).elim
  | some _=>rfl
theorem RelO.getD {o:Option V} {u:Option Value} {d:V} {d':Value} (r:RelO o u) (rd:RelV d d'):RelV (o.getD d) (u.getD d'):=by
 cases o with
 | none=>cases u with
  | none=>exact rd
  | some _=>exact (show False from r).elim
 | some _=>cases u with
  | none=>exact (show False from r).elim
  | some _=>exact r
theorem KV.val {kvs:List (κ × V)} {vs:List (κ × Value)} (r:KV kvs vs) (k:κ):RelO (bu kvs k) (valueAt vs k):=by
 unfold KV at r
 induction r with
 | nil=>exact True.intro
 | @cons p q ps qs h t ih=>
  obtain ⟨h1,h2⟩:=h;by_cases e:p.1=k
  ·have e':q.1=k:=h1.symm.trans e;have b:valueAt (q::qs) k=some q.2:=by simp [valueAt,List.find?_cons,e']
   rw [bB e,b];exact h2
  ·have e':¬ q.1=k:=λ z=>e (h1.trans z);have b:valueAt (q::qs) k=valueAt qs k:=by simp [valueAt,List.find?_cons,e']
   rw [bC e,b];exact ih
theorem KV.any {kvs:List (κ × V)} {vs:List (κ × Value)} (r:KV kvs vs) (k:κ):(kvs.any λ kv=>decide (kv.1=k))=vs.any λ kv=>decide (kv.1=k):=by
 unfold KV at r
 induction r with
 | nil=>rfl
 | cons h t ih=>rw [List.any_cons,List.any_cons,ih,h.1]
theorem KV.repl {kvs:List (κ × V)} {vs:List (κ × Value)} (r:KV kvs vs) (k:κ) {y:V} {u:Value} (ry:RelV y u) :
  KV (kvs.map λ kv=>if kv.1=k then (kv.1,y) else kv) (vs.map λ kv=>if kv.1=k then (kv.1,u) else kv):=by
 unfold KV at r ⊢
 induction r with
 | nil=>exact .nil
 | @cons p q ps qs h t ih=>
  rw [iM,iM];refine .cons ?_ ih;obtain ⟨h1,h2⟩:=h;by_cases e:p.1=k
  ·rw [if_pos e,if_pos (h1.symm.trans e)];exact ⟨h1,ry⟩
  ·rw [if_neg e,if_neg (λ z=>e (h1.trans z))];exact ⟨h1,h2⟩
theorem KV.put {kvs:List (κ × V)} {vs:List (κ × Value)} (r:KV kvs vs) (k:κ) {y:V} {u:Value} (ry:RelV y u):KV (bj kvs k y) (stored vs k u):=by
 unfold bj stored;rw [r.any k];by_cases e:(vs.any λ kv=>decide (kv.1=k))=true
 ·rw [if_pos e,if_pos e];exact r.repl k ry
 ·rw [if_neg e,if_neg e];exact Paired.snoc r ⟨rfl,ry⟩
theorem KV.length {kvs:List (κ × V)} {vs:List (κ × Value)} (r:KV kvs vs):kvs.length=vs.length:=Paired.length r
end
theorem kV_is {P:Program} {w:World} {k:Key} {u:Value} (r:RelV (kV k) u):(aV P w).is k u=true:=by
 cases k with
 | inl i=>obtain ⟨t,e⟩:=(show ∃ t,u=Value.int i t from r);subst e;exact mixKind_int P w i t
 | inr x=>obtain ⟨t,e⟩:=(show ∃ t,u=Value.str x t from r);subst e;exact mixKind_str P w x t
theorem kV_inj {a b:Key} (e:kV a=kV b):a=b:=by
 cases a with
 | inl i=>cases b with
  | inl j=>have e':V.int i=V.int j:=e;injection e' with e';rw [e']
  | inr y=>exact nomatch (show V.int i=V.str y from e)
 | inr x=>cases b with
  | inl j=>exact nomatch (show V.str x=V.int j from e)
  | inr y=>have e':V.str x=V.str y:=e;injection e' with e';rw [e']
theorem items_are {P:Program} {w:World}:∀ {ks:List Key} {us:List Value},Vals (ks.map kV) us->ItemsAre (aV P w) ks us
 | [],_,r=>by rw [List.map_nil] at r;cases r;exact .nil
 | k::ks,_,r=>by
  rw [iM] at r
  cases r with
  | cons h t=>exact .cons (kV_is h) (items_are t)
noncomputable abbrev KT (H:Hp):List (List Key × V)->List (List Key × Addr × Value)->Prop:=Paired λ p q=>p.1=q.1/\H q.2.1=some (.tup (p.1.map kV))/\RelV p.2 q.2.2
theorem KT.val {H:Hp} {kvs:List (List Key × V)} {xs:List (List Key × Addr × Value)} (r:KT H kvs xs) (k:List Key):RelO (bu kvs k) ((atKey xs k).map (·.2)):=by
 induction r with
 | nil=>exact True.intro
 | @cons p q ps qs h t ih=>
  obtain ⟨h1,_,h2⟩:=h;by_cases e:p.1=k
  ·have e':q.1=k:=h1.symm.trans e;have b:atKey (q::qs) k=some q.2:=by simp [atKey,List.find?_cons,e']
   rw [bB e,b];exact h2
  ·have e':¬ q.1=k:=λ z=>e (h1.trans z);have b:atKey (q::qs) k=atKey qs k:=by simp [atKey,List.find?_cons,e']
   rw [bC e,b];exact ih
theorem KT.repl {H:Hp} {kvs:List (List Key × V)} {xs:List (List Key × Addr × Value)} (r:KT H kvs xs) (k:List Key) {y:V} {u:Value} (ry:RelV y u) :
  KT H (kvs.map λ kv=>if kv.1=k then (kv.1,y) else kv) (xs.map (putAt k u)):=by
 induction r with
 | nil=>exact .nil
 | @cons p q ps qs h t ih=>
  rw [iM,iM];refine .cons ?_ ih;obtain ⟨h1,h2,h3⟩:=h;unfold putAt;by_cases e:p.1=k
  ·rw [if_pos e,if_pos (h1.symm.trans e)];exact ⟨h1,h2,ry⟩
  ·rw [if_neg e,if_neg (λ z=>e (h1.trans z))];exact ⟨h1,h2,h3⟩
theorem KT.put {H:Hp} {kvs:List (List Key × V)} {xs:List (List Key × Addr × Value)} (r:KT H kvs xs) (k:List Key) {b:Addr} {y:V} {u:Value} (hb:H b=some (.tup (k.map kV))) (ry:RelV y u) :
  KT H (bj kvs k y) (storedH xs k b u):=by
 have e:(kvs.any λ kv=>decide (kv.1=k))=(atKey xs k).isSome:=by
  rw [ck,(r.val k).isSome_eq,Option.isSome_map]
 unfold bj storedH;rw [e];by_cases q:(atKey xs k).isSome=true
 ·rw [if_pos q,if_pos q];exact r.repl k ry
 ·rw [if_neg q,if_neg q];exact Paired.snoc r ⟨rfl,hb,ry⟩
theorem KT.keeps {H H':Hp} {kvs:List (List Key × V)} {xs:List (List Key × Addr × Value)} (r:KT H kvs xs) (ht:∀ b ys,H b=some (.tup ys)->H' b=some (.tup ys)):KT H' kvs xs:=
 Paired.mapP r λ _ _ z=>⟨z.1,ht _ _ z.2.1,z.2.2⟩
section
variable {P:Program} {w:World} {H:Hp} {h:Heap} {a:Addr}
theorem rd_of {u:HO} (ok:HOk P w H h) (e:Rd H a u):ObjOk P w H h a u:=e.ok ok
theorem eD {kvs:List (Key × V)} (ok:HOk P w H h) (e:Rd H a (.dK kvs)):kvs.length<=sizeLine/\(a == sysModules)=false/\∃ vs,KV kvs vs/\h.DictOf (aV P w) a vs:=
 show ObjOk P w H h a (.dK kvs) from rd_of ok e
theorem dk_of {kvs:List (Key × V)} (ok:HOk P w H h) (e:H a=some (.dK kvs)):kvs.length<=sizeLine/\(a == sysModules)=false/\∃ vs,KV kvs vs/\h.DictOf (aV P w) a vs:=eD ok (.inl e)
theorem key_of {ks:List Key} (ok:HOk P w H h) (e:H a=some (.tup (ks.map kV))):(tupleKind (aV P w)).is h ks a:=by
 obtain ⟨_,its,r,o,h1,h2,n,h3⟩:=(show ObjOk P w H h a (.tup (ks.map kV)) from ok a _ e);exact ⟨o,its.toArray,n,h1,h2,h3,by simpa using items_are r⟩
theorem dt_rd {kvs:List (List Key × V)} (ok:HOk P w H h) (e:Rd H a (.dT kvs)):kvs.length<=sizeLine/\(a == sysModules)=false/\
  ∃ xs,KT H kvs xs/\h.DictOfH (tupleKind (aV P w)) a xs:=by
 obtain ⟨z,y,xs,r,o,es,ep,h1,h2,h3,h4,h5⟩:=(show ObjOk P w H h a (.dT kvs) from rd_of ok e);refine ⟨z,y,xs,r,o,es,ep,h1,h2,h3,h4,λ x hx=>?_,h5⟩
 have all:∀ {l:List (List Key × V)} {m:List (List Key × Addr × Value)},KT H l m->∀ x∈m,(tupleKind (aV P w)).is h x.1 x.2.1:=by
  intro l m q
  induction q with
  | nil=>intro x hx;exact nomatch hx
  | @cons p q ps qs hq t ih=>
   intro x hx;rcases hV.mp hx with e | hx
   ·subst e;exact key_of ok (by rw [<- hq.1];exact hq.2.1)
   ·exact ih x hx
 exact all r x hx
theorem dt_of {kvs:List (List Key × V)} (ok:HOk P w H h) (e:H a=some (.dT kvs)):kvs.length<=sizeLine/\(a == sysModules)=false/\
  ∃ xs,KT H kvs xs/\h.DictOfH (tupleKind (aV P w)) a xs:=dt_rd ok (.inl e)
end
noncomputable def DGet (H:Hp) (a:Addr) (y:V) (r:Option V):Prop:=
 (∃ kvs k,Rd H a (.dK kvs)/\y=kV k/\r=bu kvs k)∨∃ kvs k b,Rd H a (.dT kvs)/\y=.ref b/\H b=some (.tup (k.map kV))/\r=bu kvs k
noncomputable def DPut (H:Hp) (a:Addr) (y v:V) (H':Hp):Prop:=
 (∃ kvs k,H a=some (.dK kvs)/\y=kV k/\kvs.length<sizeLine/\H'=upd H a (.dK (bj kvs k v)))∨
 ∃ kvs k b,H a=some (.dT kvs)/\y=.ref b/\H b=some (.tup (k.map kV))/\kvs.length<sizeLine/\H'=upd H a (.dT (bj kvs k v))
theorem DGet.k {H:Hp} {a:Addr} {kvs:List (Key × V)} {k:Key} (e:H a=some (.dK kvs)):DGet H a (kV k) (bu kvs k):=.inl ⟨kvs,k,.inl e,rfl,rfl⟩
theorem DPut.k {H:Hp} {a:Addr} {kvs:List (Key × V)} {k:Key} {v:V} (e:H a=some (.dK kvs)) (hl:kvs.length<sizeLine):DPut H a (kV k) v (upd H a (.dK (bj kvs k v))):=.inl ⟨kvs,k,e,rfl,hl,rfl⟩
section
variable {X:Cx} {pins:List (Addr × Obj)} {σ:St} {H:Hp} {s:Shared} {a:Addr} {y v:V} {u r:Value} {o:Option V} {A:Around} {E:Value->Shared->Prop}
theorem Inv.big (I:Inv X pins σ H s):sysModules<s.heap.objs.size:=by
 have h:mainGlobals<s.heap.objs.size:=(I.mod.glob.keeps I.bk).lt;exact Nat.lt_trans (by decide) h
theorem d_getItem {Q:Value->Shared->Prop} (hu:A.units+1<cLine) (I:Inv X pins σ H s) (g:DGet H a y (some v)) (ry:RelV y u) (h:∀ w' s',Inv X pins σ H s'->RelV v w'->Q w' s') :
  wpAny (model X.prog X.w) A (getItem (.ref a) u) Q E s:=by
 rcases g with ⟨kvs,k,e,ey,l⟩ | ⟨kvs,k,b,e,ey,eb,l⟩
 ·subst ey;obtain ⟨z,hd,vs,rel,dd⟩:=eD I.hok e;obtain ⟨w',hw,rw'⟩:=RelO.some_of (v:=v) (o:=valueAt vs k) (by rw [l];exact rel.val k);exact wpAny_getItem_of (kV_is ry) dd.mapOf hw (h w' _ (I.tok _) rw')
 ·subst ey
  cases (show u=Value.ref b from ry);obtain ⟨z,hd,xs,rel,dd⟩:=dt_rd I.hok e;obtain ⟨w',hw,rw'⟩:=RelO.some_of (v:=v) (o:=(atKey xs k).map (·.2)) (by rw [l];exact rel.val k);obtain ⟨p,hp,hp2⟩:=Option.map_eq_some_iff.mp hw;refine wpAny_getItem_heap (tupleKind_room_in1 hu) (key_of I.hok eb) dd hp ?_;rw [hp2];exact h w' _ (I.tok _) rw'
theorem d_in {Q:Value->Shared->Prop} (hu:A.units+1<cLine) (I:Inv X pins σ H s) (g:DGet H a y o) (ry:RelV y u) (h:∀ s',Inv X pins σ H s'->Q (.bool o.isSome) s') :
  wpAny (model X.prog X.w) A (compareOp .In u (.ref a)) Q E s:=by
 rcases g with ⟨kvs,k,e,ey,l⟩ | ⟨kvs,k,b,e,ey,eb,l⟩
 ·subst ey;obtain ⟨z,hd,vs,rel,dd⟩:=eD I.hok e;refine wpAny_in_of (kV_is ry) hd dd.mapOf ?_;rw [<- (rel.val k).isSome_eq,<- l];exact h _ (I.tok _)
 ·subst ey
  cases (show u=Value.ref b from ry);obtain ⟨z,hd,xs,rel,dd⟩:=dt_rd I.hok e;refine wpAny_in_heap (tupleKind_room_in1 hu) (key_of I.hok eb) hd dd ?_;have q:=(rel.val k).isSome_eq;rw [Option.isSome_map] at q;rw [<- q,<- l];exact h _ (I.tok _)
theorem d_notIn {Q:Value->Shared->Prop} (hu:A.units+1<cLine) (I:Inv X pins σ H s) (g:DGet H a y o) (ry:RelV y u) (h:∀ s',Inv X pins σ H s'->Q (.bool (!o.isSome)) s') :
  wpAny (model X.prog X.w) A (compareOp .NotIn u (.ref a)) Q E s:=by
 rcases g with ⟨kvs,k,e,ey,l⟩ | ⟨kvs,k,b,e,ey,eb,l⟩
 ·subst ey;obtain ⟨z,hd,vs,rel,dd⟩:=eD I.hok e;refine wpAny_notIn_of (kV_is ry) hd dd.mapOf ?_;rw [<- (rel.val k).isSome_eq,<- l];exact h _ (I.tok _)
 ·subst ey
  cases (show u=Value.ref b from ry);obtain ⟨z,hd,xs,rel,dd⟩:=dt_rd I.hok e;refine wpAny_notIn_heap (tupleKind_room_in1 hu) (key_of I.hok eb) hd dd ?_;have q:=(rel.val k).isSome_eq;rw [Option.isSome_map] at q;rw [<- q,<- l];exact h _ (I.tok _)
theorem d_write {h':Heap} {t':Nat} {ob:HO} (I:Inv X pins σ H s) (mu:Mut (H a)) (hs:Heap.SameBut a s.heap h') (he:∃ q,h'.get? a=some q) (new:ObjOk X.prog X.w (upd H a ob) h' a ob) :
  Inv X pins σ (upd H a ob) { s with heap:=h',toks:=t' }:=
 I.write (x:=a) (e:=a) mu (.inl rfl) (λ b q hb z=>(hs.2 b hb).trans z) he new
theorem dk_new {P:Program} {w:World} {H':Hp} {h':Heap} {kvs:List (Key × V)} {vs:List (Key × Value)} (z:kvs.length<=sizeLine) (hd:(a == sysModules)=false) (rel:KV kvs vs) (dd:h'.DictOf (aV P w) a vs) :
  ObjOk P w H' h' a (.dK kvs):=⟨z,hd,vs,rel,dd⟩
theorem d_setItem {H':Hp} {Q:Unit->Shared->Prop} (hu:A.units+1<cLine) (I:Inv X pins σ H s) (g:DPut H a y v H') (ry:RelV y u) (rv:RelV v r) (h:∀ s',Inv X pins σ H' s'->Q () s') :
  wpAny (model X.prog X.w) A (setItem (.ref a) u r) Q E s:=by
 rcases g with ⟨kvs,k,e,ey,l,eH⟩ | ⟨kvs,k,b,e,ey,eb,l,eH⟩
 ·subst ey eH;obtain ⟨z,hd,vs,rel,dd⟩:=dk_of I.hok e;have hz:vs.length<=sizeLine:=by rw [<- rel.length];exact z
  have hl:(bj kvs k v).length<=sizeLine:=by have:=eV kvs k v;omega
  refine wpAny_setItem_pairs (hsz:=hz) (kV_is ry) dd λ h' dd' hs=>h _ ?_;have he:∃ q,h'.get? a=some q:=let ⟨q,_,_,hq,_⟩:=dd';⟨q,hq⟩
  exact d_write I (by rw [e];exact True.intro) hs he (dk_new hl hd (rel.put k rv) dd')
 ·subst ey eH
  cases (show u=Value.ref b from ry);obtain ⟨z,hd,xs,rel,dd⟩:=dt_of I.hok e;have hz:xs.length<=sizeLine:=by rw [<- Paired.length rel];exact z
  have hl:(bj kvs k v).length<=sizeLine:=by have:=eV kvs k v;omega
  refine wpAny_setItem_heap (hsz:=hz) (tupleKind_room_in1 hu) (key_of I.hok eb) dd λ h' dd' hs=>h _ ?_;obtain ⟨q,es,ep,hq,h2,h3,h4,_,h5⟩:=dd';refine d_write I (by rw [e];exact True.intro) hs ⟨q,hq⟩ ⟨hl,hd,_,(rel.put k eb rv).keeps λ c ys ec=>?_,q,es,ep,hq,h2,h3,h4,h5⟩;rw [af (aF ec e (λ z=>nomatch z))];exact ec
end
section
variable {X:Cx} {pins:List (Addr × Obj)} {σ:St} {H:Hp} {s:Shared} {a:Addr} {kvs:List (Key × V)} {k:Key} {u:Value} {A:Around} {E:Value->Shared->Prop}
theorem d_len {Q:Value->Shared->Prop} (I:Inv X pins σ H s) (e:Rd H a (.dK kvs)) (h:∀ t s',Inv X pins σ H s'->Q (.int kvs.length t) s'):wpAny (model X.prog X.w) A (call (.builtin "len") [.ref a]) Q E s:=by
 obtain ⟨z,hd,vs,rel,dd⟩:=eD I.hok e;refine call_len_dict hd dd (by rw [<- rel.length];rw [sizeLine_eq] at z;omega) ?_;rw [<- rel.length];exact h _ _ (I.tok _)
end
noncomputable def NoSl (i:Expr):Prop:=∀ ov iv,subscripted i false ov iv=operate [ov,iv] (getItem ov iv)
theorem subD_of {prog:Program} {w:World} {A:Around} {E:Value->Shared->Prop} {s:Shared} {env:Env} {value slice:Expr} {pos:Pos} {T id:String} {Q:Value->Shared->Prop}
  (hl:typeLookup (.type T) "__getitem__"=pure (some (.builtin id))) (hs:NoSl slice)
  (h:wpAny (model prog w) A (eval value env) (λ o s₁=>wpAny (model prog w) A (eval slice env) (λ i s₂=>s₂.TypeIs o T/\wpAny (model prog w) A (getItem o i) Q E s₂) E s₁) E s) :
  wpAny (model prog w) A (eval (.Subscript value slice pos) env) Q E s:=by
 refine Subscript_ (i9 h (λ o s₁ h₁=>i9 h₁ (λ i s₂ h₂=>?_) λ _ _ x=>x) λ _ _ x=>x);obtain ⟨hT,h₂⟩:=h₂;unfold subscriptTail;refine ip ?_;rw [getitemInPython_of_ne hT.not_modules];refine ip (wpAny_specialOf hT hl ?_)
 have fin:wpAny (model prog w) A (subscripted slice false o i) (λ r s₃=>wpAny (model prog w) A (letTemporaryGo value o r >>= λ _=>pure r) Q E s₃) E s₂:=by
  rw [hs o i];exact wpAny_operating (i9 h₂ (λ r s₃ h₃=>ip (wpAny_letTemporaryGo (iE h₃))) λ _ _ x=>x)
 first
  | exact iE (ip fin)
  | exact ip (iE (ip fin))
  | exact ip fin
theorem dict_typeIs {X:Cx} {pins:List (Addr × Obj)} {σ:St} {H:Hp} {s:Shared} {a:Addr} {y:V} {o:Option V} (I:Inv X pins σ H s) (g:DGet H a y o):s.TypeIs (.ref a) "dict":=by
 rcases g with ⟨kvs,k,e,_,_⟩ | ⟨kvs,k,b,e,_,_,_⟩
 ·obtain ⟨_,_,vs,_,dd⟩:=eD I.hok e;exact dd.typeIs
 ·obtain ⟨_,_,xs,_,dd⟩:=dt_rd I.hok e;exact dd.typeIs
inductive ItDGet (Q:VK) (x:V) (y:V) (H2:Hp):Prop
 | mk (a:_) (v:_) (h1:x=.ref a) (h2:DGet H2 a y (some v)) (h3:Q v H2):ItDGet Q x y H2
noncomputable def tDGet (td ty:TE):TE:=λ σ H Q=>td σ H λ x H1=>ty σ H1 λ y H2=>ItDGet Q x y H2
noncomputable def tDIn (ty td:TE):TE:=λ σ H Q=>ty σ H λ y H1=>td σ H1 λ x H2=>∃ a o,x=.ref a/\DGet H2 a y o/\Q (.bl o.isSome) H2
noncomputable def tDNotIn (ty td:TE):TE:=λ σ H Q=>ty σ H λ y H1=>td σ H1 λ x H2=>∃ a o,x=.ref a/\DGet H2 a y o/\Q (.bl (!o.isSome)) H2
noncomputable def sDPut (td ty tv:TE):TS:=λ D σ H=>tv σ H λ v H1=>td σ H1 λ x H2=>ty σ H2 λ y H3=>∃ a H4,x=.ref a/\DPut H3 a y v H4/\D.nx σ H4
section
variable {X:Cx} {o i e value:Expr} {pos pos' tpos:Pos} {td ty tv:TE}
theorem aU (hu:X.A.units+1<cLine) (ho:PE X o td) (hi:PE X i ty) (hs:NoSl i):PE X (.Subscript o i pos) (tDGet td ty):=by
 intro pins s σ H Q I h;refine subD_of PySem.F.slot_dict_getitem.lookup hs (thn (ho pins s σ H _ I h) λ u s1 ⟨x,H1,I1,rx,q1⟩=>thn (hi pins s1 σ H1 _ I1 q1) λ iv s2 ⟨y,H2,I2,ry,a,v,ex,g,q2⟩=>?_);subst ex;obtain rfl:u=Value.ref a:=rx;exact ⟨dict_typeIs I2 g,d_getItem hu I2 g ry λ w' s3 I3 rw'=>⟨v,H2,I3,rw',q2⟩⟩
theorem pc_din (hu:X.A.units+1<cLine) (hi:PE X i ty) (ho:PE X o td):PC X .In i o (tDIn ty td):=by
 intro pins s σ H Q I h;refine thn (hi pins s σ H _ I h) λ iv s1 ⟨y,H1,I1,ry,q1⟩=>thn (ho pins s1 σ H1 _ I1 q1) λ u s2 ⟨x,H2,I2,rx,a,ov,ex,g,q2⟩=>?_;subst ex;obtain rfl:u=Value.ref a:=rx;exact d_in hu I2 g ry λ s3 I3=>⟨.bl ov.isSome,H2,I3,rfl,q2⟩
theorem dI (hu:X.A.units+1<cLine) (hi:PE X i ty) (ho:PE X o td):PC X .NotIn i o (tDNotIn ty td):=by
 intro pins s σ H Q I h;refine thn (hi pins s σ H _ I h) λ iv s1 ⟨y,H1,I1,ry,q1⟩=>thn (ho pins s1 σ H1 _ I1 q1) λ u s2 ⟨x,H2,I2,rx,a,ov,ex,g,q2⟩=>?_;subst ex;obtain rfl:u=Value.ref a:=rx;exact d_notIn hu I2 g ry λ s3 I3=>⟨.bl (!ov.isSome),H2,I3,rfl,q2⟩
theorem bo (hu:X.A.units+1<cLine) (ho:PE X o td) (hi:PE X i ty) (hv:PE X value tv) (hs:swapsWith value (some (.Subscript o i pos')) pos.line X.env=pure false) :
  PS X (.Assign [.Subscript o i pos'] value pos) (sDPut td ty tv):=by
 intro pins s σ H D I h;refine wpAny_Assign_Subscript (thn (hv pins s σ H _ I h) λ r s1 ⟨v,H1,I1,rv,q1⟩=>thn (ho pins s1 σ H1 _ I1 q1) λ u s2 ⟨x,H2,I2,rx,q2⟩=>thn (hi pins s2 σ H2 _ I2 q2) λ iv s3 ⟨y,H3,I3,ry,a,H4,ex,g,q3⟩=>?_) hs;subst ex;obtain rfl:u=Value.ref a:=rx;exact d_setItem hu I3 g ry rv λ s4 I4=>⟨σ,H4,I4,q3⟩
end
theorem dk_empty {P:Program} {w:World} {H:Hp} (h:Heap) (hb:sysModules<h.objs.size):ObjOk P w H (h.push { cls:=.type "dict",data:=.dict #[] }) h.objs.size (.dK []):=
 ⟨gR _,iV.mpr (Ne.symm (iw hb)),[],.nil,Heap.DictOf.new h⟩
noncomputable def tDNewK:TE:=λ _ H Q=>∀ p,H p=none->Q (.ref p) (upd H p (.dK []))
section
variable {X:Cx} {pos:Pos}
theorem bf:PE X (.Dict [] [] pos) tDNewK:=λ pins s σ H Q I h=>
 wpAny_Dict_empty ⟨.ref s.heap.objs.size,_,I.laid (a:=s.heap.objs.size) (o:=.dK []) (t':=s.toks) (λ _ _ q=>gO _ q) (gJ _) (dk_empty s.heap I.big),rfl,h _ (I.hok.fresh (gJ _))⟩
end
noncomputable def tPairs:List (TE × TE)->St->Hp->(List (V × V)->Hp->Prop)->Prop
 | [],_,H,Q=>Q [] H
 | (tk,tv)::r,σ,H,Q=>tk σ H λ x H1=>tv σ H1 λ y H2=>tPairs r σ H2 λ ps H3=>Q ((x,y)::ps) H3
noncomputable abbrev VV:List (V × V)->List (Value × Value)->Prop:=Paired λ p q=>RelV p.1 q.1/\RelV p.2 q.2
noncomputable def mergeK (kvs more:List (Key × V)):List (Key × V):=more.foldl (λ acc kv=>bj acc kv.1 kv.2) kvs
structure M1 (X:Cx) (o:Expr) (m:Str) (apos:Pos) (e:Expr) (cpos:Pos):Prop where
 base:attributeBase o m X.env (eval o X.env)=eval o X.env
 few:((backTo cpos (starEach [e] X.env)).all (λ x=>!x.1) && (backToKw cpos (keywordEach [] X.env)).all (λ x=>x.1.isSome)
  && decide (([e]:List Expr).length+([]:List Keyword).length+(if ([]:List Keyword).isEmpty then 0 else 1)<30))=true
 line:(apos.endLine == cpos.line)=true
 trees:backTo cpos (starEach [e] X.env)=[(false,eval e X.env)]
structure M2 (X:Cx) (o:Expr) (m:Str) (apos:Pos) (e f:Expr) (cpos:Pos):Prop where
 base:attributeBase o m X.env (eval o X.env)=eval o X.env
 few:((backTo cpos (starEach [e,f] X.env)).all (λ x=>!x.1) && (backToKw cpos (keywordEach [] X.env)).all (λ x=>x.1.isSome)
  && decide (([e,f]:List Expr).length+([]:List Keyword).length+(if ([]:List Keyword).isEmpty then 0 else 1)<30))=true
 line:(apos.endLine == cpos.line)=true
 trees:backTo cpos (starEach [e,f] X.env)=[(false,eval e X.env),(false,eval f X.env)]
noncomputable def IsD (H:Hp) (a:Addr):Prop:=(∃ kvs,Rd H a (.dK kvs))∨∃ kvs,Rd H a (.dT kvs)
theorem isD_at {X:Cx} {pins:List (Addr × Obj)} {σ:St} {H:Hp} {s:Shared} {a:Addr} (I:Inv X pins σ H s) (d:IsD H a) :
  s.TypeIs (.ref a) "dict"/\(∀ b,Value.ref a=.ref b->∃ ob,s.heap.get? b=some ob/\ob.dict=none)/\(a == sysModules)=false:=by
 rcases d with ⟨kvs,e⟩ | ⟨kvs,e⟩
 ·obtain ⟨_,hd,vs,_,dd⟩:=eD I.hok e;refine ⟨dd.typeIs,λ b q=>?_,hd⟩
  cases q;obtain ⟨ob,_,_,h1,h2,_⟩:=dd;exact ⟨ob,h1,h2.2.1⟩
 ·obtain ⟨_,hd,xs,_,dd⟩:=dt_rd I.hok e;refine ⟨dd.typeIs,λ b q=>?_,hd⟩
  cases q;obtain ⟨ob,_,_,h1,h2,_⟩:=dd;exact ⟨ob,h1,h2.2.1⟩
section
variable {X:Cx} {pins:List (Addr × Obj)} {σ:St} {H:Hp} {s:Shared} {a:Addr} {y d:V} {u r:Value} {o:Option V} {A:Around} {E:Value->Shared->Prop}
theorem d_get2 {Q:Value->Shared->Prop} (hu:A.units+1<cLine) (I:Inv X pins σ H s) (g:DGet H a y o) (ry:RelV y u) (rd:RelV d r) (h:∀ w' s',Inv X pins σ H s'->RelV (o.getD d) w'->Q w' s') :
  wpAny (model X.prog X.w) A (call (.builtin "dict.get") [.ref a,u,r]) Q E s:=by
 rcases g with ⟨kvs,k,e,ey,l⟩ | ⟨kvs,k,b,e,ey,eb,l⟩
 ·subst ey;obtain ⟨z,hd,vs,rel,dd⟩:=eD I.hok e;refine call_meetsIn PySem.F.slot_dict_get dd.typeIs PySem.F.entry_dict_get (PySem.F.args_dict_get_3 _ _ _) (meets_dict_get_default (aV X.prog X.w) a (kV_is ry) hd r) ⟨_,dd.mapOf,h _ _ (I.tok _) ?_⟩;rw [l];exact (rel.val k).getD rd
 ·subst ey
  cases (show u=Value.ref b from ry);obtain ⟨z,hd,xs,rel,dd⟩:=dt_rd I.hok e;refine call_meetsIn PySem.F.slot_dict_get dd.typeIs PySem.F.entry_dict_get (PySem.F.args_dict_get_3 _ _ _) (meetsH_dict_get_default (tupleKind (aV X.prog X.w)) a b hd r) ⟨tupleKind_room_in1 hu,k,xs,key_of I.hok eb,dd,h _ _ (I.tok _) ?_⟩;rw [l];exact (rel.val k).getD rd
end
noncomputable def tDGet2 (td ty tx:TE):TE:=λ σ H Q=>td σ H λ x H1=>∃ a,x=.ref a/\IsD H1 a/\ty σ H1 λ y H2=>tx σ H2 λ z H3=>∃ o,DGet H3 a y o/\Q (o.getD z) H3
section
variable {X:Cx} {o e f:Expr} {apos cpos:Pos} {td ty tx:TE}
theorem cQ (hu:X.A.units+1<cLine) (ho:PE X o td) (he:PE X e ty) (hf:PE X f tx) (m:M2 X o "get" apos e f cpos):PE X (.Call (.Attribute o "get" apos) [e,f] [] cpos) (tDGet2 td ty tx):=by
 intro pins s σ H Q I h;refine wpAny_Call_method m.base m.few m.line PySem.F.plainAttrs_dict PySem.F.slot_dict_get PySem.F.type_dict_get (thn (ho pins s σ H _ I h) λ u s1 ⟨x,H1,I1,rx,a,ex,d,q1⟩=>?_);subst ex;obtain rfl:u=Value.ref a:=rx;obtain ⟨t1,t2,_⟩:=isD_at I1 d;refine ⟨t1,t2,?_⟩;rw [m.trees]
 refine Calls.callWith_builtin rfl (Calls.evalArgs_plain (Calls.spliced_cons (thn (he pins s1 σ H1 _ I1 q1) λ iv s2 ⟨y,H2,I2,ry,q2⟩=>
  Calls.spliced_cons (thn (hf pins s2 σ H2 _ I2 q2) λ fv s3 ⟨z,H3,I3,rz,ov,g,q3⟩=>Calls.spliced_nil ?_))))
 exact d_get2 hu I3 g ry rz λ w' s4 I4 rw'=>⟨_,H3,I4,rw',q3⟩
end
section
variable {X:Cx} {pins:List (Addr × Obj)} {σ:St} {H:Hp} {s:Shared} {a:Addr} {kvs:List (Key × V)} {A:Around} {E:Value->Shared->Prop}
theorem d_copyOf {Q:Value->Shared->Prop} (I:Inv X pins σ H s) (e:Rd H a (.dK kvs)) (h:∀ p s',H p=none->Inv X pins σ (upd H p (.dK kvs)) s'->Q (.ref p) s'):wpAny (model X.prog X.w) A (call (.type "dict") [.ref a]) Q E s:=by
 obtain ⟨z,hd,vs,rel,dd⟩:=eD I.hok e;refine kt_call_dict hd dd (by rw [<- rel.length];exact z) λ h' dd' hs=>?_;refine h _ _ (I.hok.fresh (gJ _)) (I.laid (a:=s.heap.objs.size) (o:=.dK kvs) (t':=s.toks) (λ b q hq=>?_) (gJ _) (dk_new z (iV.mpr (Ne.symm (iw I.big))) rel dd'));exact (hs.2 b (iw (hJ hq))).trans (gO _ hq)
end
section
variable {X:Cx} {pins:List (Addr × Obj)} {σ:St} {H:Hp} {s:Shared} {a:Addr} {y:V} {u:Value} {A:Around} {E:Value->Shared->Prop}
end
end L2
namespace L2
open PySem PySem.Spec PyProof.Rows
section
variable {X:Cx}
theorem call_lenD:dj X (.builtin "len") (λ xs H Q=>∃ a kvs,xs=[V.ref a]/\H a=some (.dK kvs)/\Q (.int kvs.length) H):=by
 intro pins s σ H xs us Q I r h;obtain ⟨a,kvs,rfl,ha,q⟩:=h;obtain ⟨u,rfl,ru⟩:=fu r
 cases ru;exact d_len I (.inl ha) λ t s' I'=>⟨.int kvs.length,H,I',⟨t,rfl⟩,q⟩
end
end L2
namespace L2
open PySem PySem.Spec PyProof.Rows
section
variable {κ:Type} [DecidableEq κ]
theorem valV_not {kvs:List (κ × V)} {k:κ} (h:bu kvs k=none):¬ k∈kvs.map (·.1):=by
 intro m;obtain ⟨p,hp,e⟩:=gL.mp m;have q:(kvs.any λ kv=>decide (kv.1=k))=true:=List.any_eq_true.mpr ⟨p,hp,hU e⟩;rw [ck,h] at q;exact absurd q (by simp)
theorem valV_in {kvs:List (κ × V)} {k:κ} {v:V} (h:bu kvs k=some v):k∈kvs.map (·.1):=by
 have q:(kvs.any λ kv=>decide (kv.1=k))=true:=by
  rw [ck,h]
  all_goals rfl
 obtain ⟨p,hp,e⟩:=List.any_eq_true.mp q;exact gL.mpr ⟨p,hp,i5 e⟩
theorem dropK_pos {p:κ × V} {r:List (κ × V)} {k:κ} (e:p.1=k):dropK (p::r) k=dropK r k:=by
 unfold dropK;rw [List.filter_cons,if_neg (by simp [e])]
theorem dropK_neg {p:κ × V} {r:List (κ × V)} {k:κ} (e:¬ p.1=k):dropK (p::r) k=p::dropK r k:=by
 unfold dropK;rw [List.filter_cons,if_pos (by simp [e])]
theorem dropK_no:∀ {kvs:List (κ × V)} {k:κ},¬ k∈kvs.map (·.1)->dropK kvs k=kvs
 | [],_,_=>rfl
 | p::r,k,h=>by
  have h':¬ k∈r.map (·.1):=λ m=>by
   obtain ⟨q,hq,e⟩:=gL.mp m;exact h (gL.mpr ⟨q,hV.mpr (Or.inr hq),e⟩)
  rw [dropK_neg λ e=>h (gL.mpr ⟨p,hV.mpr (Or.inl rfl),e⟩),dropK_no h']
theorem dropK_mem {kvs:List (κ × V)} {k:κ} {p:κ × V} (h:p∈dropK kvs k):p∈kvs:=(iZ.mp h).1
end
end L2
namespace L2
open PySem PySem.Spec PyProof.Rows
section
variable {X:Cx}
noncomputable def PTs (X:Cx) (ifs:List Expr) (t:TT):Prop:=
 ∀ (pins:List (Addr × Obj)) (s:Shared) (σ:St) (H:Hp) (Q:Bool->Hp->Prop),Inv X pins σ H s->t σ H Q->
  wpAny (model X.prog X.w) X.A (forIn ifs true λ c r=>if r=true then do let ok <- isTrue c X.env (eval c X.env);pure (ForInStep.yield ok) else pure (ForInStep.yield r)) (TP X pins σ Q) X.xe s
noncomputable def tYes:TT:=λ _ H Q=>Q true H
theorem c8:PTs X [] tYes:=λ pins s σ H Q I h=>wpAny_tests_nil ⟨H,I,h⟩
theorem pts_one {c:Expr} {t:TT} (h:PT X c t):PTs X [c] t:=λ pins s σ H Q I q=>wpAny_tests_one (h pins s σ H Q I q)
noncomputable def ClSub (X:Cx):List (Str × Addr)->Prop
 | []=>True
 | p::r=>X.env.cells.lookup p.1=some p.2/\ClSub X r
theorem ClSub.at:∀ {cl:List (Str × Addr)},ClSub X cl->∀ y c,cl.lookup y=some c->X.env.cells.lookup y=some c
 | [],_,y,c,e=>by simp at e
 | (z,d)::r,h,y,c,e=>by
  by_cases q:y=z
  ·subst q;simp at e;subst e;exact h.1
  ·rw [hG,iV.mpr q] at e;exact ClSub.at h.2 y c e
theorem lookup_has {cl:List (Str × Addr)} {y:Str}:y∈cl.map (·.1)->∃ c,cl.lookup y=some c:=by
 induction cl with
 | nil=>intro h;simp at h
 | cons p r ih=>
  intro h;by_cases q:y=p.1
  ·subst q;exact ⟨p.2,by cases p;simp⟩
  ·obtain ⟨c,e⟩:=ih (by
    rcases hV.mp h with z | z
    ·exact absurd z q
    ·exact z)
   exact ⟨c,by rw [hG,iV.mpr q];exact e⟩
theorem fF {scope:Scope} {env:Env} {z:Str} {k:NameKind} (h:(z,k)∈(relabel scope env).names) (hk:k=.cell∨k=.free):(z,NameKind.cell)∈scope.names∨(z,NameKind.free)∈scope.names:=by
 unfold relabel at h;obtain ⟨⟨n,k'⟩,hm,e⟩:=gL.mp h;dsimp only at e
 split at e
 ·rename_i c
  cases e
  have:k'=.free:=by
   have:=(Bool.and_eq_true_iff.mp (Bool.and_eq_true_iff.mp c).1).1
   simpa using this
  subst this;exact .inr hm
 ·cases e;rcases hk with rfl | rfl
  ·exact .inl hm
  ·exact .inr hm
theorem Clos.many {scope:Scope} {cl:List (Str × Addr)} {ys:List Str} (h:closureFor scope X.env=pure cl) (hs:ClSub X cl) (hy:cl.map (·.1)=ys)
  (hr:∀ p∈scope.names,(p.2=.cell∨p.2=.free)->p.1∈ys):Clos X scope cl:=by
 refine ⟨h,λ y c e=>hs.at y c e,λ y hz=>lookup_has ?_⟩;rw [hy];rcases hz with q | q
 ·rcases fF (iQ q) (.inl rfl) with m | m
  ·exact hr _ m (.inl rfl)
  ·exact hr _ m (.inr rfl)
 ·rcases fF (iQ q) (.inr rfl) with m | m
  ·exact hr _ m (.inl rfl)
  ·exact hr _ m (.inr rfl)
noncomputable def RdAll (X:Cx) (scope:Scope):List Str->List Nat->Prop
 | [],[]=>True
 | y::ys,j::js=>(X.N[j]?=some y/\X.env.scope.names.lookup y=some .cell/\(relabel scope X.env).names.lookup y=some .cell)/\RdAll X scope ys js
 | _,_=>False
theorem RdAll.len {scope:Scope}:∀ {ys:List Str} {js:List Nat},RdAll X scope ys js->js.length=ys.length
 | [],[],_=>rfl
 | y::ys,j::js,h=>by rw [ia,ia,RdAll.len h.2]
theorem RdAll.at {scope:Scope}:∀ {ys:List Str} {js:List Nat},RdAll X scope ys js->∀ (i:Nat) (y:Str) (j:Nat),ys[i]?=some y->js[i]?=some j->X.N[j]?=some y/\X.env.scope.names.lookup y=some .cell/\(relabel scope X.env).names.lookup y=some .cell
 | [],[],_,i,y,j,e,_=>by simp at e
 | y'::ys,j'::js,h,0,y,j,e1,e2=>by
  simp at e1 e2;subst e1 e2;exact h.1
 | y'::ys,j'::js,h,i+1,y,j,e1,e2=>RdAll.at h.2 i y j (by simpa using e1) (by simpa using e2)
theorem Reads.many {scope:Scope} {ys:List Str} {js:List Nat} (h:RdAll X scope ys js):Reads X scope ys (λ σ=>js.map λ j=>σ.getD j Option.none):=by
 refine λ σ=>⟨by rw [gG,h.len],λ i y v e1 e2=>?_⟩;rw [gK] at e2
 cases q:js[i]? with
 | none=>rw [q] at e2;cases e2
 | some j=>
  rw [q] at e2;obtain ⟨h1,h2,h3⟩:=h.at i y j e1 q;refine ⟨j,h1,?_,h2,h3⟩;have e3:σ.getD j Option.none=some v:=hZ e2;rw [List.getD_eq_getElem?_getD] at e3
  cases z:σ[j]? with
  | none=>rw [z] at e3;cases e3
  | some o=>rw [z] at e3;exact ix some e3
noncomputable def tCompG (k:Nat) (wi:TI) (g:TG) (tc:TT) (te:TE) (sel:St->St):TE:=λ σ H Q=>wi σ H λ J H1=>∀ l,H1 l=none->∃ W:Nat->Nat->Hp->Prop,(∃ m,W 0 m (upd H1 l (.lst [])))/\∀ i m H,W i m H->
 (J.stop i H/\Q (.ref l) H)∨(J.go i H/\∀ x H',J.yld i H x H'->∀ zs:St,zs.length=k->g x (zs++sel σ) H' λ σ2 H2=>(∃ zs':St,zs'.length=k/\σ2=zs'++sel σ)/\tc σ2 H2 λ b H3=>if b=true then te σ2 H3 λ y H4=>∃ ys,H4 l=some (.lst ys)/\ys.length<sizeLine/\∃ m',m'<m/\W (i+1) m' (upd H4 l (.lst (ys++[y]))) else ∃ m',m'<m/\W (i+1) m' H3)
theorem eG {prog:Program} {w:World} {A:Around} {R:Result->Shared->Prop} {s:Shared} {elt target iter:Expr} {ifs:List Expr} {scope:Scope} {pos:Pos} {it acc:Value} {env:Env} (I:Nat->Shared->Prop)
  (turn:∀ n s,I n s->wpAny (model prog w) A (pyNext it) (λ r s₁=>match r with
   | none=>R (.ok .next) s₁
   | some v=>wpAny (model prog w) A (letOwnedTupleGo target it v) (λ _ s₁'=>wpAny (model prog w) A (assign target env v) (λ _ s₂=>
     wpAny (model prog w) A (forIn ifs true λ c r=>if r=true then do let ok <- isTrue c env (eval c env);pure (ForInStep.yield ok) else pure (ForInStep.yield r)) (λ ok s₃=>if ok=true then wpAny (model prog w) A (eval elt env) (λ x s₄=>
      wpAny (model prog w) A (call (.builtin "list.append") [acc,x]) (λ _ s₅=>∃ m,m<n/\I m s₅) (λ _ _=>False) s₄) (λ _ _=>False) s₃ else ∃ m,m<n/\I m s₃) (λ _ _=>False) s₂) (λ _ _=>False) s₁') (λ _ _=>False) s₁) (λ _ _=>False) s)
  (n:Nat) (h:I n s) :
  codeAny (model prog w) A (.compLoop (.ListComp elt [⟨target,iter,ifs,0⟩] scope pos) 0 it acc env) R s:=by
 refine codeAny_loop rfl I (λ n s hI=>?_) n h;show wpAny _ _ ((compTurn (.ListComp elt [⟨target,iter,ifs,0⟩] scope pos) 0 it acc env).onRaise (λ x=>do noteFrame x env;theTreesLotGoes x)) _ _ s;refine wpAny_noted ?_;rw [compTurn_list];refine ip (wpAny_standAt (ip (i9 (turn n s hI) (λ r s₁ h₁=>?_) λ _ _ h'=>h'.elim)))
 cases r with
 | none=>exact iE h₁
 | some v=>
  refine ip (i9 h₁ (λ _ s₁' h₁'=>?_) λ _ _ h'=>h'.elim);refine ip (i9 h₁' (λ _ s₂ h₂=>ip (i9 h₂ (λ ok s₃ h₃=>?_) λ _ _ h'=>h'.elim)) λ _ _ h'=>h'.elim)
  cases ok with
  | false=>exact iE ⟨rfl,h₃⟩
  | true=>exact ip (ip (i9 h₃ (λ x s₄ h₄=>ip (i9 h₄ (λ _ s₅ h₅=>iE (iE ⟨rfl,h₅⟩)) λ _ _ h'=>h'.elim)) λ _ _ h'=>h'.elim))
theorem comp_blockG {elt iter tg:Expr} {ifs:List Expr} {xs:List Str} {pos:Pos} {scope:Scope} {cl:List (Str × Addr)} {rest:List Str} {sel:St->St} {g:TG} {tc:TT} {te:TE} {pins:List (Addr × Obj)} {σ:St} {H:Hp} {s:Shared} {Q:VK}
  {it:Addr} {fp:List Addr} {tn:Nat->Heap->Prop} {J:It} {RR:Value->Addr->Result->Shared->Prop} {E:Value->Shared->Prop}
  (hcalm:X.calm=true) (hkind:scope.kind=.function) (hcell:∀ z∈scope.names,z.2≠.cell) (hc:Clos X scope cl) (hr:Reads X scope rest sel)
  (hg:∀ (C:Addr) (s:Shared) (H:Hp),PG (bP X pins (xs++rest) scope cl C fp s H) tg g) (ht:∀ (C:Addr) (s:Shared) (H:Hp),PTs (bP X pins (xs++rest) scope cl C fp s H) ifs tc)
  (he:∀ (C:Addr) (s:Shared) (H:Hp),PE (bP X pins (xs++rest) scope cl C fp s H) elt te)
  (I:Inv X pins σ H s) (T:Turn X.prog X.w X.K tg J fp it tn) (t0:tn 0 s.heap) (hf:∀ b∈fp,FpOk X pins H b)
  (h:∀ l,H l=none->∃ W:Nat->Nat->Hp->Prop,(∃ m,W 0 m (upd H l (.lst [])))/\∀ i m H,W i m H->
   (J.stop i H/\Q (.ref l) H)∨(J.go i H/\∀ x H',J.yld i H x H'->∀ zs:St,zs.length=xs.length->g x (zs++sel σ) H' λ σ2 H2=>(∃ zs':St,zs'.length=xs.length/\σ2=zs'++sel σ)/\tc σ2 H2 λ b H3=>if b=true then te σ2 H3 λ y H4=>∃ ys,H4 l=some (.lst ys)/\ys.length<sizeLine/\∃ m',m'<m/\W (i+1) m' (upd H4 l (.lst (ys++[y]))) else ∃ m',m'<m/\W (i+1) m' H3))
  (hRR:∀ (D C:Addr) (H':Hp) (s':Shared),Inv X pins σ H' s'->FpOk X pins H' C->(∃ m,s'.heap.Ns C m)->Q (.ref D) H'->RR (.ref D) C (.ok .next) s') :
  wpAny (model X.prog X.w) X.A (newList []) (λ acc s₃=>wpAny (model X.prog X.w) X.A (newFunctionEnv scope X.env.globals cl [] X.env.qual none .none (some X.env)) (λ cenv s₄=>
   codeAny (model X.prog X.w) X.A (.compStart (.ListComp elt [⟨tg,iter,ifs,0⟩] scope pos) 0 (.ref it) acc { cenv with scope:=relabel scope X.env }) (RR acc cenv.locals) s₄) E s₃) E s:=by
 have hD:H s.heap.objs.size=none:=I.hok.fresh (gJ _);obtain ⟨W,⟨m0,w0⟩,turn⟩:=h _ hD;refine wpAny_newObj_type ?_
 have I3:Inv X pins σ (upd H s.heap.objs.size (.lst [])) { s with heap:=s.heap.push { cls:=.type "list",dict:=none,data:=.seq ([]:List Value).toArray } }:=
  I.laid (t':=s.toks) (λ b u e=>gO _ e) (gJ _) ⟨gR _,[],0,.nil,ib _ rfl⟩
 generalize hs3:({ s with heap:=s.heap.push { cls:=.type "list",dict:=none,data:=.seq ([]:List Value).toArray } }:Shared)=s3 at I3 ⊢;have old3:∀ b o,s.heap.get? b=some o->s3.heap.get? b=some o:=λ b o e=>by rw [<- hs3];exact gO _ e
 refine wpAny_newFunctionEnv hcell (by intro y hy;simp at hy) (λ h1 hns1 hsb1=>?_) hkind;have old4:∀ b o,s3.heap.get? b=some o->h1.get? b=some o:=λ b o e=>hsb1.extBut b o (iw (hJ e)) (gO _ e)
 have fD:∀ b∈fp,b≠s.heap.objs.size:=λ b hb z=>by
  obtain ⟨o,e,_⟩:=T.obj 0 _ t0 b hb;exact absurd (hJ e) (by rw [z];exact i4 _)
 have hf3:∀ b∈fp,FpOk X pins (upd H s.heap.objs.size (.lst [])) b:=λ b hb=>⟨by rw [af (fD b hb)];exact (hf b hb).1,(hf b hb).2⟩
 have fC:∀ b∈fp,b≠s3.heap.objs.size:=λ b hb z=>by
  obtain ⟨o,e,_⟩:=T.obj 0 _ t0 b hb;exact absurd (hJ (old3 b o e)) (by rw [z];exact i4 _)
 have cC:∀ y c,cl.lookup y=some c->c≠s3.heap.objs.size:=λ y c e z=>by
  obtain ⟨v,q⟩:=I3.cell y c (hc.sub y c e);exact absurd q.lt (by rw [z];exact i4 _)
 have fstk:∀ b∈fp,b ∉ frs X.stack:=λ b hb z=>(hV.mp (I3.stkSub b z)).elim (hf b hb).2.1 (hf b hb).2.2.1
 have ok:(bP X pins (xs++rest) scope cl s3.heap.objs.size fp s3 (upd H s.heap.objs.size (.lst []))).Ok:=by
  refine ⟨I.ok.mod,hkind,I.ok.glob,I.ok.blt,gJ _,λ y z c e1 e2=>I.ok.inj y z c (hc.sub y c e1) (hc.sub z c e2),λ y hy=>hc.has y hy,λ y c e=>(nomatch e),I.ok.hd,I.ok.frames,.inl rfl,λ b hb=>⟨fC b hb,λ y c e=>(hf b hb).2.2.2.2.1 y c (hc.sub y c e)⟩,
   I3.bs,gZ I.ok.bsz I3.sz,λ b o e hb=>?_,fstk,I3.stack,I3.stkFree⟩
  rcases (hf b hb).2.2.2.1 with z | z
  ·exact I.ok.noex b o e z
  ·exact absurd (ic (hJ e) I.ok.bsz) (Nat.not_lt.mpr z)
 have I4:Inv (bP X pins (xs++rest) scope cl s3.heap.objs.size fp s3 (upd H s.heap.objs.size (.lst []))) [] (xs.map (λ _=>none)++sel σ) (upd H s.heap.objs.size (.lst [])) { s3 with heap:=h1,toks:=s3.toks+([]:List (Str × Value)).length }:=by
  refine ⟨ok,rfl,I3.bare,Un.kept old4,⟨_,hns1,λ i y v e1 e2 e3=>?_⟩,λ y c e=>?_,I3.hok.fresh (gJ _),λ y c e=>I3.freeC y c (hc.sub y c e),λ p hp=>?_,I3.hok.kept old4,?_⟩
  ·have hge:xs.length<=i:=by
    apply hX
    intro hlt;rw [List.getElem?_append_left (by rw [gG];omega),gK] at e2
    cases q:xs[i]? with
    | none=>rw [q] at e2;cases e2
    | some z=>rw [q] at e2;cases e2
   have e1':rest[i-xs.length]?=some y:=by
    have e1:(xs++rest)[i]?=some y:=e1;rw [iI hge] at e1;exact e1
   have e2':(sel σ)[i-xs.length]?=some (some v):=by
    rw [iI (by rw [gG];exact hge),gG] at e2;exact e2
   obtain ⟨j,q1,q2,q3,q4⟩:=(hr σ).2 _ y v e1' e2';obtain ⟨m,hn,hl⟩:=I3.loc;obtain ⟨u,r,l⟩:=hl j y v q1 q2 (.inr (.inl q3));refine ⟨u,r,.inr ⟨.inl q4,?_⟩⟩;obtain ⟨c,ec⟩:=hc.has y (.inl q4);refine ⟨c,ec,?_⟩;rcases l with ⟨k,_⟩ | ⟨_,c',e',z⟩
   ·have k':X.env.scope.names.lookup y=some .local:=k;rw [q3] at k';cases k'
   ·rw [hc.sub y c ec] at e'
    cases e';obtain ⟨o,ho,hd⟩:=z;exact ⟨o,old4 c o ho,hd⟩
  ·obtain ⟨v,o,ho,hd⟩:=I3.cell y c (hc.sub y c e);exact ⟨v,o,old4 c o ho,hd⟩
  ·have hp':p∈X.pn++pins:=by simpa [bP] using hp
   obtain ⟨e,n,ne,nf,d⟩:=I3.pin p hp';exact ⟨old4 _ _ e,n,iw (hJ e),λ z=>(hV.mp (I3.stkSub _ z)).elim ne nf,d⟩
  ·show (xs.map (λ _=>none)++sel σ).length=(xs++rest).length;rw [hE,hE,gG,(hr σ).1]
 have stat:∀ {H':Hp},(∀ b∈fp,H' b=none)->∀ b∈fp,FpOk (bP X pins (xs++rest) scope cl s3.heap.objs.size fp s3 (upd H s.heap.objs.size (.lst []))) [] H' b:=λ hn b hb=>
  ⟨hn b hb,fC b hb,fstk b hb,.inl hb,λ y c e=>(hf b hb).2.2.2.2.1 y c (hc.sub y c e),λ p hp=>(hf b hb).2.2.2.2.2 p (by simpa [bP] using hp)⟩
 have t4:tn 0 h1:=T.keep _ _ _ t0 λ b hb o e=>old4 b o (old3 b o e)
 have loop:∀ s4:Shared,s4 = { s3 with heap:=h1,toks:=s3.toks+([]:List (Str × Value)).length }->
   codeAny (model X.prog X.w) X.A (.compLoop (.ListComp elt [⟨tg,iter,ifs,0⟩] scope pos) 0 (.ref it) (.ref s.heap.objs.size) (compEnvC scope cl s3.heap.objs.size X.env)) (RR (.ref s.heap.objs.size) s3.heap.objs.size) s4:=by
  rintro s4 rfl
  refine eG (λ n s'=>∃ i zs H',zs.length=xs.length/\Inv (bP X pins (xs++rest) scope cl s3.heap.objs.size fp s3 (upd H s.heap.objs.size (.lst []))) [] (zs++sel σ) H' s'/\tn i s'.heap/\(∀ b∈fp,H' b=none)/\W i n H') ?_ m0
   ⟨0,_,_,gG _,I4,t4,λ b hb=>(hf3 b hb).1,w0⟩
  rintro n s5 ⟨i,zs,H5,hzs,I5,t5,f5,w5⟩;rcases turn i n H5 w5 with ⟨stop,qn⟩ | ⟨go,step⟩
  ·refine thn (T.done (bP X pins (xs++rest) scope cl s3.heap.objs.size fp s3 (upd H s.heap.objs.size (.lst []))) rfl rfl rfl hcalm i [] s5 _ H5 _ I5 (stat f5) t5 stop) λ r s6 ⟨er,I6⟩=>?_;subst er;have J6:Inv X pins σ H5 s6:=I3.call' (ch:=fp) I6.os I6.base I6.hok I6.bare λ b hb=>⟨(hf b hb).2.2.2.1,(hf b hb).2.1,(hf b hb).2.2.2.2.1,(hf b hb).2.2.2.2.2⟩;exact hRR _ _ H5 s6 J6 (I3.fpOk (gJ _) I6.free) (let ⟨m,hn,_⟩:=I6.loc;⟨m,hn⟩) qn
  ·refine thn (T.item (bP X pins (xs++rest) scope cl s3.heap.objs.size fp s3 (upd H s.heap.objs.size (.lst []))) rfl rfl rfl hcalm i [] s5 _ H5 _ I5 (stat f5) t5 go) λ r s6 ⟨u,er,h6⟩=>?_;subst er;refine thn h6 λ _ s7 ⟨y,H7,I7,r7,y7,t7,f7⟩=>?_;have I7':=I7.pinned (stat f7) (T.obj _ _ t7);refine thn (hg _ _ _ _ s7 _ H7 y u _ I7' r7 (step y H7 y7 zs hzs)) λ _ s8 ⟨σ8,H8,I8,⟨zs',hz',e8⟩,q8⟩=>?_;subst e8;refine thn (ht _ _ _ _ s8 _ H8 _ I8 q8) λ b s9 ⟨H9,I9,q9⟩=>?_
   cases b with
   | false=>
    rw [if_neg ii] at q9 ⊢;obtain ⟨m',hm,w9⟩:=q9;refine ⟨m',hm,i+1,zs',_,hz',I9.unpinned,T.keep _ _ _ t7 λ b hb o e=>(I9.pin (b,o) (g8 _ (g8 _ (cf hb e)))).1,λ b hb=>?_,w9⟩;obtain ⟨o,e,d⟩:=T.obj _ _ t7 b hb;exact (I9.pin (b,o) (g8 _ (g8 _ (cf hb e)))).2.1
   | true=>
    rw [if_pos rfl] at q9 ⊢;refine thn (he _ _ _ _ s9 _ H9 _ I9 q9) λ z s9 ⟨yv,H9,I9,r9,ys,hl,hz,m',hm,w9⟩=>?_
    refine thn (bW (X:=bP X pins (xs++rest) scope cl s3.heap.objs.size fp s3 (upd H s.heap.objs.size (.lst []))) _ s9 _ H9 (.ref s.heap.objs.size) [yv] (.ref s.heap.objs.size) [z]
     (λ v H'=>H'=upd H9 s.heap.objs.size (.lst (ys++[yv]))) I9 rfl (.cons r9 .nil) ⟨_,ys,yv,rfl,rfl,hl,hz,rfl⟩) λ _ s10 ⟨v10,H10,I10,_,e10⟩=>?_
    subst e10;refine ⟨m',hm,i+1,zs',_,hz',I10.unpinned,T.keep _ _ _ t7 λ b hb o e=>(I10.pin (b,o) (g8 _ (g8 _ (cf hb e)))).1,λ b hb=>?_,w9⟩;obtain ⟨o,e,d⟩:=T.obj _ _ t7 b hb;exact (I10.pin (b,o) (g8 _ (g8 _ (cf hb e)))).2.1
 exact codeAny_compStart_list (loop _ rfl) (T.self _ 0 _ _ _ t4 (loop _ rfl))
theorem b5 {elt iter tg:Expr} {ifs:List Expr} {xs:List Str} {pos:Pos} {scope:Scope} {cl:List (Str × Addr)} {rest:List Str} {sel:St->St} {g:TG} {tc:TT} {te:TE} {wi:TI}
  (hcalm:X.calm=true) (hi:PI X tg iter wi) (hg:∀ (pins:List (Addr × Obj)) (fp:List Addr) (C:Addr) (s:Shared) (H:Hp),PG (bP X pins (xs++rest) scope cl C fp s H) tg g) (ht:∀ (pins:List (Addr × Obj)) (fp:List Addr) (C:Addr) (s:Shared) (H:Hp),PTs (bP X pins (xs++rest) scope cl C fp s H) ifs tc)
  (he:∀ (pins:List (Addr × Obj)) (fp:List Addr) (C:Addr) (s:Shared) (H:Hp),PE (bP X pins (xs++rest) scope cl C fp s H) elt te)
  (hc:Clos X scope cl) (hr:Reads X scope rest sel) (hkind:scope.kind=.function:=by rfl) (hcell:∀ z∈scope.names,z.2≠.cell:=by decide +kernel) (hnames:∀ z∈scope.names,z.2=.local->scope.names.lookup z.1=some .local:=by decide +kernel)
  (hs:∀ x,foldedSetIterable iter X.env x=pure x:=by intro _;rfl) :
  PE X (.ListComp elt [⟨tg,iter,ifs,0⟩] scope pos) (tCompG xs.length wi g tc te sel):=by
 intro pins s σ H Q I h;rw [eval_ListComp];refine wpAny_comprehension_free (use:=none) rfl hs hc.clos hkind hnames (thn (hi pins s σ H _ I h) λ v s1 h1=>thn h1 λ itv s2 h2=>?_);obtain ⟨it,fp,tn,J,H2,rfl,I2,T,t2,f2,q2⟩:=h2;refine comp_blockG (RR:=λ acc C=>compPost (model X.prog X.w) X.A X.xe none (EP X pins σ Q) acc C) hcalm hkind hcell hc hr (hg pins fp) (ht pins fp) (he pins fp) I2 T t2 f2 q2 λ D C H' s' I' fC ⟨m,hn⟩ q=>?_;exact ⟨m,hn,λ h' sb=>⟨.ref D,H',I'.turned (t':=s'.toks) (λ b o hb e=>(sb.2 b hb).trans e) fC.1 fC.2.1 fC.2.2.2.1 fC.2.2.2.2.1 fC.2.2.2.2.2,rfl,q⟩⟩
theorem ps_compG {i:Nat} {y:Str} {py spos:Pos} {elt iter tg:Expr} {ifs:List Expr} {xs:List Str} {pos:Pos} {scope:Scope} {cl:List (Str × Addr)} {rest:List Str} {sel:St->St} {g:TG} {tc:TT} {te:TE} {wi:TI}
  (hNX:X.N.Nodup) (hi':X.N[i]?=some y) (hy:X.env.scope.names.lookup y=some .local)
  (hcalm:X.calm=true) (hi:PI X tg iter wi) (hg:∀ (pins:List (Addr × Obj)) (fp:List Addr) (C:Addr) (s:Shared) (H:Hp),PG (bP X pins (xs++rest) scope cl C fp s H) tg g) (ht:∀ (pins:List (Addr × Obj)) (fp:List Addr) (C:Addr) (s:Shared) (H:Hp),PTs (bP X pins (xs++rest) scope cl C fp s H) ifs tc)
  (he:∀ (pins:List (Addr × Obj)) (fp:List Addr) (C:Addr) (s:Shared) (H:Hp),PE (bP X pins (xs++rest) scope cl C fp s H) elt te)
  (hc:Clos X scope cl) (hr:Reads X scope rest sel) (hkind:scope.kind=.function:=by rfl) (hcell:∀ z∈scope.names,z.2≠.cell:=by decide +kernel) (hnames:∀ z∈scope.names,z.2=.local->scope.names.lookup z.1=some .local:=by decide +kernel)
  (hs:∀ x,foldedSetIterable iter X.env x=pure x:=by intro _;rfl)
  (hsw:swapsWith (.ListComp elt [⟨tg,iter,ifs,0⟩] scope pos) (some (.Name y py)) spos.line X.env=pure true:=by rfl) :
  PS X (.Assign [.Name y py] (.ListComp elt [⟨tg,iter,ifs,0⟩] scope pos) spos) (tAsg (tCompG xs.length wi g tc te sel) (gName i)):=by
 intro pins s σ H D I h;rw [exec_Assign_Name_used _ _ _ _ hsw];refine ip (wpAny_standAt (ip ?_));show wpAny _ X.A (do let _ <- comprehension (.ListComp elt [⟨tg,iter,ifs,0⟩] scope pos) scope X.env _ (newList []) false (eval iter X.env) (some (assign (.Name y py) X.env))) _ _ s
 refine ip (i9 (wpAny_comprehension_free (use:=some (assign (.Name y py) X.env)) (Q:=λ _ s'=>SP X pins D .next s') rfl hs hc.clos hkind hnames
  (thn (hi pins s σ H _ I h) λ v s1 h1=>thn h1 λ itv s2 h2=>?_)) (λ _ s' hq=>iE (iE hq)) λ _ _ e=>e)
 obtain ⟨it,fp,tn,J,H2,rfl,I2,T,t2,f2,q2⟩:=h2;refine comp_blockG (Q:=λ x H1=>gName i x σ H1 D.nx) (RR:=λ acc C=>compPost (model X.prog X.w) X.A X.xe (some (assign (.Name y py) X.env)) (λ _ s'=>SP X pins D .next s') acc C) hcalm hkind hcell hc hr (hg pins fp) (ht pins fp) (he pins fp) I2 T t2 f2 q2 λ L C H' s' I' fC ⟨m,hn⟩ q=>?_;show wpAny _ X.A (assign (.Name y py) X.env (.ref L)) _ _ _;refine wpAny_assign_Name (store_ok2 I' hNX hi' (.inl hy) (v:=.ref L) rfl (λ s2 I2' ⟨a,sb,ha⟩=>?_) (.inr hy))
 have hCa:C≠a:=λ z=>by
  rcases ha with z' | z'
  ·exact fC.2.1 (z.trans z')
  ·exact fC.2.2.2.2.1 y a z' z.symm
 exact ⟨m,hn.sameBut sb hCa,λ h' sb'=>⟨_,H',I2'.turned (t':=s2.toks) (λ b o hb e=>(sb'.2 b hb).trans e) fC.1 fC.2.1 fC.2.2.2.1 fC.2.2.2.2.1 fC.2.2.2.2.2,q⟩⟩
end
end L2
namespace L2
open PySem PySem.Spec PyProof.Rows
section
variable {X:Cx} {pins:List (Addr × Obj)} {σ:St} {H:Hp} {s:Shared} {a:Addr} {o:Obj} {u:HO}
theorem Inv.freeze (I:Inv X pins σ H s) (ha:H a=some u) (mu:Mut (some u)) (ho:s.heap.get? a=some o):Inv X pins σ (upd H a (.frz o u)) s:=by
 have mu':Mut (H a):=by rw [ha];exact mu
 have nown:∀ c y,H c=some (.own y)->c≠a:=λ c y r z=>by subst z;rw [r] at mu';exact mu'
 have ntup:∀ c xs,H c=some (.tup xs)->c≠a:=λ c xs r z=>by subst z;rw [r] at mu';exact mu'
 refine I.un (t':=s.toks) (Un.write (x:=a) (e:=a) mu' (.inl rfl) (λ _ _ _ q=>q) ⟨o,ho⟩) (I.hok.write (x:=a) (e:=a) mu' (.inl rfl) (λ _ _ _ q=>q) ⟨o,ho⟩ ⟨ho,?_⟩);exact (I.hok a u ha).stay (λ _ _ _ q=>q) (λ c r=>by rw [af (nown c a r)];exact r) λ c xs r=>by rw [af (ntup c xs r)];exact r
theorem Inv.thaw (I:Inv X pins σ H s) (ha:H a=some (.frz o u)) (h0:∀ o' u',X.H₀ a≠some (.frz o' u')):Inv X pins σ (upd H a u) s:=by
 have nown:∀ c y,H c=some (.own y)->c≠a:=λ c y r z=>by subst z;rw [r] at ha;cases ha
 have ntup:∀ c xs,H c=some (.tup xs)->c≠a:=λ c xs r z=>by subst z;rw [r] at ha;cases ha
 have nn:∀ c,H c=none->c≠a:=λ c r z=>by subst z;rw [r] at ha;cases ha
 have up:∀ c,H c=none->upd H a u c=none:=λ c r=>by rw [af (nn c r)];exact r
 refine ⟨I.ok,I.os,I.bare,⟨I.base.keep,I.base.slot,λ b ob e n hx=>up b (I.base.free b ob e n hx),I.base.there,λ b xs e=>?_,λ b ob z e=>?_,λ b ps e=>?_⟩,I.loc,I.cell,up _ I.free,λ x c e=>up _ (I.freeC x c e),λ p hp=>?_,λ b ob e=>?_,I.len⟩
 ·have q:=I.base.tups b xs e;rw [af (ntup b xs q)];exact q
 ·have q:=I.base.frzs b ob z e;have nb:b≠a:=λ z'=>by subst z';exact h0 _ _ e
  rw [af nb];exact q
 ·obtain ⟨m,q⟩:=I.base.tbls b ps e;have nb:b≠a:=λ z'=>by subst z';rw [q] at ha;cases ha
  exact ⟨m,by rw [af nb];exact q⟩
 ·obtain ⟨e,n,r⟩:=I.pin p hp;exact ⟨e,up _ n,r⟩
 ·by_cases hb:b=a
  ·subst hb;rw [ae] at e
   cases e;obtain ⟨_,q⟩:=I.hok b _ ha;exact q.stay (λ _ _ _ q=>q) (λ c r=>by rw [af (nown c b r)];exact r) λ c xs r=>by rw [af (ntup c xs r)];exact r
  ·rw [af hb] at e;exact (I.hok b ob e).stay (λ _ _ _ q=>q) (λ c r=>by rw [af (nown c b r)];exact r) λ c xs r=>by rw [af (ntup c xs r)];exact r
theorem Inv.nofrz (I:Inv X pins σ H s) (ha:H a=some u) (nu:∀ o' u',u≠.frz o' u'):∀ o' u',X.H₀ a≠some (.frz o' u'):=λ o' u' e=>by
 have q:=I.base.frzs a o' u' e;rw [ha] at q;exact nu _ _ (hZ q)
noncomputable def tThaw (t:TE):TE:=λ σ H Q=>∃ a u,H a=some u/\(∀ o' u',u≠.frz o' u')/\t σ H λ v H'=>∃ o,H' a=some (.frz o u)/\Q v (upd H' a u)
theorem gj {e:Expr} {t:TE} (h:PE X e t):PE X e (tThaw t):=by
 intro pins s σ H Q I q;obtain ⟨a,u,ha,nu,q⟩:=q;exact thn (h pins s σ H _ I q) λ v s1 ⟨x,H1,I1,r1,o,e1,q1⟩=>⟨x,_,I1.thaw e1 (I.nofrz ha nu),r1,q1⟩
noncomputable def tThawS (t:TS):TS:=λ D σ H=>∃ a u,H a=some u/\(∀ o' u',u≠.frz o' u')/\t { D with nx:=λ σ' H'=>∃ o,H' a=some (.frz o u)/\D.nx σ' (upd H' a u),rt:=λ v H'=>∃ o,H' a=some (.frz o u)/\D.rt v (upd H' a u),ct:=λ σ' H'=>∃ o,H' a=some (.frz o u)/\D.ct σ' (upd H' a u),bk:=λ σ' H'=>∃ o,H' a=some (.frz o u)/\D.bk σ' (upd H' a u) } σ H
theorem cB {st:Stmt} {t:TS} (h:PS X st t):PS X st (tThawS t):=by
 intro pins s σ H D I q;obtain ⟨a,u,ha,nu,q⟩:=q;have hn:=I.nofrz ha nu;refine thn (h pins s σ H _ I q) λ f s1 q1=>?_
 cases f with
 | next=>obtain ⟨σ1,H1,I1,o,e1,q2⟩:=q1;exact ⟨σ1,_,I1.thaw e1 hn,q2⟩
 | cont=>obtain ⟨σ1,H1,I1,o,e1,q2⟩:=q1;exact ⟨σ1,_,I1.thaw e1 hn,q2⟩
 | brk=>obtain ⟨σ1,H1,I1,o,e1,q2⟩:=q1;exact ⟨σ1,_,I1.thaw e1 hn,q2⟩
 | ret v=>obtain ⟨x,σ1,H1,I1,r1,o,e1,q2⟩:=q1;exact ⟨x,σ1,_,I1.thaw e1 hn,r1,q2⟩
noncomputable def Itd (a:Addr) (o:Obj) (kvs:List (Key × V)):It:=
 ⟨λ i H=>H a=some (.frz o (.dK kvs))/\i<kvs.length,λ i H x H'=>H'=H/\∃ kv,kvs[i]?=some kv/\x=kV kv.1,λ i H=>H a=some (.frz o (.dK kvs))/\kvs.length<=i⟩
theorem KV.get {κ:Type}:∀ {kvs:List (κ × V)} {vs:List (κ × Value)} {i:Nat} {kv:κ × V},KV kvs vs->kvs[i]?=some kv->∃ v,vs[i]?=some (kv.1,v)/\RelV kv.2 v
 | _,_,_,_,.nil,e=>by simp at e
 | _,_,0,kv,.cons (b:=b) r t,e=>by
  simp at e;subst e;exact ⟨b.2,by simp [r.1],r.2⟩
 | _,_,i+1,kv,.cons r t,e=>by
  obtain ⟨v,e',r'⟩:=KV.get (i:=i) t (by simpa using e);exact ⟨v,by simpa using e',r'⟩
theorem is_kV {P:Program} {w:World} {k:Key} {u:Value} (h:(aV P w).is k u=true):RelV (kV k) u:=by
 rcases bc (show keyIs k u=true from h) with ⟨i,t,rfl,rfl⟩ | ⟨x,t,rfl,rfl⟩
 ·exact ⟨t,rfl⟩
 ·exact ⟨t,rfl⟩
theorem turn_dict {P:Program} {w:World} {K:W.Frag} {tg:Expr} (a it:Addr) (o:Obj) (kvs:List (Key × V)) {es:Array DictEntry} {ep:Nat} (hd:o.data=.dict es ep):Turn P w K tg (Itd a o kvs) [it] it (λ i h=>h.IsKeyIter it a i kvs.length ep) where
 mem:=by simp
 obj:=λ i h st b hb=>by
  have e:b=it:=by simpa using hb
  subst e;obtain ⟨o,e,c,d⟩:=st;exact ⟨o,e,λ v z=>by rw [d] at z;cases z⟩
 keep:=λ i h h' st k=>st.at λ o e=>k it (by simp) o e
 item:=by
  intro X hP hw hK hc i pins s σ H E I hf st hg;subst hP hw hK;obtain ⟨ha,hi⟩:=hg;obtain ⟨ho,hz,hs,vs,r,o',es',ep',e1,e2,e3,e4,e5,e6⟩:=I.hok a _ ha;rw [ho] at e1;cases e1;rw [hd] at e3;cases e3;have hx:kvs[i]?=some kvs[i]:=gX hi;obtain ⟨v,hv,rv⟩:=KV.get r hx;obtain ⟨f0,f1,f2,f3,f4,f5⟩:=hf it (by simp);have st0:s.heap.IsKeyIter it a i vs.length ep:=by rw [<- r.length];exact st
  refine wpAny_pyNext_dict_item st0 ⟨o,es,ho,e2,hd,e4,e5,e6⟩ hv λ key h' hk st' sb=>?_;rw [<- r.length] at st';have I1:Inv X pins σ H { s with heap:=h' }:=I.turned (t':=s.toks) (λ b o hb e=>(sb.2 b hb).trans e) f0 f1 f3 f4 f5;obtain ⟨oi,e,c,d⟩:=id st';exact ⟨key,rfl,go_of (s:={ s with heap:=h' }) e c d (by decide) ⟨kV (kvs[i]).1,H,I1,is_kV hk,⟨rfl,_,hx,rfl⟩,st',λ b hb=>(hf b hb).1⟩⟩
 done:=by
  intro X hP hw hK hc i pins s σ H E I hf st hg;subst hP hw hK;obtain ⟨ha,hi⟩:=hg;obtain ⟨ho,hz,hs,vs,r,o',es',ep',e1,e2,e3,e4,e5,e6⟩:=I.hok a _ ha;rw [ho] at e1;cases e1;rw [hd] at e3;cases e3;obtain ⟨f0,f1,f2,f3,f4,f5⟩:=hf it (by simp);have st0:s.heap.IsKeyIter it a i vs.length ep:=by rw [<- r.length];exact st
  exact wpAny_pyNext_dict_end (I.ok.hd hc) st0 ⟨o,es,ho,e2,hd,e4,e5,e6⟩ (List.getElem?_eq_none (by rw [<- r.length];exact hi)) λ h' eb=>⟨rfl,I.turned (t':=s.toks) (λ b o hb e=>eb b o hb e) f0 f1 f3 f4 f5⟩
 self:=λ _ _ _ _ _ st h=>wpAny_pyIter_keyiter st h
noncomputable def iDic (tl:TE):TI:=λ σ H R=>tl σ H λ x H1=>∃ a kvs,x=.ref a/\H1 a=some (.dK kvs)/\∀ o,R (Itd a o kvs) (upd H1 a (.frz o (.dK kvs)))
theorem c9 {tg l:Expr} {tl:TE} (hl:PE X l tl):PI X tg l (iDic tl):=by
 intro pins s σ H R I h;refine thn (hl pins s σ H _ I h) λ v s1 ⟨x,H1,I1,r1,q1⟩=>?_;obtain ⟨a,kvs,e,ha,q⟩:=q1;subst e
 cases r1;obtain ⟨hz,hs,vs,r,o,es,ep,e1,e2,e3,e4,e5,e6⟩:=dk_of I1.hok ha;have I2:Inv X pins σ (upd H1 a (.frz o (.dK kvs))) s1:=I1.freeze ha True.intro e1;refine wpAny_pyIter_dict hs ⟨o,es,e1,e2,e3,e4,e5,e6⟩ ?_;refine ⟨s1.heap.objs.size,[s1.heap.objs.size],_,_,_,rfl,I2.kept (t':=s1.toks) λ b o e=>gO _ e,turn_dict a _ o kvs e3,⟨_,ib _ rfl,rfl,by rw [r.length];rfl⟩,λ b hb=>?_,q o⟩;have e:b=s1.heap.objs.size:=by simpa using hb
 subst e;exact I2.fpOk (gJ _) (I2.hok.fresh (gJ _))
end
theorem for_dict {a:Addr} {o:Obj} {kvs:List (Key × V)} {g:TG} {tb:TS} {D:Ends} {σ:St} {H:Hp} (Pv:Nat->St->Hp->Prop) (h0:Pv 0 σ H) (hl:∀ i σ H,i<=kvs.length->Pv i σ H->H a=some (.frz o (.dK kvs)))
  (hs:∀ i kv σ H,kvs[i]?=some kv->Pv i σ H->g (kV kv.1) σ H λ σ2 H2=>tb { D with nx:=Pv (i+1),ct:=Pv (i+1),bk:=D.nx } σ2 H2) (hd:∀ σ H,Pv kvs.length σ H->D.nx σ H) :
  ∃ W:Nat->Nat->St->Hp->Prop,(∃ m,W 0 m σ H)/\∀ i m σ H,W i m σ H->
   ((Itd a o kvs).stop i H/\D.nx σ H)∨((Itd a o kvs).go i H/\∃ N:St->Hp->Prop,(∀ σ' H',N σ' H'->∃ m',m'<m/\W (i+1) m' σ' H')/\∀ x H',(Itd a o kvs).yld i H x H'->g x σ H' λ σ2 H2=>tb { D with nx:=N,ct:=N,bk:=D.nx } σ2 H2):=by
 refine ⟨λ i m σ H=>m=kvs.length-i/\i<=kvs.length/\Pv i σ H,⟨kvs.length,by simp,gR _,h0⟩,?_⟩;rintro i m σ H ⟨rfl,hi,p⟩;have q:=hl i σ H hi p;by_cases hlt:i<kvs.length
 ·refine .inr ⟨⟨q,hlt⟩,Pv (i+1),λ σ' H' p'=>⟨kvs.length-(i+1),by omega,rfl,hlt,p'⟩,λ x H' y=>?_⟩;obtain ⟨e,kv,hkv,ex⟩:=y;subst e ex;exact hs i kv σ _ hkv p
 ·have e:i=kvs.length:=by omega
  subst e;exact .inl ⟨⟨q,gJ _⟩,hd σ H p⟩
end L2
namespace L2
open PySem PySem.Spec PyProof.Rows
noncomputable def eZ (n:Nat) (Pv:Nat->Hp->Prop) (i:Nat) (H:Hp):Prop:=∃ m',m'<n-i/\m'=n-(i+1)/\i+1<=n/\Pv (i+1) H
theorem cy {n i:Nat} {Pv:Nat->Hp->Prop} {H:Hp} (hi:i<n) (h:Pv (i+1) H):eZ n Pv i H:=⟨n-(i+1),by omega,rfl,hi,h⟩
section
variable {l:Addr} {k:Nat} {g:TG} {tc:TT} {te:TE} {ρ:St} {R:Hp->Prop} {H₀:Hp}
theorem gD {J:It} {n:Nat} (Pv:Nat->Hp->Prop) (h0:Pv 0 (upd H₀ l (.lst []))) (hgo:∀ i H,i<n->Pv i H->J.go i H) (hst:∀ H,Pv n H->J.stop n H)
  (hs:∀ i x H H',i<n->J.yld i H x H'->Pv i H->∀ zs:St,zs.length=k->g x (zs ++ ρ) H' λ σ2 H2=>(∃ zs':St,zs'.length=k/\σ2=zs' ++ ρ)/\tc σ2 H2 λ b H3=>if b=true then te σ2 H3 λ y H4=>∃ ys,H4 l=some (.lst ys)/\ys.length<sizeLine/\eZ n Pv i (upd H4 l (.lst (ys++[y]))) else eZ n Pv i H3)
  (hd:∀ H,Pv n H->R H) :
  ∃ W:Nat->Nat->Hp->Prop,(∃ m,W 0 m (upd H₀ l (.lst [])))/\∀ i m H,W i m H->
   (J.stop i H/\R H)∨(J.go i H/\∀ x H',J.yld i H x H'->∀ zs:St,zs.length=k->g x (zs ++ ρ) H' λ σ2 H2=>(∃ zs':St,zs'.length=k/\σ2=zs' ++ ρ)/\tc σ2 H2 λ b H3=>if b=true then te σ2 H3 λ y H4=>∃ ys,H4 l=some (.lst ys)/\ys.length<sizeLine/\∃ m',m'<m/\W (i+1) m' (upd H4 l (.lst (ys++[y]))) else ∃ m',m'<m/\W (i+1) m' H3):=by
 refine ⟨λ i m H=>m=n-i/\i<=n/\Pv i H,⟨n,by simp,gR _,h0⟩,?_⟩;rintro i m H ⟨rfl,hi,p⟩;by_cases hlt:i<n
 ·exact .inr ⟨hgo i H hlt p,λ x H' y=>hs i x H H' hlt y p⟩
 ·have e:i=n:=by omega
  subst e;exact .inl ⟨hst H p,hd H p⟩
theorem dW {K:W.Frag} {a:Addr} {xs:List V} (Pv:Nat->Hp->Prop) (h0:Pv 0 (upd H₀ l (.lst []))) (hl:∀ i H,Pv i H->SqL K H a xs)
  (hs:∀ i x H,xs[i]?=some x->Pv i H->∀ zs:St,zs.length=k->g x (zs ++ ρ) H λ σ2 H2=>(∃ zs':St,zs'.length=k/\σ2=zs' ++ ρ)/\tc σ2 H2 λ b H3=>if b=true then te σ2 H3 λ y H4=>∃ ys,H4 l=some (.lst ys)/\ys.length<sizeLine/\eZ xs.length Pv i (upd H4 l (.lst (ys++[y]))) else eZ xs.length Pv i H3)
  (hd:∀ H,Pv xs.length H->R H) :
  ∃ W:Nat->Nat->Hp->Prop,(∃ m,W 0 m (upd H₀ l (.lst [])))/\∀ i m H,W i m H->
   ((Itl K a).stop i H/\R H)∨((Itl K a).go i H/\∀ x H',(Itl K a).yld i H x H'->∀ zs:St,zs.length=k->g x (zs ++ ρ) H' λ σ2 H2=>(∃ zs':St,zs'.length=k/\σ2=zs' ++ ρ)/\tc σ2 H2 λ b H3=>if b=true then te σ2 H3 λ y H4=>∃ ys,H4 l=some (.lst ys)/\ys.length<sizeLine/\∃ m',m'<m/\W (i+1) m' (upd H4 l (.lst (ys++[y]))) else ∃ m',m'<m/\W (i+1) m' H3):=
 gD (n:=xs.length) Pv h0 (λ i H hi p=>⟨xs,xs[i],hl i H p,gX hi⟩) (λ H p=>⟨xs,hl _ H p,gJ _⟩) (λ i x H H' hi y p=>by
  obtain ⟨e,y⟩:=y;subst e;exact hs i x _ (y xs (hl i _ p)) p) hd
theorem compG_range {lo:Int} {n:Nat} (Pv:Nat->Hp->Prop) (h0:Pv 0 (upd H₀ l (.lst [])))
  (hs:∀ i H,i<n->Pv i H->∀ zs:St,zs.length=k->g (.int (lo+i)) (zs ++ ρ) H λ σ2 H2=>(∃ zs':St,zs'.length=k/\σ2=zs' ++ ρ)/\tc σ2 H2 λ b H3=>if b=true then te σ2 H3 λ y H4=>∃ ys,H4 l=some (.lst ys)/\ys.length<sizeLine/\eZ n Pv i (upd H4 l (.lst (ys++[y]))) else eZ n Pv i H3)
  (hd:∀ H,Pv n H->R H) :
  ∃ W:Nat->Nat->Hp->Prop,(∃ m,W 0 m (upd H₀ l (.lst [])))/\∀ i m H,W i m H->
   ((Itr lo n).stop i H/\R H)∨((Itr lo n).go i H/\∀ x H',(Itr lo n).yld i H x H'->∀ zs:St,zs.length=k->g x (zs ++ ρ) H' λ σ2 H2=>(∃ zs':St,zs'.length=k/\σ2=zs' ++ ρ)/\tc σ2 H2 λ b H3=>if b=true then te σ2 H3 λ y H4=>∃ ys,H4 l=some (.lst ys)/\ys.length<sizeLine/\∃ m',m'<m/\W (i+1) m' (upd H4 l (.lst (ys++[y]))) else ∃ m',m'<m/\W (i+1) m' H3):=
 gD (n:=n) Pv h0 (λ i H hi p=>hi) (λ H p=>gJ _) (λ i x H H' hi y p=>by
  obtain ⟨e,y⟩:=y;subst e y;exact hs i _ hi p) hd
theorem cX {a:Addr} {o:Obj} {kvs:List (Key × V)} (Pv:Nat->Hp->Prop) (h0:Pv 0 (upd H₀ l (.lst []))) (hl:∀ i H,Pv i H->H a=some (.frz o (.dK kvs)))
  (hs:∀ i kv H,kvs[i]?=some kv->Pv i H->∀ zs:St,zs.length=k->g (kV kv.1) (zs ++ ρ) H λ σ2 H2=>(∃ zs':St,zs'.length=k/\σ2=zs' ++ ρ)/\tc σ2 H2 λ b H3=>if b=true then te σ2 H3 λ y H4=>∃ ys,H4 l=some (.lst ys)/\ys.length<sizeLine/\eZ kvs.length Pv i (upd H4 l (.lst (ys++[y]))) else eZ kvs.length Pv i H3)
  (hd:∀ H,Pv kvs.length H->R H) :
  ∃ W:Nat->Nat->Hp->Prop,(∃ m,W 0 m (upd H₀ l (.lst [])))/\∀ i m H,W i m H->
   ((Itd a o kvs).stop i H/\R H)∨((Itd a o kvs).go i H/\∀ x H',(Itd a o kvs).yld i H x H'->∀ zs:St,zs.length=k->g x (zs ++ ρ) H' λ σ2 H2=>(∃ zs':St,zs'.length=k/\σ2=zs' ++ ρ)/\tc σ2 H2 λ b H3=>if b=true then te σ2 H3 λ y H4=>∃ ys,H4 l=some (.lst ys)/\ys.length<sizeLine/\∃ m',m'<m/\W (i+1) m' (upd H4 l (.lst (ys++[y]))) else ∃ m',m'<m/\W (i+1) m' H3):=
 gD (n:=kvs.length) Pv h0 (λ i H hi p=>⟨hl i H p,hi⟩) (λ H p=>⟨hl _ H p,gJ _⟩) (λ i x H H' hi y p=>by
  obtain ⟨e,kv,hkv,ex⟩:=y;subst e ex;exact hs i kv _ hkv p) hd
end
theorem g1 {v:V} {ρ:St} {H:Hp} {Q:St->Hp->Prop} (h:Q (some v :: ρ) H):∀ zs:St,zs.length=1->gName 0 v (zs ++ ρ) H Q:=λ zs hz=>by
 match zs,hz with
 | [z],_=>exact h
theorem yes {σ:St} {H:Hp} {A B:Hp->Prop} (h:A H):tYes σ H (λ b H3=>if b=true then A H3 else B H3):=by
 show if true=true then A H else B H
 rw [if_pos rfl];exact h
end L2
namespace L2
open PySem PySem.Spec PyProof.Rows
section
variable {X:Cx}
noncomputable def Iti (a:Addr) (o:Obj) (kvs:List (Key × V)):It:=
 ⟨λ i H=>H a=some (.frz o (.dK kvs))/\i<kvs.length,λ i H x H'=>∃ kv t,kvs[i]?=some kv/\H t=none/\x=.ref t/\H'=upd H t (.tup [kV kv.1,kv.2]),λ i H=>H a=some (.frz o (.dK kvs))/\kvs.length<=i⟩
theorem fk:entryFor table "dict_itemiterator.__iter__"=some Builtin.«dict_keyiterator.__iter__»:=entryFor_alias (id':="dict_keyiterator.__iter__") (by kernel_rfl) rfl (by decide +kernel) (by kernel_rfl)
theorem Inv.trackI {pins:List (Addr × Obj)} {σ:St} {H:Hp} {s:Shared} {t:Addr} {o:HO} (I:Inv X pins σ H s) (h0:X.s₀.heap.objs.size<=t) (hn:H t=none) (hL:t≠X.env.locals) (hc:∀ x c,X.env.cells.lookup x=some c->c≠t) (hp:∀ p∈X.pn++pins,p.1≠t) (hok:HOk X.prog X.w (upd H t o) s.heap):Inv X pins σ (upd H t o) s:=by
 have up:∀ c,c≠t->H c=none->upd H t o c=none:=λ c n r=>by rw [af n];exact r
 refine ⟨I.ok,I.os,I.bare,⟨I.base.keep,I.base.slot,λ b ob e n hx=>up b (iw (ic (hJ e) h0)) (I.base.free b ob e n hx),I.base.there,λ b xs e=>?_,λ b ob z e=>?_,λ b ps e=>?_⟩,I.loc,I.cell,up _ hL.symm I.free,λ x c e=>up _ (hc x c e) (I.freeC x c e),λ p hp'=>?_,hok,I.len⟩
 ·have q:=I.base.tups b xs e;rw [af (aj q hn)];exact q
 ·have q:=I.base.frzs b ob z e;rw [af (aj q hn)];exact q
 ·obtain ⟨m,q⟩:=I.base.tbls b ps e;exact ⟨m,by rw [af (aj q hn)];exact q⟩
 ·obtain ⟨e,n,r⟩:=I.pin p hp';exact ⟨e,up _ (hp p hp') n,r⟩
theorem turn_items {P:Program} {w:World} {K:W.Frag} {elts:List Expr} {x1} {tpos:Pos} (a it:Addr) (o:Obj) (kvs:List (Key × V)) {es:Array DictEntry} {ep:Nat} (hd:o.data=.dict es ep) :
  Turn P w K (.Tuple elts x1 tpos) (Iti a o kvs) [it] it (λ i h=>∃ ok ov,IsItemIter h it a i kvs.length ep ok ov) where
 mem:=by simp
 obj:=λ i h st b hb=>by
  have e:b=it:=by simpa using hb
  subst e;obtain ⟨ok,ov,e⟩:=st
  exact ⟨_,e,λ v z=>by
   have z':Data.fields _=Data.cell v:=z
   cases z'⟩
 keep:=λ i h h' st k=>let ⟨ok,ov,e⟩:=st;⟨ok,ov,k it (by simp) _ e⟩
 item:=by
  intro X hP hw hK hc i pins s σ H E I hf st hg;subst hP hw hK;obtain ⟨ha,hi⟩:=hg;obtain ⟨ho,hz,hs,vs,r,o',es',ep',e1,e2,e3,e4,e5,e6⟩:=I.hok a _ ha;rw [ho] at e1;cases e1;rw [hd] at e3;cases e3;have hx:kvs[i]?=some kvs[i]:=gX hi;obtain ⟨v,hv,rv⟩:=KV.get r hx;obtain ⟨f0,f1,f2,f3,f4,f5⟩:=hf it (by simp);obtain ⟨ok,ov,st⟩:=st;have st0:IsItemIter s.heap it a i vs.length ep ok ov:=by rw [<- r.length];exact st
  refine wpAny_pyNext_items_item st0 ⟨o,es,ho,e2,hd,e4,e5,e6⟩ hv λ key h' hk st' ht hz' kk=>?_;rw [<- r.length] at st';refine ⟨_,rfl,?_⟩;refine wpAny_letOwnedTupleGo_items (s:={ s with heap:=h' }) st' λ h2 st2 sb=>?_;have nt:s.heap.objs.size≠it:=Nat.ne_of_gt (hJ st0);have I1:Inv X pins σ H { s with heap:=h2,toks:=s.toks }:=I.turned (t':=s.toks) (λ b o hb e=>(sb.2 b hb).trans (kk b o hb e)) f0 f1 f3 f4 f5;have hn:H s.heap.objs.size=none:=I.hok.fresh (gJ _);have ht2:h2.get? s.heap.objs.size=some { cls:=.type "tuple",data:=.seq #[key,v] }:=(sb.2 _ nt).trans ht
  have hok:HOk X.prog X.w (upd H s.heap.objs.size (.tup [kV (kvs[i]).1,(kvs[i]).2])) h2:=λ b u e=>by
   by_cases hb:b=s.heap.objs.size
   ·subst hb;rw [ae] at e
    cases e;exact ⟨zL2,[key,v],.cons (is_kV hk) (.cons rv .nil),_,ht2,rfl,_,rfl⟩
   ·rw [af hb] at e;exact (I1.hok b u e).stay (λ _ _ _ q=>q) (λ c q=>by rw [af (aj q hn)];exact q) λ c xs q=>by rw [af (aj q hn)];exact q
  have I2:=I1.trackI (t:=s.heap.objs.size) I.sz hn (Nat.ne_of_gt I.lt) (λ x c e z=>by
   obtain ⟨v,q⟩:=I.cell x c e;exact absurd q.lt (by rw [z];exact i4 _)) (λ p hp z=>absurd (hJ (I.pin p hp).1) (by rw [z];exact i4 _)) hok
  refine ⟨.ref s.heap.objs.size,_,I2,rfl,⟨_,_,hx,hn,rfl,rfl⟩,⟨_,_,st2⟩,λ b hb=>?_⟩;have e:b=it:=by simpa using hb
  subst e;rw [af nt.symm];exact f0
 done:=by
  intro X hP hw hK hc i pins s σ H E I hf st hg;subst hP hw hK;obtain ⟨ha,hi⟩:=hg;obtain ⟨ho,hz,hs,vs,r,o',es',ep',e1,e2,e3,e4,e5,e6⟩:=I.hok a _ ha;rw [ho] at e1;cases e1;rw [hd] at e3;cases e3;obtain ⟨f0,f1,f2,f3,f4,f5⟩:=hf it (by simp);obtain ⟨ok,ov,st⟩:=st;have st0:IsItemIter s.heap it a i vs.length ep ok ov:=by rw [<- r.length];exact st
  exact wpAny_pyNext_items_end (I.ok.hd hc) st0 ⟨o,es,ho,e2,hd,e4,e5,e6⟩ (List.getElem?_eq_none (by rw [<- r.length];exact hi)) λ h' eb=>⟨rfl,I.turned (t':=s.toks) (λ b o hb e=>eb b o hb e) f0 f1 f3 f4 f5⟩
 self:=λ _ _ _ _ _ st h=>by
  obtain ⟨ok,ov,st⟩:=st;have hT:Shared.TypeIs _ (.ref it) "dict_itemiterator":=⟨_,st,rfl⟩;refine wpAny_pyIter_slot hT F.slot_dict_itemiterator_iter (wpAny_call_entry F.slot_dict_itemiterator_iter hT fk ?_ (F.args_dict_itemiterator_iter_1 _));show wpAny _ _ (ret (.ref it)) _ _ _;exact iE ⟨_,rfl,"dict_itemiterator",_,hT,F.slot_dict_itemiterator_next.lookup,h⟩
noncomputable def iItems (to:TE):TI:=λ σ H R=>to σ H λ x H1=>∃ a kvs,x=.ref a/\H1 a=some (.dK kvs)/\∀ o,R (Iti a o kvs) (upd H1 a (.frz o (.dK kvs)))
theorem cP {elts:List Expr} {x1} {tpos apos cpos:Pos} {o:Expr} {to:TE} (ho:PE X o to) (hbase:attributeBase o "items" X.env (eval o X.env)=eval o X.env:=by rfl) (hline:(apos.endLine == cpos.line)=true:=by rfl) :
  PI X (.Tuple elts x1 tpos) (.Call (.Attribute o "items" apos) [] [] cpos) (iItems to):=by
 intro pins s σ H R I h;refine wpAny_Call_method0_late hbase hline (thn (ho pins s σ H _ I h) λ v s1 ⟨x,H1,I1,r1,a,kvs,e,ha,q⟩=>?_);subst e
 cases r1;obtain ⟨hz,hs,vs,r,o,es,ep,e1,e2,e3,e4,e5,e6⟩:=dk_of I1.hok ha;have hm:s1.heap.DictOf (aV X.prog X.w) a vs:=⟨o,es,ep,e1,e2,e3,e4,e5,e6⟩;obtain ⟨h1,h2⟩:=tyV_is (T:="dict") I1 (x:=.ref a) rfl (.inr (.inr (.inl ⟨rfl,.inl ⟨kvs,ha⟩⟩)));refine ⟨"dict","dict.items",F.plainAttrs_dict,F.slot_dict_items,F.type_dict_items,h1,h2,?_⟩;have I2:Inv X pins σ (upd H1 a (.frz o (.dK kvs))) s1:=I1.freeze ha True.intro e1;refine method_meetsIn F.slot_dict_items F.entry_dict_items rfl (PySem.evalArgs_none ⟨rfl,hm.typeIs,F.args_dict_items_1 _,_,meets_dict_items (aV X.prog X.w) a hs,⟨vs,hm⟩,?_⟩);have I3:Inv X pins σ (upd H1 a (.frz o (.dK kvs))) { s1 with heap:=s1.heap.push { cls:=.type "dict_items",data:=.fields #[.ref a] } }:=I2.kept (t':=s1.toks) λ b o e=>gO _ e;refine wpAny_pyIter_items (knd:=aV X.prog X.w) (d:=a) (kvs:=vs) (ep:=ep) ⟨_,ib _ rfl,rfl,rfl⟩ ⟨o,es,gO _ e1,e2,e3,e4,e5,e6⟩ ?_;refine ⟨_,[_],_,_,_,rfl,I3.kept (t':=s1.toks) λ b o e=>gO _ e,turn_items a _ o kvs e3,⟨.none,.none,?_⟩,λ b hb=>?_,q o⟩
 ·rw [r.length];exact ib _ rfl
 ·have e:=gN.mp hb;subst e;exact I3.fpOk (gJ _) (I3.hok.fresh (gJ _))
end
theorem cH {a:Addr} {o:Obj} {kvs:List (Key × V)} {g:TG} {tb:TS} {D:Ends} {σ:St} {H:Hp} (Pv:Nat->St->Hp->Prop) (h0:Pv 0 σ H) (hl:∀ i σ H,i<=kvs.length->Pv i σ H->H a=some (.frz o (.dK kvs)))
  (hs:∀ i kv t σ H,kvs[i]?=some kv->H t=none->Pv i σ H->g (.ref t) σ (upd H t (.tup [kV kv.1,kv.2])) λ σ2 H2=>tb { D with nx:=Pv (i+1),ct:=Pv (i+1),bk:=D.nx } σ2 H2) (hd:∀ σ H,Pv kvs.length σ H->D.nx σ H) :
  ∃ W:Nat->Nat->St->Hp->Prop,(∃ m,W 0 m σ H)/\∀ i m σ H,W i m σ H->
   ((Iti a o kvs).stop i H/\D.nx σ H)∨((Iti a o kvs).go i H/\∃ N:St->Hp->Prop,(∀ σ' H',N σ' H'->∃ m',m'<m/\W (i+1) m' σ' H')/\∀ x H',(Iti a o kvs).yld i H x H'->g x σ H' λ σ2 H2=>tb { D with nx:=N,ct:=N,bk:=D.nx } σ2 H2):=by
 refine ⟨λ i m σ H=>m=kvs.length-i/\i<=kvs.length/\Pv i σ H,⟨kvs.length,by simp,gR _,h0⟩,?_⟩;rintro i m σ H ⟨rfl,hi,p⟩;have q:=hl i σ H hi p;by_cases hlt:i<kvs.length
 ·refine .inr ⟨⟨q,hlt⟩,Pv (i+1),λ σ' H' p'=>⟨kvs.length-(i+1),by omega,rfl,hlt,p'⟩,λ x H' y=>?_⟩;obtain ⟨kv,t,hkv,ht,ex,eh⟩:=y;subst ex eh;exact hs i kv t σ _ hkv ht p
 ·have e:i=kvs.length:=by omega
  subst e;exact .inl ⟨⟨q,gJ _⟩,hd σ H p⟩
end L2
namespace L2
open PySem PySem.Spec PyProof.Rows
theorem vals_idx:∀ {xs:List V} {us:List Value},xs.length=us.length->(∀ (j:Nat) (x:V) (u:Value),xs[j]?=some x->us[j]?=some u->RelV x u)->Vals xs us
 | [],[],_,_=>.nil
 | [],_::_,h,_=>by cases h
 | _::_,[],h,_=>by cases h
 | x::xs,u::us,h,k=>.cons (k 0 x u rfl rfl) (vals_idx (Nat.succ.inj h) λ j y w a b=>k (j+1) y w (by simpa using a) (by simpa using b))
section
variable {X:Cx}
theorem b8 (hh:X.A.handled=none):dj X (.type "list") (λ xs H Q=>∃ p kvs,xs=[.ref p]/\Rd H p (.dK kvs)/\∀ l,H l=none->Q (.ref l) (upd H l (.lst (kvs.map λ kv=>kV kv.1)))):=by
 intro pins s σ H xs us Q I r h;obtain ⟨p,kvs,rfl,hp,q⟩:=h;obtain ⟨u,rfl,rx⟩:=fu r
 cases rx;obtain ⟨hz,hs,vs,kv,hD⟩:=eD I.hok hp;obtain ⟨ep,hat⟩:=hD.dictAt;have el:=kv.length;refine PySem.W.kdl_call (PySem.W.kdl_dict (knd:=aV X.prog X.w) (kvs:=vs) (ep:=ep) hs) hh hat (by rw [<- el];exact hz) λ h' tk acc c hk hD' hacc=>?_;obtain ⟨e1,e2⟩:=hacc;refine ⟨.ref s.heap.objs.size,_,I.laid (t':=tk) hk (gJ _) (show ObjOk X.prog X.w _ h' _ (.lst (kvs.map λ kv=>kV kv.1)) from ⟨by rw [gG];exact hz,acc.toList,c,vals_idx (by rw [gG,el,<- e1];simp) λ j x w a b=>?_,by simpa using hD'⟩),rfl,q _ (I.hok.fresh (gJ _))⟩;rw [gK] at a
 cases e:kvs[j]? with
 | none=>rw [e] at a;cases a
 | some z=>
  rw [e] at a
  cases a;obtain ⟨v,hv,_⟩:=KV.get kv e;obtain ⟨k,y,hk,hi⟩:=e2 j w (by simpa using b);rw [hv] at hk
  cases hk;exact is_kV hi
noncomputable def ViewO (v d:Addr):HO:=.ext λ h=>h.IsValuesView v d
noncomputable def rValues:V->List V->Hp->VK->Prop:=λ x vs H Q=>∃ a kvs,x=.ref a/\vs=[]/\Rd H a (.dK kvs)/\∀ v,H v=none->Q (.ref v) (upd H v (ViewO v a))
theorem mt_values:MtM X "dict.values" rValues:=by
 intro pins s σ H x vs v us Q I rx rv h;obtain ⟨a,kvs,rfl,rfl,ha,q⟩:=h
 cases rx
 cases rv;obtain ⟨hz,hs,ws,kv,hD⟩:=eD I.hok ha;refine call_meetsIn PySem.F.slot_dict_values hD.typeIs PySem.F.entry_dict_values (PySem.F.args_dict_values_1 _) (meets_dict_values (aV X.prog X.w) a hs) ⟨⟨ws,hD⟩,?_⟩;have e:(s.heap.push { cls:=.type "dict_values",data:=.fields #[.ref a] }).get? s.heap.objs.size=some { cls:=.type "dict_values",data:=.fields #[.ref a] }:=ib _ rfl;refine ⟨.ref s.heap.objs.size,_,I.laid (t':=s.toks) (λ b o e=>gO _ e) (gJ _) (show ObjOk X.prog X.w _ _ _ (ViewO _ a) from ⟨⟨_,e,rfl,rfl⟩,⟨_,e⟩,λ h1 h2 z k=>?_⟩),rfl,q _ (I.hok.fresh (gJ _))⟩;obtain ⟨o,ho,c⟩:=z;exact ⟨o,k _ ho,c⟩
theorem call_list_vals (hh:X.A.handled=none):dj X (.type "list") (λ xs H Q=>∃ v a kvs,xs=[.ref v]/\H v=some (ViewO v a)/\Rd H a (.dK kvs)/\∀ l,H l=none->Q (.ref l) (upd H l (.lst (kvs.map (·.2))))):=by
 intro pins s σ H xs us Q I r h;obtain ⟨v,p,kvs,rfl,hv,hp,q⟩:=h;obtain ⟨u,rfl,rx⟩:=fu r
 cases rx;obtain ⟨hz,hs,vs,kv,hD⟩:=eD I.hok hp;obtain ⟨ep,hat⟩:=hD.dictAt;obtain ⟨hview,_⟩:=(show ObjOk X.prog X.w H s.heap v (ViewO v p) from I.hok v _ hv);have el:=kv.length;refine PySem.W.kdl_call (PySem.W.kdl_values (knd:=aV X.prog X.w) (kvs:=vs) (ep:=ep)) hh ⟨hview,hat⟩ (by rw [<- el];exact hz) λ h' tk acc c hk hD' hacc=>?_;obtain ⟨e1,e2⟩:=hacc;refine ⟨.ref s.heap.objs.size,_,I.laid (t':=tk) hk (gJ _) (show ObjOk X.prog X.w _ h' _ (.lst (kvs.map (·.2))) from ⟨by rw [gG];exact hz,acc.toList,c,vals_idx (by rw [gG,el,<- e1];simp) λ j x w a b=>?_,by simpa using hD'⟩),rfl,q _ (I.hok.fresh (gJ _))⟩;rw [gK] at a
 cases e:kvs[j]? with
 | none=>rw [e] at a;cases a
 | some z=>
  rw [e] at a
  cases a;obtain ⟨y,hy,ry⟩:=KV.get kv e;obtain ⟨k,hk⟩:=e2 j w (by simpa using b);rw [hy] at hk
  cases hk;exact ry
end
end L2
namespace L2
open PySem PySem.Spec PyProof.Rows
section
variable {X:Cx}
theorem call_dict_copy:dj X (.type "dict") (λ xs H Q=>∃ p kvs,xs=[.ref p]/\Rd H p (.dK kvs)/\∀ l,H l=none->Q (.ref l) (upd H l (.dK kvs))):=by
 intro pins s σ H xs us Q I r h;obtain ⟨p,kvs,rfl,hp,q⟩:=h;obtain ⟨u,rfl,rx⟩:=fu r
 cases rx;exact d_copyOf I hp λ l s' nl I'=>⟨.ref l,_,I',rfl,q l nl⟩
end
section
variable {l:Addr} {k:Nat} {g:TG} {tc:TT} {te:TE} {ρ:St} {R:Hp->Prop} {H₀:Hp}
theorem compG_items {a:Addr} {o:Obj} {kvs:List (Key × V)} (Pv:Nat->Hp->Prop) (h0:Pv 0 (upd H₀ l (.lst []))) (hl:∀ i H,Pv i H->H a=some (.frz o (.dK kvs)))
  (hs:∀ i kv t H,kvs[i]?=some kv->H t=none->Pv i H->∀ zs:St,zs.length=k->g (.ref t) (zs ++ ρ) (upd H t (.tup [kV kv.1,kv.2])) λ σ2 H2=>(∃ zs':St,zs'.length=k/\σ2=zs' ++ ρ)/\tc σ2 H2 λ b H3=>if b=true then te σ2 H3 λ y H4=>∃ ys,H4 l=some (.lst ys)/\ys.length<sizeLine/\eZ kvs.length Pv i (upd H4 l (.lst (ys++[y]))) else eZ kvs.length Pv i H3)
  (hd:∀ H,Pv kvs.length H->R H) :
  ∃ W:Nat->Nat->Hp->Prop,(∃ m,W 0 m (upd H₀ l (.lst [])))/\∀ i m H,W i m H->
   ((Iti a o kvs).stop i H/\R H)∨((Iti a o kvs).go i H/\∀ x H',(Iti a o kvs).yld i H x H'->∀ zs:St,zs.length=k->g x (zs ++ ρ) H' λ σ2 H2=>(∃ zs':St,zs'.length=k/\σ2=zs' ++ ρ)/\tc σ2 H2 λ b H3=>if b=true then te σ2 H3 λ y H4=>∃ ys,H4 l=some (.lst ys)/\ys.length<sizeLine/\∃ m',m'<m/\W (i+1) m' (upd H4 l (.lst (ys++[y]))) else ∃ m',m'<m/\W (i+1) m' H3):=
 gD (n:=kvs.length) Pv h0 (λ i H hi p=>⟨hl i H p,hi⟩) (λ H p=>⟨hl _ H p,gJ _⟩) (λ i x H H' hi y p=>by
  obtain ⟨kv,t,hkv,ht,ex,eh⟩:=y;subst ex eh;exact hs i kv t _ hkv ht p) hd
end
section
variable {X:Cx} {CX:CXT} {j:Nat} {E:XK} {m:Str} {pos apos:Pos} {e o:Expr} {es:List Expr} {ta:TE} {t:TA}
theorem pe_mtDK {pl:Sem Bool} {P:Program} {w:World} {K:W.Frag} {mg:Str->Option Value} {base:Heap} (hP:X.prog=P) (hw:X.w=w) (hK:X.K=K) (hmg:X.mg=mg) (hb:X.base=base) (he:PE X o ta) (hr:Room j X.A) (hx:cb CX X E) (ha:PA X (e::es) t)
  (hst:starEach (e::es) X.env=(false,eval e X.env)::starEach es X.env:=by rfl) (hpl:(backTo pos (starEach es X.env)).any (·.1)=false:=by rfl)
  (ht:eval (.Call (.Attribute o m apos) (e::es) [] pos) X.env=(do
   let ov <- eval o X.env
   standAt apos.atName
   let (f,first) <- holding [ov] (getMethod ov m pl)
   callWith pos f first (backTo pos (starEach (e::es) X.env)) (backToKw pos (keywordEach [] X.env))):=by rfl):PE X (.Call (.Attribute o m apos) (e::es) [] pos) (tMethD P w K mg base CX m j E ta t):=by
 subst hP hw hK hmg hb;exact bV he hr hx ha hst hpl ht
theorem pg_tupK {K:W.Frag} {es:List Expr} {k:Nat} {t:TGs} {n:Nat} (hK:X.K=K) (hc:X.calm=true) (h:PGs X es t)
  (hn:(assignEach es X.env).length=n:=by rfl) (hst:(assignEach es X.env).findIdx? (·.1)=none:=by rfl):PG X (.Tuple es k pos) (gTup K n t):=by
 subst hK;exact eQ hc h hn hst
end
section
variable {X:Cx}
end
end L2
namespace L2
open PySem PySem.Spec PyProof.Rows
section
variable {X:Cx}
variable {j:Nat} {m:Str} {pos apos:Pos} {e o:Expr} {es:List Expr} {ta:TE} {t:TA}
end
end L2
namespace L2
open PySem PySem.Spec PyProof.Rows
theorem eqV_str (x y:Str):eqV (.str x) (.str y)=decide (x=y):=by
 unfold eqV;by_cases h:x=y
 ·subst h;simp
 ·simp [h]
theorem ne_idx {y:Str}:∀ {ts:List Str} {m:Nat},m<ts.idxOf y->ts[m]?≠some y
 | [],_,_=>by simp
 | t::ts,m,h=>by
  rw [List.idxOf_cons] at h;by_cases e:t=y
  ·simp [e] at h
  ·have hb:(t == y)=false:=by simpa using e
   rw [hb] at h
   cases m with
   | zero=>simpa using e
   | succ m=>simpa using ne_idx (ts:=ts) (m:=m) (by simpa using h)
section
variable {X:Cx}
end
section
variable {prog:Program} {w:World} {A:Around}
variable {E:Value->Shared->Prop} {s:Shared}
noncomputable def bI (led:Bool):Obj:={ cls:=.type "set",dict:=none,data:=.set #[] 0 (.fresh 0 0 led) }
end
section
variable {X:Cx}
inductive IrNeL (K:W.Frag) (x:V) (y:V) (H:Hp) (Q:VK):Prop
 | mk (p:_) (q:_) (xs:_) (ys:_) (h1:x=.ref p) (h2:y=.ref q) (h3:SqL K H p xs) (h4:SqL K H q ys) (h5:xs.all flatV=true) (h6:ys.all flatV=true) (h7:Q (.bl (!eqVs xs ys)) H):IrNeL K x y H Q
end
end L2
namespace L2
open PySem PySem.Spec PyProof.Rows
noncomputable def dput (acc:List Str) (x:Str):List Str:=if x∈acc then acc else acc++[x]
noncomputable def cw (ts:List Str):List Str:=ts.foldl dput []
theorem dset_snoc (ts:List Str) (x:Str):cw (ts++[x])=if x∈cw ts then cw ts else cw ts++[x]:=by
 unfold cw;rw [iW];rfl
theorem dgo_mem {x:Str}:∀ {ts acc:List Str},x∈ts.foldl dput acc↔x∈acc∨x∈ts
 | [],acc=>by simp
 | t::ts,acc=>by
  rw [i8,dgo_mem,hV];unfold dput
  split
  ·rename_i h;constructor
   ·exact λ z=>z.imp id .inr
   ·rintro (z | rfl | z)
    ·exact .inl z
    ·exact .inl h
    ·exact .inr z
  ·rw [g7,gN,or_assoc]
theorem mem_dset {x:Str} {ts:List Str}:x∈cw ts↔x∈ts:=by
 unfold cw;rw [dgo_mem];simp
theorem dgo_len:∀ (ts acc:List Str),(ts.foldl dput acc).length<=acc.length+ts.length/\((ts.foldl dput acc).length=acc.length+ts.length↔ts.Nodup/\∀ x∈ts,¬ x∈acc)
 | [],acc=>by simp
 | t::ts,acc=>by
  rw [i8,ia,iC];obtain ⟨h1,h2⟩:=dgo_len ts (dput acc t);unfold dput at h1 h2 ⊢;by_cases m:t∈acc
  ·rw [if_pos m] at h1 h2 ⊢;exact ⟨by omega,λ z=>by omega,λ z=>absurd m (z.2 t ie)⟩
  ·rw [if_neg m] at h1 h2 ⊢;rw [hE] at h1 h2;simp only [iX] at h1 h2;refine ⟨by omega,λ z=>?_,λ z=>?_⟩
   ·obtain ⟨a1,a2⟩:=h2.mp (by omega);refine ⟨⟨λ q=>a2 t q (g8 _ (gN.mpr rfl)),a1⟩,λ x hx q=>?_⟩;rcases hV.mp hx with rfl | hx
    ·exact m q
    ·exact a2 x hx (gU _ q)
   ·have:=h2.mpr ⟨z.1.2,λ x hx q=>?_⟩
    ·omega
    ·rcases g7.mp q with q | q
     ·exact z.2 x (g6 _ hx) q
     ·rw [gN.mp q] at hx;exact z.1.1 hx
theorem dset_len (ts:List Str):(cw ts).length<=ts.length:=by
 have:=(dgo_len ts []).1
 unfold cw;simpa using this
theorem dset_nodup (ts:List Str):(cw ts).length=ts.length↔ts.Nodup:=by
 have:=(dgo_len ts []).2
 unfold cw;simpa using this
section
variable {prog:Program} {w:World} {A:Around}
theorem setD_loop {R:Result->Shared->Prop} {it:Addr} {fp wr:List Addr} {G:Array GenState->Array GenState->Prop} {Pv:Nat->Value->Prop} {St:Nat->Shared->Prop} {ts:List Str} (W:WalksS prog w A.in1 it fp wr G ts.length Pv St)
  (hv:∀ i v,Pv i v->∃ x t,ts[i]?=some x/\v=.str x t) (hb:ts.length+1<scanBound) {p:Addr} (hp:p ∉ fp) :
  ∀ (k i:Nat) (s:Shared),i+k=ts.length->St i s->s.heap.SetOf (PySem.strKind prog w) p (λ x=>decide (x∈ts.take i)) (cw (ts.take i)).length->
   (∀ s',Moved (p::wr) G s s'->s'.heap.SetOf (PySem.strKind prog w) p (λ x=>decide (x∈ts)) (cw ts).length->R (.ok (.ret .none)) s')->
   codeAny (model prog w) A (.builtin "set.update.loop" ⟨[.ref p,.ref it],[]⟩) R s
 | 0,i,s,hk,st,hS,hR=>by
  have hi:i=ts.length:=by omega
  refine codeAny_builtin PyProof.Rows.F.entry_set_update_loop ?_;rw [Around.under_plainId PyProof.Rows.F.plain_set_update_loop _];show wpAny _ A.in1 (pyNext (.ref it) >>= _) _ _ s;rw [hi] at st;refine ip (W.done s _ _ st λ s' hm=>?_);show wpAny _ A.in1 (ret Value.none) _ _ s';refine iE (hR s' (hm.mono λ b h=>g6 _ h) ?_);rw [hi,gP] at hS;obtain ⟨o,es,ep,t,ho,c⟩:=hS;exact ⟨o,es,ep,t,hm.heap p _ (λ h=>hp (W.sub _ h)) ho,c⟩
 | k+1,i,s,hk,st,hS,hR=>by
  refine codeAny_builtin PyProof.Rows.F.entry_set_update_loop ?_;rw [Around.under_plainId PyProof.Rows.F.plain_set_update_loop _];show wpAny _ A.in1 (pyNext (.ref it) >>= _) _ _ s;refine ip (W.item i s _ _ (by omega) st λ v s1 h1 st1 hm=>?_);obtain ⟨x,t,ex,rfl⟩:=hv i v h1
  have hS1:s1.heap.SetOf (PySem.strKind prog w) p (λ x=>decide (x∈ts.take i)) (cw (ts.take i)).length:=by
   obtain ⟨o,es,ep,t,ho,c⟩:=hS;exact ⟨o,es,ep,t,hm.heap p _ (λ h=>hp (W.sub _ h)) ho,c⟩
  have dl:=dset_len (ts.take i);rw [gS] at dl;show wpAny _ A.in1 (holding [Value.str x t] (setAdd p (.str x t)) >>= _) _ _ s1;refine ip (wpAny_holding ?_);unfold setAdd;refine wpAny_holding (ip ((PySem.strKind prog w).pyHash (k:=x) (PySem.strKind_is _ _ _ _) ?_));refine wpAny_setAddHashed_of (knd:=PySem.strKind prog w) (s:={ s1 with toks:=s1.toks+1 }) (PySem.strKind_is _ _ _ _) rfl hS1 (by omega) λ h' sb hS2=>?_
  have hS3:h'.SetOf (PySem.strKind prog w) p (λ x=>decide (x∈ts.take (i+1))) (cw (ts.take (i+1))).length:=by
   refine PyProof.Rows.SetOf_congr hS2 (λ z=>?_) ?_
   ·rw [gQ,ex,gY,Bool.eq_iff_iff];simp
   ·rw [gQ,ex,gY,dset_snoc];by_cases m:x∈ts.take i
    ·rw [if_pos (hU m),if_pos (mem_dset.mpr m)]
    ·rw [if_neg (by rw [gT m];decide),if_neg (λ z=>m (mem_dset.mp z)),hE];rfl
  refine iE ⟨plainId_quiet PyProof.Rows.F.plain_set_update_loop _,setD_loop W hv hb hp k (i+1) _ (by omega) (W.frame _ s1 _ _ st1 (Nat.le_succ _) λ b hb o e=>?_) hS3 λ s2 hm2 hS4=>?_⟩
  ·rw [sb.2 b λ z=>hp (z ▸ hb)];exact e
  ·refine hR s2 (Moved.trans W.gtrans ((hm.mono λ b h=>g6 _ h).then_heap (Nat.le_succ _) λ b o hb e=>?_) hm2) hS4;rw [sb.2 b λ z=>hb (z ▸ ie)];exact e
variable {E:Value->Shared->Prop} {s:Shared}
theorem init_setD {l:Addr} {its:List Value} {ts:List Str} {led:Bool} (hh:A.handled=none) (hl:s.heap.IsList l its.toArray) (hv:Vals (ts.map V.str) its) (hb:ts.length+1<scanBound)
  {R:Value->Shared->Prop} (h:∀ (h':Heap) (tk:Nat),h'.SetOf (PySem.strKind prog w) s.heap.objs.size (λ x=>decide (x∈ts)) (cw ts).length->(∀ b o,s.heap.get? b=some o->h'.get? b=some o)->R .none { s with heap:=h',toks:=tk }) :
  wpAny (model prog w) A (Builtin.«set.__init__» ⟨[.ref s.heap.objs.size,.ref l],[]⟩) (λ fin s'=>∃ r,fin=.done (.ret r)/\R r s') E { s with heap:=s.heap.push (bI led) }:=by
 obtain ⟨⟨cls,dd,data,sl⟩,ho,hc,n,hd⟩:=id hl;simp only at hc hd;subst hc hd;have hol:(s.heap.push (bI led)).get? l=some _:=gO _ ho;have z1:=PySem.F.sub_list_set;have z2:=PySem.F.sub_list_frozenset;have z3:(Value.type "list" == Value.type "dict")=false:=by decide
 unfold Builtin.«set.__init__» noKeywords Builtin.Frozenset.updateFrom;generalize hPI:pyIter=PI
 wp_walk
 subst hPI;have lt:=hJ ho;have hl1:(s.heap.push (bI led)).IsList l its.toArray:=⟨_,hol,rfl,n,rfl⟩;have hS:(s.heap.push (bI led)).get? s.heap.objs.size=some (bI led):=ib _ rfl;refine wpAny_pyIter_list hl1 (ip (wpAny_runValue ?_));have el:=hv.length;rw [gG] at el;have n1:l≠(s.heap.push (bI led)).objs.size:=by rw [Heap.size_push];exact iw (Nat.lt_succ_of_lt lt)
 have n2:s.heap.objs.size ∉ [(s.heap.push (bI led)).objs.size,l]:=by
  rw [Heap.size_push];intro m;rcases hV.mp m with z | z
  ·exact absurd z (iw (Nat.lt_succ_self _))
  ·exact absurd (gN.mp z) (Nat.ne_of_gt lt)
 have e2:its.toArray.size=ts.length:=by rw [ir,el]
 have W:=(Walks.list (prog:=prog) (w:=w) (A:=A.in1) (by simpa using hh) (s.heap.push (bI led)).objs.size l n1 its.toArray).toS;rw [e2] at W;refine setD_loop W (λ i v hvi=>?_) hb n2 ts.length 0 _ (by omega) ⟨⟨_,ib _ rfl,rfl,rfl⟩,hl1.push _⟩ ?_ λ s' hm hS'=>?_
 ·have g:its[i]?=some v:=by simpa using hvi
  have hi:i<ts.length:=by rw [el];exact (gH.mp g).1
  have g1:(ts.map V.str)[i]?=some (.str ts[i]):=by rw [gK,gX hi];rfl
  obtain ⟨t,e⟩:=vals_at hv g1 g;exact ⟨_,t,gX hi,e⟩
 ·exact PyProof.Rows.SetOf_congr ((PyProof.Rows.setObjOf_fresh (knd:=PySem.strKind prog w) led).setOf (gO _ hS) (by unfold scanBound;omega)) (λ _=>by simp) rfl
 ·obtain ⟨h',g',d',tk',os'⟩:=s';have eg:g'=s.gens:=hm.gens;have ed:d'=s.drawn:=hm.drawn;have eo:os'=s.os:=hm.os;subst eg ed eo;show wpAny _ _ _ _ _ _;refine iE ?_;show wpAny _ _ (ret Value.none) _ _ _;refine iE ⟨_,rfl,h h' tk' hS' λ b o e=>?_⟩;have lb:=hJ e;refine hm.heap b o (λ m=>?_) (gO _ (gO _ e));rcases hV.mp m with z | z
  ·exact absurd z (iw lb)
  ·refine absurd (gN.mp z) (iw ?_);rw [Heap.size_push];exact Nat.lt_succ_of_lt lb
theorem call_set_strsD {l:Addr} {its:List Value} {ts:List Str} (hh:A.handled=none) (hl:s.heap.IsList l its.toArray) (hv:Vals (ts.map V.str) its) (hb:ts.length+1<scanBound)
  {Q:Value->Shared->Prop} (h:∀ (h':Heap) (tk:Nat),h'.SetOf (PySem.strKind prog w) s.heap.objs.size (λ x=>decide (x∈ts)) (cw ts).length->(∀ b o,s.heap.get? b=some o->h'.get? b=some o)->Q (.ref s.heap.objs.size) { s with heap:=h',toks:=tk }) :
  wpAny (model prog w) A (call (.type "set") [.ref l]) Q E s:=by
 obtain ⟨c,tl,y1⟩:=F.called_set.mro;have y2:=F.called_set.made;have y3:=F.called_set.sub;have y4:=F.called_set.notType;have y5:=F.called_set.canCreate;have y6:=PySem.F.typeCall_set_1 (.ref l);refine wpAny_call (codeAny_of_tree ?_);show wpAny _ _ (callAny (.type "set") _) _ _ _;refine iE ⟨Code.quiet_builtin _ (by decide +kernel),codeAny_builtin F.entry_type_call ?_⟩;rw [Around.under_plain (weight_type_call_type "set" [.ref l] []) rfl]
 repeat (any_goals (first | assumption | wp_step))
 refine codeAny_mono (code_set_new_1 (.ref l) (E:=E) (Q₁:=λ v s1=>∃ led:Bool,v=.ref s.heap.objs.size/\s1 = { s with heap:=s.heap.push (bI led) }) λ led=>⟨led,rfl,rfl⟩) λ r s1 hr=>?_
 cases r with
 | error e=>exact hr
 | ok fl=>
  cases fl with
  | ret v=>
   obtain ⟨led,rfl,rfl⟩:=hr;have hS:(s.heap.push (bI led)).get? s.heap.objs.size=some (bI led):=ib _ rfl;have hT:Shared.TypeIs { s with heap:=s.heap.push (bI led) } (.ref s.heap.objs.size) "set":=⟨_,hS,rfl⟩;have y7:=F.called_set.init.lookup;have y8:=F.called_set.init.bind (.ref s.heap.objs.size)
   repeat (any_goals (first | assumption | wp_step))
   refine codeAny_mono (codeAny_call_builtin (R:=wants (λ r s2=>r=.none/\∃ h' tk,s2 = { s with heap:=h',toks:=tk }/\h'.SetOf (PySem.strKind prog w) s.heap.objs.size (λ x=>decide (x∈ts)) (cw ts).length/\(∀ b o,s.heap.get? b=some o->h'.get? b=some o)) E) F.called_set.init.plain F.entry_set_init (check_set_init_1 hT ?_)) λ r2 s2 hr2=>?_
   ·refine i9 (init_setD (prog:=prog) (w:=w) (A:=A.in1.in1) (E:=E) (led:=led) (R:=λ r s2=>r=.none/\∃ h' tk,s2 = { s with heap:=h',toks:=tk }/\h'.SetOf (PySem.strKind prog w) s.heap.objs.size (λ x=>decide (x∈ts)) (cw ts).length/\(∀ b o,s.heap.get? b=some o->h'.get? b=some o)) (by simpa using hh) hl hv hb λ h' tk a1 a2=>⟨rfl,h',tk,rfl,a1,a2⟩) (λ fin s' ⟨r,e,z⟩=>?_) λ _ _ x=>x;subst e;exact z
   ·cases r2 with
    | error e=>exact hr2
    | ok fl2=>
     cases fl2 with
     | ret r=>
      obtain ⟨rfl,h',tk,rfl,a1,a2⟩:=hr2
      repeat (any_goals (first | assumption | wp_step))
      exact h _ _ a1 a2
     | _=>exact hr2.elim
  | _=>exact hr.elim
end
section
variable {X:Cx}
noncomputable def SetD (P:Program) (w:World) (p:Addr) (ts:List Str):HO:=.ext λ h=>h.SetOf (PySem.strKind P w) p (λ x=>decide (x∈ts)) (cw ts).length
theorem call_setD (hh:X.A.handled=none):dj X (.type "set") (λ xs H Q=>∃ (p:Addr) (ts:List Str),xs=[.ref p]/\SqL X.K H p (ts.map V.str)/\ts.length<=1000/\∀ l,H l=none->Q (.ref l) (upd H l (SetD X.prog X.w l ts))):=by
 intro pins s σ H xs us Q I r h;obtain ⟨p,ts,rfl,hq,hl,q⟩:=h;obtain ⟨u,rfl,rx⟩:=fu r
 cases rx;obtain ⟨its,r',pl,hz⟩:=I.list hq;refine call_set_strsD hh pl.isList r' (by unfold scanBound;omega) λ h' tk a1 a2=>?_;refine ⟨.ref s.heap.objs.size,_,I.laid (t':=tk) a2 (gJ _) (show ObjOk X.prog X.w _ h' _ (SetD X.prog X.w _ ts) from ⟨a1,?_,λ h1 h2 z k=>?_⟩),rfl,q _ (I.hok.fresh (gJ _))⟩
 ·obtain ⟨o,_,_,_,e,_⟩:=a1;exact ⟨o,e⟩
 ·obtain ⟨o,es,ep,t,e,c⟩:=z;exact ⟨o,es,ep,t,k _ e,c⟩
theorem fL:dj X (.builtin "len") (λ xs H Q=>∃ (p:Addr) (ts:List Str),xs=[.ref p]/\H p=some (SetD X.prog X.w p ts)/\ts.length<=1000/\Q (.int (cw ts).length) H):=by
 intro pins s σ H xs us Q I r h;obtain ⟨p,ts,rfl,hp,hl,q⟩:=h;obtain ⟨u,rfl,rx⟩:=fu r
 cases rx;obtain ⟨⟨o,es,ep,t,ho,hex,hd,_,_,_,hf,hn⟩,_⟩:=I.hok p _ hp;have dl:=dset_len ts;refine PySem.call_len_set ho hex hd hf (by omega) ⟨.int _,H,I.tok _,⟨_,rfl⟩,?_⟩;rw [hn];exact q
end
end L2
namespace G
noncomputable def gcd (a b:Int):Int:=(Int.gcd a b:Int)
theorem gcd_nonneg (a b:Int):0<=gcd a b:=Int.natCast_nonneg _
theorem gcd_zero (a:Int) (h:0<=a):gcd a 0=a:=by
 unfold gcd;rw [Int.gcd_zero_right];omega
theorem gcd_abs (a b:Int):gcd (if a<0 then -a else a) (if b<0 then -b else b)=gcd a b:=by
 unfold gcd;congr 1
 split <;> split <;> simp [Int.neg_gcd,Int.gcd_neg]
theorem gcd_step (a b:Int) (hb:0<b):gcd b (a % b)=gcd a b:=by
 unfold gcd;congr 1;rw [Int.gcd_comm b];have e:a=a % b+(a / b)*b:=by have:=Int.emod_add_mul_ediv a b;rw [iN] at this;omega
 have h:=Int.gcd_add_mul_right_left b (a % b) (a / b);rw [<- e] at h;exact h.symm
theorem dL (a b:Nat):(a:Int).fdiv (b:Int)=((a / b:Nat):Int):=by
 rw [Int.fdiv_eq_ediv_of_nonneg _ (Int.natCast_nonneg _)];rfl
theorem di (x:Rat):(0:Int)<(x.den:Int):=by have:=x.den_nz;omega
theorem gcd_den (x:Rat):gcd x.num x.den=1:=by
 have h:=x.reduced;have e:Int.gcd x.num x.den=1:=h;unfold gcd;rw [e];rfl
theorem init_spec (a b:Int) (hb:b≠0):a.fdiv (if b<0 then -(gcd a b) else gcd a b)=(Rat.divInt a b).num/\b.fdiv (if b<0 then -(gcd a b) else gcd a b)=((Rat.divInt a b).den:Int):=by
 have gp:0<Int.gcd a b:=Int.gcd_pos_of_ne_zero_right a hb;obtain ⟨k,hk⟩:=ja a b;obtain ⟨m,hm⟩:=Int.gcd_dvd_right a b;have gz:(Int.gcd a b:Int)≠0:=by omega
 rw [Rat.num_divInt,Rat.den_divInt,if_neg hb,Int.gcd_comm b a];unfold gcd;generalize hgg:Int.gcd a b=g at *;have e1:∀ z:Int,(g*z).fdiv g=z:=λ z=>by rw [iN,Int.mul_fdiv_cancel _ gz]
 have e2:∀ z:Int,(g*z).fdiv (-(g:Int)) = -z:=λ z=>by
  have:(g:Int)*z=(-z)*(-(g:Int)):=by rw [Int.neg_mul_neg,iN]
  rw [this,Int.mul_fdiv_cancel _ (by omega)]
 by_cases hs:b<0
 ·rw [if_pos hs,Int.sign_eq_neg_one_of_neg hs];constructor
  ·conv=>lhs;rw [hk,e2]
   have:-1*a = -k*g:=by rw [hk,iN (g:Int) k,Int.neg_mul,Int.neg_mul,Int.one_mul]
   rw [this,Int.mul_ediv_cancel _ gz]
  ·conv=>lhs;rw [hm,e2]
   have mneg:m<0:=by
    rcases Int.lt_trichotomy m 0 with h | h | h
    ·exact h
    ·rw [h] at hm;omega
    ·have:=Int.mul_pos (show (0:Int)<g by omega) h;omega
   have:b.natAbs=m.natAbs*g:=by rw [hm,iJ,iT,Nat.mul_comm]
   rw [this,Nat.mul_div_cancel _ gp];omega
 ·rw [if_neg hs,Int.sign_eq_one_of_pos (by omega)];constructor
  ·conv=>lhs;rw [hk,e1]
   have:1*a=k*g:=by rw [hk,iN (g:Int) k,Int.one_mul]
   rw [this,Int.mul_ediv_cancel _ gz]
  ·conv=>lhs;rw [hm,e1]
   have mpos:0<m:=by
    rcases Int.lt_trichotomy m 0 with h | h | h
    ·have:=Int.mul_neg_of_pos_of_neg (show (0:Int)<g by omega) h;omega
    ·rw [h] at hm;omega
    ·exact h
   have:b.natAbs=m.natAbs*g:=by rw [hm,iJ,iT,Nat.mul_comm]
   rw [this,Nat.mul_div_cancel _ gp];omega
theorem fR {a:Int} {g:Nat} (h:(g:Int)∣a):a.fdiv (g:Int)=a.tdiv g:=by
 rw [Int.fdiv_eq_ediv_of_nonneg _ (Int.natCast_nonneg _),Int.tdiv_eq_ediv_of_dvd h]
theorem add_spec (x y:Rat) :
  let g:=gcd x.den y.den
  let own:=(x.den:Int).fdiv g
  let top:=x.num*((y.den:Int).fdiv g)+y.num*own
  let left:=gcd top g
  top.fdiv left=(x+y).num/\own*((y.den:Int).fdiv left)=((x+y).den:Int):=by
 have hx:=x.den_nz;have hy:=y.den_nz;have eg:gcd x.den y.den=((x.den.gcd y.den:Nat):Int):=by unfold gcd;rw [Int.gcd_natCast_natCast]
 have gpos:0<x.den.gcd y.den:=Nat.gcd_pos_of_pos_left _ (by omega);intro g own top left;have hown:own=((x.den / x.den.gcd y.den:Nat):Int):=by show (x.den:Int).fdiv (gcd x.den y.den)=_;rw [eg,dL]
 have htop:top=x.num*((y.den / x.den.gcd y.den:Nat):Int)+y.num*((x.den / x.den.gcd y.den:Nat):Int):=by
  show x.num*((y.den:Int).fdiv (gcd x.den y.den))+y.num*own=_;rw [hown,eg,dL]
 have hleft:left=((top.natAbs.gcd (x.den.gcd y.den):Nat):Int):=by
  show ((Int.gcd top (gcd x.den y.den):Nat):Int)=_;rw [eg];rfl
 have e1:x+y=Rat.add x y:=rfl;rw [e1];delta Rat.add;dsimp only;rw [hleft,hown]
 split
 ·rename_i h1;rw [htop];simp only [h1,Nat.div_one,Nat.gcd_one_right,dL];simp
 ·rename_i h1;rw [Rat.maybeNormalize_eq];dsimp only;simp only [Int.divExact_eq_tdiv];rw [<- htop];have d1:((top.natAbs.gcd (x.den.gcd y.den):Nat):Int)∣top:=Int.ofNat_dvd_left.2 (Nat.gcd_dvd_left _ _);have d2:(top.natAbs.gcd (x.den.gcd y.den):Nat)∣y.den:=Nat.dvd_trans (Nat.gcd_dvd_right _ _) (Nat.gcd_dvd_right _ _);refine ⟨?_,?_⟩
  ·rw [fR d1]
  ·rw [dL,<- Int.natCast_mul,Nat.mul_div_assoc _ d2]
theorem mul_spec (x y:Rat) :
  let first:=gcd x.num y.den
  let second:=gcd y.num x.den
  x.num.fdiv first*y.num.fdiv second=(x*y).num/\(x.den:Int).fdiv second*(y.den:Int).fdiv first=((x*y).den:Int):=by
 intro first second
 have e1:x*y=Rat.mul x y:=rfl;rw [e1];delta Rat.mul;dsimp only;have h1:first=((x.num.natAbs.gcd y.den:Nat):Int):=rfl
 have h2:second=((y.num.natAbs.gcd x.den:Nat):Int):=rfl;rw [h1,h2];simp only [Int.divExact_eq_tdiv,Nat.divExact_eq_div];rw [fR (Int.ofNat_dvd_left.2 (Nat.gcd_dvd_left _ _)),fR (Int.ofNat_dvd_left.2 (Nat.gcd_dvd_left _ _)),dL,dL];exact ⟨rfl,by rw [Int.natCast_mul]⟩
theorem inv_pos_spec (y:Rat) (h:0<y.num):(y⁻¹).num=y.den/\((y⁻¹).den:Int)=y.num:=by
 rw [Rat.num_inv,Rat.den_inv,Int.sign_eq_one_of_pos h,if_neg (by omega)];constructor <;> omega
theorem inv_neg_spec (y:Rat) (h:y.num<0):(y⁻¹).num = -y.den/\((y⁻¹).den:Int) = -y.num:=by
 rw [Rat.num_inv,Rat.den_inv,Int.sign_eq_neg_one_of_neg h,if_neg (by omega)];constructor <;> omega
end G
namespace G
noncomputable def Bd (n:Nat) (x:Rat):Prop:=x.num.natAbs<=2 ^ n/\x.den<=2 ^ n
theorem pow_le {m n:Nat} (h:m<=n):2 ^ m<=2 ^ n:=Nat.pow_le_pow_right (by decide) h
theorem Bd.mono {m n:Nat} {x:Rat} (b:Bd m x) (h:m<=n):Bd n x:=⟨gZ b.1 (pow_le h),gZ b.2 (pow_le h)⟩
theorem cU (a:Int) (d:Nat):(a / (d:Int)).natAbs<=a.natAbs:=by
 rcases Nat.eq_zero_or_pos d with h | h
 ·subst h;simp
 ·have hd:(0:Int)<d:=by omega
  rcases Int.le_total 0 a with ha | ha
  ·have h1:=Int.ediv_nonneg ha (Int.le_of_lt hd);have h2:=Int.ediv_le_self (d:Int) ha;omega
  ·have h1:a / (d:Int)<=0:=Int.ediv_nonpos_of_nonpos_of_neg ha hd
   have h2:a<=a / (d:Int):=by
    rw [Int.le_ediv_iff_mul_le hd];have h3:0<=(-a)*((d:Int)-1):=Int.mul_nonneg (by omega) (by omega);rw [Int.neg_mul,Int.mul_sub,Int.mul_one] at h3;omega
   omega
theorem Bd.divInt {n:Nat} {a b:Int} (ha:a.natAbs<=2 ^ n) (hb:b.natAbs<=2 ^ n):Bd n (Rat.divInt a b):=by
 constructor
 ·rw [Rat.num_divInt];refine gZ (cU _ _) ?_;rw [iJ]
  have:b.sign.natAbs<=1:=by
   rcases Int.lt_trichotomy b 0 with h | h | h
   ·rw [Int.sign_eq_neg_one_of_neg h];decide
   ·rw [h];decide
   ·rw [Int.sign_eq_one_of_pos h];decide
  calc b.sign.natAbs*a.natAbs<=1*a.natAbs:=Nat.mul_le_mul_right _ this
   _<=2 ^ n:=by omega
 ·rw [Rat.den_divInt]
  split
  ·exact Nat.one_le_two_pow
  ·exact gZ (Nat.div_le_self _ _) hb
theorem bT {a b m n:Nat} (ha:a<=2 ^ m) (hb:b<=2 ^ n):a*b<=2 ^ (m+n):=by
 rw [Nat.pow_add];exact Nat.mul_le_mul ha hb
theorem Bd.add {m n:Nat} {x y:Rat} (hx:Bd m x) (hy:Bd n y):Bd (m+n+1) (x+y):=by
 constructor
 ·rw [Rat.num_add];refine gZ (cU _ _) ?_;have h1:=bT hx.1 hy.2;have h2:=bT hx.2 hy.1;have e1:(x.num*(y.den:Int)).natAbs=x.num.natAbs*y.den:=by rw [iJ,iT]
  have e2:(y.num*(x.den:Int)).natAbs=x.den*y.num.natAbs:=by rw [iJ,iT,Nat.mul_comm]
  have:=Int.natAbs_add_le (x.num*(y.den:Int)) (y.num*(x.den:Int))
  rw [e1,e2] at this;rw [Nat.pow_succ];omega
 ·rw [Rat.den_add];refine gZ (Nat.div_le_self _ _) (gZ (bT hx.2 hy.2) (pow_le (by omega)))
theorem Bd.neg {m:Nat} {x:Rat} (hx:Bd m x):Bd m (-x):=⟨by rw [Rat.neg_num,Int.natAbs_neg];exact hx.1,hx.2⟩
theorem Bd.sub {m n:Nat} {x y:Rat} (hx:Bd m x) (hy:Bd n y):Bd (m+n+1) (x-y):=by
 rw [Rat.sub_eq_add_neg];exact hx.add hy.neg
theorem Bd.mul {m n:Nat} {x y:Rat} (hx:Bd m x) (hy:Bd n y):Bd (m+n) (x*y):=by
 constructor
 ·rw [Rat.num_mul];refine gZ (cU _ _) ?_;rw [iJ];exact bT hx.1 hy.1
 ·rw [Rat.den_mul];exact gZ (Nat.div_le_self _ _) (bT hx.2 hy.2)
theorem Bd.zero:Bd 0 0:=⟨by decide,by decide⟩
theorem Bd.one:Bd 0 1:=⟨by decide,by decide⟩
end G
namespace G
theorem fc (n:Int) {d:Int} (h:0<d):0<=Rat.divInt n d↔0<=n:=Rat.divInt_nonneg_iff_of_pos_right h
theorem lt_div {a b c d:Int} (hb:0<b) (hd:0<d):Rat.divInt a b<Rat.divInt c d↔a*d<c*b:=by
 rw [<- Rat.not_le,Rat.le_iff_sub_nonneg,Rat.divInt_sub_divInt _ _ (by omega) (by omega),fc _ (Int.mul_pos hb hd)];omega
end G
namespace G
open PySem
theorem str_ext {x y:Str} (h:x.cps.toList=y.cps.toList):x=y:=by
 cases x;cases y;exact ix Str.mk (Array.toList_inj.mp h)
theorem cps_app (x y:Str):(x++y).cps.toList=x.cps.toList++y.cps.toList:=by
 show (x.cps++y.cps).toList=_;exact Array.toList_append
theorem app_left {x y z:Str} (h:x++y=x++z):y=z:=by
 have:=ix (λ u:Str=>u.cps.toList) h
 simp only [cps_app] at this;exact str_ext (List.append_cancel_left this)
theorem app_right {x y z:Str} (h:x++y=z++y):x=z:=by
 have:=ix (λ u:Str=>u.cps.toList) h
 simp only [cps_app] at this;exact str_ext (List.append_cancel_right this)
theorem rep_cps (c n:Nat):((List.replicate n #[c]).foldl (· ++ ·) (#[]:Array Nat)).toList=List.replicate n c:=by
 have:∀ (n:Nat) (a:Array Nat),((List.replicate n #[c]).foldl (· ++ ·) a).toList=a.toList++List.replicate n c:=by
  intro n
  induction n with
  | zero=>intro a;simp
  | succ n ih=>
   intro a;rw [List.replicate_succ,i8,ih];simp [List.replicate_succ]
 simpa using this n #[]
theorem mul_cps (c:Nat) (n:Int):(Txt.mul ⟨#[c]⟩ n).cps.toList=List.replicate n.toNat c:=by
 unfold Txt.mul;by_cases h1:n<1
 ·rw [if_pos h1,show n.toNat=0 by omega];rfl
 ·rw [if_neg h1];by_cases h2:n=1
  ·subst h2;rfl
  ·rw [if_neg (by simp [h2,Str.length])];exact rep_cps c n.toNat
theorem len_cps (x:Str):x.length=x.cps.toList.length:=by show x.cps.size=_;rw [Array.length_toList]
noncomputable def sgs:Str:="abcdefghijklmnopqrstuvwxyz0123456789."
noncomputable def sgAt (i:Int):Nat:=sgs.cps.toList.getD i.toNat 0
noncomputable def turnK (k c:Int):Int:=(k*(1+c / 5 % 36)+c / 180) % 37
theorem sgs_list:sgs.cps.toList=[97,98,99,100,101,102,103,104,105,106,107,108,109,110,111,112,113,114,115,116,117,118,119,120,121,122,48,49,50,51,52,53,54,55,56,57,46]:=by decide +kernel
theorem sgAt_some {i:Int} (h0:0<=i) (h1:i<37):L2.atI sgs.cps.toList i=some (sgAt i):=by
 obtain ⟨n,rfl⟩:=iR h0;have hn:n<37:=by omega
 refine L2.atI_nat ?_;unfold sgAt;rw [sgs_list,List.getD_eq_getElem?_getD,Int.toNat_natCast];rw [gX (by simpa using hn)];rfl
theorem sgAt_inj:∀ i<37,∀ j<37,sgs.cps.toList.getD i 0=sgs.cps.toList.getD j 0->i=j:=by
 rw [sgs_list];decide +kernel
end G
namespace G
noncomputable def Cop (a b:Int):Prop:=∀ d:Int,d∣a->d∣b->d∣1
theorem Cop.one {a b:Int} (h:gcd a b=1):Cop a b:=λ d h1 h2=>by
 have:=Int.dvd_coe_gcd h1 h2
 rw [show ((Int.gcd a b:Nat):Int)=1 from h] at this;exact this
theorem Cop.gcd {a b:Int} (h:Cop a b):Int.gcd a b=1:=by
 have h1:=Int.eq_one_of_dvd_one (Int.natCast_nonneg _) (h _ (ja a b) (Int.gcd_dvd_right a b));omega
theorem Cop.gauss {d m n:Int} (h:Cop d m) (hd:d∣m*n):d∣n:=by
 have e:=h.gcd;rw [<- Int.natAbs_dvd_natAbs] at hd ⊢;rw [iJ] at hd;exact Nat.Coprime.dvd_of_dvd_mul_left e hd
theorem Cop.quot {B b c u v:Int} (hc:c=G.gcd B b) (c0:c≠0) (hB:B=c*u) (hb:b=c*v):Cop u v:=λ d h1 h2=>by
 have k:c*d∣c:=by
  have:=Int.dvd_coe_gcd (a:=B) (b:=b) (c:=c*d) (by rw [hB];exact Int.mul_dvd_mul_left c h1) (by rw [hb];exact Int.mul_dvd_mul_left c h2)
  rw [show ((Int.gcd B b:Nat):Int)=c from hc.symm] at this;exact this
 obtain ⟨z,hz⟩:=k;refine ⟨z,?_⟩
 have:c*(d*z)=c*1:=by rw [<- Int.mul_assoc,<- hz,Int.mul_one]
 exact (Int.eq_of_mul_eq_mul_left c0 this).symm
theorem den_ne' (x:Rat):(x.den:Int)≠0:=by have:=x.den_nz;omega
structure TInv (x:Rat) (T B s:Int):Prop where
 pB:0<B
 ps:0<s
 r:∃ r,B=s*r/\Cop T r
 v:Rat.divInt T B=x
theorem TInv.zero:TInv 0 0 1 1:=⟨by decide,by decide,⟨1,by decide,λ d _ h=>h⟩,by rw [Rat.zero_divInt]⟩
theorem fdiv_mul {c k:Int} (h:c≠0):(c*k).fdiv c=k:=by rw [iN,Int.mul_fdiv_cancel _ h]
theorem TInv.step {x y:Rat} {T B s:Int} (I:TInv x T B s) :
  TInv (x+y) (T*(y.den:Int).fdiv (gcd B y.den)+y.num*B.fdiv (gcd B y.den)) (B*(y.den:Int).fdiv (gcd B y.den)) (s*(gcd B y.den).fdiv (gcd s (gcd B y.den))):=by
 obtain ⟨pB,ps,⟨r,hr,cr⟩,hv⟩:=I;have yp:=di y
 have cp:0<gcd B y.den:=by
  have:=Int.gcd_pos_of_ne_zero_left (y.den:Int) (show B≠0 by omega)
  unfold gcd;omega
 generalize hc':gcd B y.den=c at cp ⊢;have hc:=hc'.symm;have dB:c∣B:=by rw [hc];exact ja _ _
 have db:c∣(y.den:Int):=by rw [hc];exact Int.gcd_dvd_right _ _
 obtain ⟨u,hu⟩:=dB;obtain ⟨v,hv'⟩:=db;have c0:c≠0:=by omega
 have cuv:Cop u v:=Cop.quot hc c0 hu hv';have ey:(y.den:Int).fdiv c=v:=by rw [hv',fdiv_mul c0]
 have eB:B.fdiv c=u:=by rw [hu,fdiv_mul c0]
 have up:0<u:=Int.pos_of_mul_pos_left (by rw [iN,<- hu];exact pB) cp;have vp:0<v:=Int.pos_of_mul_pos_left (by rw [iN,<- hv'];exact yp) cp;rw [ey,eB]
 have gp:0<gcd s c:=by
  have:=Int.gcd_pos_of_ne_zero_left c (show s≠0 by omega)
  unfold gcd;omega
 generalize hg':gcd s c=g at gp ⊢;have hg:=hg'.symm;have d1:g∣s:=by rw [hg];exact ja _ _
 have d2:g∣c:=by rw [hg];exact Int.gcd_dvd_right _ _
 obtain ⟨s1,hs1⟩:=d1;obtain ⟨c1,hc1⟩:=d2;have g0:g≠0:=by omega
 have cs:Cop s1 c1:=Cop.quot hg g0 hs1 hc1;have ec:c.fdiv g=c1:=by rw [hc1,fdiv_mul g0]
 rw [ec];have c1p:0<c1:=Int.pos_of_mul_pos_left (by rw [iN,<- hc1];exact cp) gp;have s1p:0<s1:=Int.pos_of_mul_pos_left (by rw [iN,<- hs1];exact ps) gp
 have e1:c1*u=s1*r:=by
  apply Int.eq_of_mul_eq_mul_left g0
  rw [<- Int.mul_assoc,<- Int.mul_assoc,<- hc1,<- hs1,<- hu,hr]
 have k1:c1∣r:=Cop.gauss (d:=c1) (m:=s1) (λ d a b=>cs d b a) ⟨u,e1.symm⟩;obtain ⟨r1,hr1⟩:=k1
 have e2:u=s1*r1:=by
  apply Int.eq_of_mul_eq_mul_left (show c1≠0 by omega)
  rw [e1,hr1,<- Int.mul_assoc,<- Int.mul_assoc,iN s1 c1]
 refine ⟨Int.mul_pos pB vp,Int.mul_pos ps c1p,⟨r1*v,?_,?_⟩,?_⟩
 ·rw [hr,hr1];simp only [Int.mul_assoc]
 ·intro d h1 h2
  have cdv:Cop d v:=λ e he hev=>by
   have z1:e∣y.num*u:=by
    have:=Int.dvd_sub (Int.dvd_trans he h1) (Int.dvd_trans hev (Int.dvd_mul_left T v))
    rw [Int.add_comm,Int.add_sub_cancel] at this;exact this
   rw [iN] at z1;have z2:e∣y.num:=Cop.gauss (λ f h3 h4=>cuv f h4 (Int.dvd_trans h3 hev)) z1;exact Cop.one (gcd_den y) e z2 (by rw [hv'];exact Int.dvd_trans hev (Int.dvd_mul_left c v))
  have z3:d∣r1:=Cop.gauss cdv (by rw [iN];exact h2);have z4:d∣u:=by rw [e2];exact Int.dvd_trans z3 (Int.dvd_mul_left s1 r1)
  have z5:d∣v*T:=by
   have:=Int.dvd_sub h1 (Int.dvd_trans z4 (Int.dvd_mul_left y.num u))
   rw [Int.add_sub_cancel,iN] at this;exact this
  exact cr d (Cop.gauss cdv z5) (by rw [hr1];exact Int.dvd_trans z3 (Int.dvd_mul_left c1 r1))
 ·rw [<- hv]
  conv=>rhs;rw [<- Rat.num_divInt_den y]
  rw [Rat.divInt_add_divInt _ _ (show B≠0 by omega) (den_ne' y),iY (show B*v≠0 by have:=Int.mul_pos pB vp;omega) (Int.mul_ne_zero (by omega) (den_ne' y)),hv',hu];grind
theorem TInv.fin {x:Rat} {T B s:Int} (I:TInv x T B s):T.fdiv (gcd T s)=x.num/\B.fdiv (gcd T s)=(x.den:Int):=by
 obtain ⟨pB,ps,⟨r,hr,cr⟩,hv⟩:=I
 have e:gcd T s=gcd T B:=by
  refine Int.dvd_antisymm (gcd_nonneg _ _) (gcd_nonneg _ _) (Int.dvd_coe_gcd (ja _ _) (Int.dvd_trans (Int.gcd_dvd_right _ _) ⟨r,hr⟩)) (Int.dvd_coe_gcd (ja _ _) ?_);refine Cop.gauss (m:=r) (λ d h1 h2=>cr d (Int.dvd_trans h1 (ja _ _)) h2) ?_;rw [iN,<- hr];exact Int.gcd_dvd_right _ _
 obtain ⟨i1,i2⟩:=init_spec T B (by omega);rw [if_neg (by omega),hv] at i1 i2;rw [e];exact ⟨i1,i2⟩
end G
namespace G
open PySem L2
theorem sum_snoc (xs:List Rat) (a:Rat):(xs++[a]).sum=xs.sum+a:=by
 induction xs with
 | nil=>simp;grind
 | cons x xs ih=>rw [List.cons_append,List.sum_cons,List.sum_cons,ih];grind
noncomputable def addK (ks:List Str) (n:Str):List Str:=if n∈ks then ks else ks++[n]
noncomputable def bb (ns:List Str):List Str:=ns.foldl addK []
theorem keysOf_snoc (ns:List Str) (n:Str):bb (ns++[n])=addK (bb ns) n:=by unfold bb;rw [iW];rfl
theorem mem_addK {ks:List Str} {n m:Str}:m∈addK ks n↔m∈ks∨m=n:=by
 unfold addK
 split
 ·exact ⟨.inl,λ h=>h.elim id λ e=>by rw [e];assumption⟩
 ·simp
theorem dR {ks:List Str} {n:Str} (h:ks.Nodup):(addK ks n).Nodup:=by
 unfold addK
 split
 ·exact h
 ·rename_i hn;exact iy.mpr ⟨h,by simp,λ x hx y hy e=>hn (by rw [gN.mp hy] at e;rw [<- e];exact hx)⟩
theorem len_addK (ks:List Str) (n:Str):(addK ks n).length<=ks.length+1:=by
 unfold addK
 split
 ·omega
 ·simp
theorem mem_fold {ns:List Str}:∀ {ks:List Str} {m:Str},m∈ns.foldl addK ks↔m∈ks∨m∈ns:=by
 induction ns with
 | nil=>intro ks m;simp
 | cons n ns ih=>intro ks m;rw [i8,ih,mem_addK,hV,or_assoc]
theorem mem_keysOf {ns:List Str} {m:Str}:m∈bb ns↔m∈ns:=by unfold bb;rw [mem_fold];simp
theorem nodup_fold {ns:List Str}:∀ {ks:List Str},ks.Nodup->(ns.foldl addK ks).Nodup:=by
 induction ns with
 | nil=>intro ks h;exact h
 | cons n ns ih=>intro ks h;exact ih (dR h)
theorem gu (ns:List Str):(bb ns).Nodup:=nodup_fold jb
theorem len_fold {ns:List Str}:∀ {ks:List Str},(ns.foldl addK ks).length<=ks.length+ns.length:=by
 induction ns with
 | nil=>intro ks;exact gJ _
 | cons n ns ih=>intro ks;have h1:=ih (ks:=addK ks n);have h2:=len_addK ks n;rw [i8,ia];omega
theorem cV (ns:List Str):(bb ns).length<=ns.length:=by unfold bb;have:=len_fold (ns:=ns) (ks:=[]);simpa using this
noncomputable def upf {α:Type} (f:Str->α) (n:Str) (y:α):Str->α:=λ m=>if m=n then y else f m
theorem upf_same {α:Type} {f:Str->α} {n:Str} {y:α}:upf f n y n=y:=if_pos rfl
theorem upf_ne {α:Type} {f:Str->α} {n m:Str} {y:α} (h:m≠n):upf f n y m=f m:=if_neg h
structure Tab {α:Type} (R:Hp->V->α->Prop) (H:Hp) (kvs:List (Key × V)) (ks:List Str) (f:Str->α):Prop where
 keys:kvs.map (·.1)=ks.map (λ n=>(Sum.inr n:Key))
 vals:∀ n∈ks,∃ v,bu kvs (Sum.inr n:Key)=some v/\R H v (f n)
section
variable {α:Type} {R:Hp->V->α->Prop} {H H':Hp} {kvs:List (Key × V)} {ks:List Str} {f:Str->α} {n:Str} {v:V} {y:α}
theorem Tab.mono (t:Tab R H kvs ks f) (h:∀ v x,R H v x->R H' v x):Tab R H' kvs ks f:=⟨t.keys,λ n hn=>let ⟨v,e,r⟩:=t.vals n hn;⟨v,e,h _ _ r⟩⟩
theorem Tab.congr {g:Str->α} (t:Tab R H kvs ks f) (h:∀ n∈ks,f n=g n):Tab R H kvs ks g:=⟨t.keys,λ n hn=>let ⟨v,e,r⟩:=t.vals n hn;⟨v,e,by rw [<- h n hn];exact r⟩⟩
theorem Tab.nil:Tab R H [] [] f:=⟨rfl,λ n h=>absurd h g9⟩
theorem inr_in {n:Str} {ks:List Str}:(Sum.inr n:Key)∈ks.map (λ n=>(Sum.inr n:Key))↔n∈ks:=by
 constructor
 ·intro h;obtain ⟨y,hy,e⟩:=gL.mp h;rw [<- Sum.inr.inj e];exact hy
 ·exact λ h=>gL.mpr ⟨n,h,rfl⟩
theorem Tab.none (t:Tab R H kvs ks f) (h:¬ n∈ks):bu kvs (Sum.inr n:Key)=none:=by
 cases e:bu kvs (Sum.inr n:Key) with
 | none=>rfl
 | some v=>
  have:=valV_in e
  rw [t.keys] at this;exact absurd (inr_in.mp this) h
theorem Tab.len (t:Tab R H kvs ks f):kvs.length=ks.length:=by have:=ix List.length t.keys;rwa [gG,gG] at this
theorem Tab.put (t:Tab R H kvs ks f) (r:R H v y):Tab R H (bj kvs (Sum.inr n:Key) v) (addK ks n) (upf f n y):=by
 refine ⟨?_,λ m hm=>?_⟩
 ·by_cases hn:n∈ks
  ·obtain ⟨u,e,_⟩:=t.vals n hn;unfold bj addK;rw [ck,e,if_pos (show (some u).isSome=true from rfl),if_pos hn,<- t.keys,iF];refine List.map_congr_left λ kv _=>?_;show (if kv.1=_ then _ else _:Key × V).1=kv.1
   split <;> rfl
  ·rw [gi _ (t.none hn)];unfold addK;rw [if_neg hn,gM,gM,t.keys];rfl
 ·rw [valV_put];by_cases e:m=n
  ·subst e;rw [if_pos rfl,upf_same];exact ⟨v,rfl,r⟩
  ·rw [if_neg λ z=>e (Sum.inr.inj z),upf_ne e];exact t.vals m ((mem_addK.mp hm).resolve_right e)
theorem val_idx {κ:Type} [DecidableEq κ]:∀ {kvs:List (κ × V)} {i:Nat} {kv:κ × V},(kvs.map (·.1)).Nodup->kvs[i]?=some kv->bu kvs kv.1=some kv.2
 | [],_,_,_,e=>by simp at e
 | p::r,0,kv,_,e=>by
  simp at e;subst e;exact bB rfl
 | p::r,i+1,kv,nd,e=>by
  have e:r[i]?=some kv:=by simpa using e
  obtain ⟨h1,h2⟩:=iC.mp (show (p.1::r.map (·.1)).Nodup from nd);rw [bC λ z=>h1 (by rw [z];exact gL.mpr ⟨kv,gI e,rfl⟩)];exact val_idx h2 e
theorem Tab.at_ {i:Nat} {kv:Key × V} (t:Tab R H kvs ks f) (nd:ks.Nodup) (e:kvs[i]?=some kv):∃ n,ks[i]?=some n/\kv.1=Sum.inr n/\bu kvs (Sum.inr n:Key)=some kv.2/\R H kv.2 (f n):=by
 have hi:i<ks.length:=by rw [<- t.len];exact (gH.mp e).1
 have e1:kv.1=Sum.inr ks[i]:=by
  have g:=ix (λ l=>l[i]?) t.keys;simp only [gK,e,gX hi,iD] at g;exact hZ g
 have nd2:(kvs.map (·.1)).Nodup:=by
  rw [t.keys];exact nd.map _ (λ u v h e=>h (Sum.inr.inj e))
 have ev:=val_idx nd2 e;rw [e1] at ev;obtain ⟨v,e2,r⟩:=t.vals _ (List.getElem_mem hi);rw [ev] at e2
 cases e2;exact ⟨ks[i],gX hi,e1,ev,r⟩
end
theorem bD {ks:List Str} {i:Nat} {n:Str} (nd:ks.Nodup) (e:ks[i]?=some n):ks.take (i+1)=ks.take i++[n]/\¬ n∈ks.take i:=by
 have hi:=(gH.mp e).1;refine ⟨by rw [gQ,e];rfl,λ m=>?_⟩;obtain ⟨j,hj⟩:=iz.mp m
 have hj2:j<i:=by
  have:=(gH.mp hj).1
  rw [gS] at this;omega
 rw [List.getElem?_take,if_pos hj2] at hj
 have:=(i6 (by omega) nd).mp (hj.trans e.symm)
 omega
theorem dN {ks:List Str} {n:Str} (h:¬ n∈ks):addK ks n=ks++[n]:=if_neg h
noncomputable def KeepD (H H':Hp):Prop:=∀ b ob,H b=some ob->(∀ kvs,ob≠.dK kvs)->(∀ o u,ob≠.frz o u)->H' b=some ob
theorem KeepD.of {H H':Hp} (s:Same H H'):KeepD H H':=λ b ob e _ _=>s b ob e
theorem KeepD.trans {H H' H'':Hp} (s:KeepD H H') (t:KeepD H' H''):KeepD H H'':=λ b ob e h1 h2=>t b ob (s b ob e h1 h2) h1 h2
theorem KeepD.put {H:Hp} {d:Addr} {kvs:List (Key × V)} {o:HO} (hd:H d=some (.dK kvs)):KeepD H (upd H d o):=λ b ob e h1 _=>by
 have:b≠d:=λ z=>by rw [z,hd] at e;exact h1 kvs (hZ e).symm
 rw [af this];exact e
theorem KeepD.frz {H:Hp} {d:Addr} {ob:Obj} {u o:HO} (hd:H d=some (.frz ob u)):KeepD H (upd H d o):=λ b ob' e _ h2=>by
 have:b≠d:=λ z=>by rw [z,hd] at e;exact h2 _ _ (hZ e).symm
 rw [af this];exact e
noncomputable def occ (zs:List (Str × Rat)) (n:Str):List Rat:=(zs.filter (λ z=>decide (z.1=n))).map (·.2)
theorem occ_snoc (zs:List (Str × Rat)) (m n:Str) (y:Rat):occ (zs++[(m,y)]) n=if m=n then occ zs n++[y] else occ zs n:=by
 unfold occ;rw [i3,gM];by_cases h:m=n
 ·rw [if_pos h];simp [h]
 ·rw [if_neg h];simp [h]
theorem occ_none {zs:List (Str × Rat)} {n:Str} (h:¬ n∈zs.map (·.1)):occ zs n=[]:=by
 unfold occ;rw [List.filter_eq_nil_iff.mpr,List.map_nil];intro z hz e;exact h (gL.mpr ⟨z,hz,i5 e⟩)
inductive BdS:List Rat->Nat->Prop
 | nil:BdS [] 0
 | snoc {xs:List Rat} {N m:Nat} {x:Rat}:BdS xs N->Bd m x->BdS (xs++[x]) (N+(m+1))
theorem BdS.fn {xs:List Rat} {N:Nat} (h:BdS xs N):∃ S:Nat->Nat,S 0=0/\(∀ i,i<=xs.length->S i<=N)/\∀ i y,xs[i]?=some y->∃ m,Bd m y/\S i+(m+1)<=S (i+1):=by
 induction h with
 | nil=>exact ⟨λ _=>0,rfl,λ _ _=>gR _,λ i y e=>by simp at e⟩
 | @snoc xs N m x _ b ih=>
  obtain ⟨S,h0,h1,h2⟩:=ih;refine ⟨λ j=>if j<=xs.length then S j else N+(m+1),by simp [h0],λ i hi=>?_,λ i y e=>?_⟩
  ·show (if i<=xs.length then S i else N+(m+1))<=_
   split
   ·rename_i h
    have:=h1 i h
    omega
   ·exact gJ _
  ·show ∃ m',Bd m' y/\(if i<=xs.length then S i else N+(m+1))+(m'+1)<=(if i+1<=xs.length then S (i+1) else N+(m+1));have hi:=(gH.mp e).1;rw [hE,ia,List.length_nil] at hi;by_cases hl:i<xs.length
   ·rw [List.getElem?_append_left hl] at e;obtain ⟨m',b',q⟩:=h2 i y e;exact ⟨m',b',by rw [if_pos (by omega),if_pos (by omega)];exact q⟩
   ·have ei:i=xs.length:=by omega
    subst ei;rw [iI (gJ _),Nat.sub_self] at e
    have:x=y:=by simpa using e
    subst this;refine ⟨m,b,?_⟩;rw [if_pos (gJ _),if_neg (by omega)]
    have:=h1 _ (gJ _)
    omega
end G
namespace G
open PySem L2
noncomputable def Sm (i:Int):Prop:=i.natAbs<2 ^ 9000
noncomputable def SmR (x:Rat):Prop:=Sm x.num/\Sm (x.den:Int)
theorem Sm.le {a b:Int} (h:Sm b) (l:a.natAbs<=b.natAbs):Sm a:=ig l h
theorem dh (a:Int) {b:Int} (hb:0<b) (ha:0<=a):(a.fdiv b).natAbs<=a.natAbs:=by
 rw [Int.fdiv_eq_ediv_of_nonneg a (Int.le_of_lt hb)];have h1:=Int.ediv_nonneg ha (Int.le_of_lt hb);have h2:=Int.ediv_le_self b ha;omega
theorem fdiv_le' (a:Int) {b:Int} (hb:0<b) (hd:b∣a):(a.fdiv b).natAbs<=a.natAbs:=by
 obtain ⟨k,rfl⟩:=hd;have e:(b*k).fdiv b=k:=by rw [iN,Int.mul_fdiv_cancel _ (by omega)]
 rw [e,iJ];exact Nat.le_mul_of_pos_left _ (by omega)
theorem bY (a:Int) {b:Int} (h:b≠0):0<gcd a b:=by
 have:=Int.gcd_pos_of_ne_zero_right a h
 unfold gcd;omega
theorem gcd_le_r (a:Int) {b:Int} (h:b≠0):(gcd a b).natAbs<=b.natAbs:=by
 have:=Int.gcd_le_natAbs_right a h
 unfold gcd;omega
theorem gcd_dvd_l (a b:Int):gcd a b∣a:=ja a b
theorem Sm.gcd_r (a:Int) {b:Int} (h:b≠0) (s:Sm b):Sm (gcd a b):=s.le (gcd_le_r a h)
theorem den_ne (x:Rat):(x.den:Int)≠0:=by have:=x.den_nz;omega
theorem tb:¬ (("top":Str) = "bottom"):=by decide +kernel
noncomputable def ff (t b:Int):List (Str × V):=[("top",.int t),("bottom",.int b)]
theorem ff_T (t b:Int):(ff t b).lookup ("top":Str)=some (.int t):=rfl
theorem ff_B (t b:Int):(ff t b).lookup ("bottom":Str)=some (.int b):=by
 have h:(("bottom":Str) == "top")=false:=by decide +kernel
 show List.lookup ("bottom":Str) [(("top":Str),V.int t),("bottom",V.int b)]=_;rw [hG,h];rfl
theorem ff_no (t b:Int) {m:Str} (h1:(m == "top")=false) (h2:(m == "bottom")=false):(ff t b).lookup m=none:=by
 show List.lookup m [(("top":Str),V.int t),("bottom",V.int b)]=_;rw [hG,h1,hG,h2];rfl
theorem ff_new (t b:Int):aR "bottom" (.int b) (aR "top" (.int t) [])=ff t b:=by
 show (if ("top":Str) = "bottom" then _ else (("top":Str),V.int t)::[(("bottom":Str),V.int b)])=ff t b;rw [if_neg tb];rfl
theorem ff_put (a c t b:Int):aR "bottom" (.int b) (aR "top" (.int t) (ff a c))=ff t b:=by
 show aR "bottom" (.int b) (if ("top":Str) = "top" then (("top":Str),V.int t)::[(("bottom":Str),V.int c)] else _)=ff t b;rw [if_pos rfl];show (if ("top":Str) = "bottom" then _ else (("top":Str),V.int t)::(if ("bottom":Str) = "bottom" then (("bottom":Str),V.int b)::[] else _))=ff t b;rw [if_neg tb,if_pos rfl];rfl
noncomputable def FrAt (C:Addr) (H:Hp) (p:Addr) (x:Rat):Prop:=∃ dx,H p=some (.ins C dx (ff x.num x.den))
theorem FrAt.mono {C:Addr} {H H':Hp} {p:Addr} {x:Rat} (h:FrAt C H p x) (s:Same H H'):FrAt C H' p x:=by
 obtain ⟨dx,e⟩:=h
 exact ⟨dx,s _ _ e⟩
theorem FrAt.up {C:Addr} {H H':Hp} {p:Addr} {x:Rat} (s:Same H H') (h:FrAt C H p x):FrAt C H' p x:=h.mono s
structure FrC (K:W.Frag) (C:Addr):Prop where
 cl:Cls K C
 nT:NoAttr K C "top"
 nB:NoAttr K C "bottom"
 c1:PySem.W.findIn K (.ref C) "__class__"=some (some (.builtin "object.__class__"))
 c2:PySem.W.specialIn K (.builtin "object.__class__") "__get__"=some (some (.builtin "getset_descriptor.__get__"))
 c3:PySem.W.takesIn K (.builtin "object.__class__")=some true
 c4:PySem.W.mroIn K C (.type "object")=some true
theorem FrAt.ty {K:W.Frag} {C:Addr} {H:Hp} {p:Addr} {x:Rat} (F:FrC K C) (h:FrAt C H p x):TyOf K H (.ref p) (.ref C):=by
 obtain ⟨_,e⟩:=h
 exact TyOf.ins e F.cl F.c1 F.c2 F.c3 F.c4
noncomputable def tTop (C:Addr) (ta:TE):TE:=λ σ H Q=>ta σ H λ v H1=>∃ p x,v=.ref p/\FrAt C H1 p x/\Q (.int x.num) H1
noncomputable def tBot (C:Addr) (ta:TE):TE:=λ σ H Q=>ta σ H λ v H1=>∃ p x,v=.ref p/\FrAt C H1 p x/\Q (.int x.den) H1
section
variable {X:Cx} {C:Addr} {e o:Expr} {ta:TE} {pos:Pos}
theorem bL (F:FrC X.K C) (he:PE X e ta) (hb:attributeBase e "top" X.env (eval e X.env)=eval e X.env:=by rfl):PE X (.Attribute e "top" pos) (tTop C ta):=by
 intro pins s σ H Q I h;refine attr_of hb (thn (he pins s σ H _ I h) λ u s1 ⟨v,H1,I1,r,p,x,e,⟨dx,hp⟩,q⟩=>?_);subst e;obtain rfl:u=Value.ref p:=r;exact fP I1 hp F.cl F.nT (ff_T _ _) λ u' s' I' r'=>⟨_,H1,I',r',q⟩
theorem bM (F:FrC X.K C) (he:PE X e ta) (hb:attributeBase e "bottom" X.env (eval e X.env)=eval e X.env:=by rfl):PE X (.Attribute e "bottom" pos) (tBot C ta):=by
 intro pins s σ H Q I h;refine attr_of hb (thn (he pins s σ H _ I h) λ u s1 ⟨v,H1,I1,r,p,x,e,⟨dx,hp⟩,q⟩=>?_);subst e;obtain rfl:u=Value.ref p:=r;exact fP I1 hp F.cl F.nB (ff_B _ _) λ u' s' I' r'=>⟨_,H1,I',r',q⟩
noncomputable def tFrM (C:Addr) (sp:Sp) (E:XK) (ta:TE) (t:TA):TE:=λ σ H Q=>ta σ H λ v H1=>∃ p x,v=.ref p/\FrAt C H1 p x/\t σ H1 λ vs H2=>sp (v::vs) H2 Q E
variable {CX:CXT} {k j:Nat} {ps:List Str} {sp:Sp} {E:XK} {m:Str} {p apos:Pos} {es:List Expr} {t:TA}
theorem bE {pl:Sem Bool} (F:FrC X.K C) (he:PE X o ta) (M:MtB X.prog X.w X.K X.mg X.base CX C m k ps sp) (hr:Room j X.A) (hx:cb CX X E) (ha:PA X (e::es) t) (hj:k<=j:=by decide) (h1:(m == "top")=false:=by decide +kernel) (h2:(m == "bottom")=false:=by decide +kernel)
  (hst:starEach (e::es) X.env=(false,eval e X.env)::starEach es X.env:=by rfl) (hpl:(backTo pos (starEach es X.env)).any (·.1)=false:=by rfl)
  (ht:eval (.Call (.Attribute o m apos) (e::es) [] pos) X.env=(do
   let ov <- eval o X.env
   standAt apos.atName
   let (f,first) <- holding [ov] (getMethod ov m pl)
   callWith pos f first (backTo pos (starEach (e::es) X.env)) (backToKw pos (keywordEach [] X.env))):=by rfl):PE X (.Call (.Attribute o m apos) (e::es) [] pos) (tFrM C sp E ta t):=by
 obtain ⟨f,fd,hm,b,d⟩:=M;intro pins s σ H Q I h;refine PySem.W.methodCall_KW (pl:=pl) (thn (he pins s σ H _ I h) λ u s1 ⟨v,H1,I1,rx,a,x,ex,⟨dx,ea⟩,q⟩=>?_) ht;subst ex;obtain rfl:u=Value.ref a:=rx;refine dS I1 ea F.cl hm (ff_no _ _ h1 h2) ?_;refine PySem.W.callWith_K (first:=[.ref a]) (h₀:=X.base) I.ok.mod.kin hm.kp (thn (ha pos pins s1 σ H1 _ I1 q) λ us s2 ⟨vs,H2,I2,r,q2⟩=>⟨I2.kIn,?_⟩) hst hpl;exact run_fn (us:=.ref a::us) (vs:=.ref a::vs) (dvs:=[]) d (hr.mono hj) b .nil hx I2 (.cons rfl r) (by simpa using q2)
theorem cg {pl:Sem Bool} (F:FrC X.K C) (he:PE X o ta) (M:MtB X.prog X.w X.K X.mg X.base CX C m k ps sp) (hr:Room j X.A) (hx:cb CX X E) (hj:k<=j:=by decide) (h1:(m == "top")=false:=by decide +kernel) (h2:(m == "bottom")=false:=by decide +kernel)
  (ht:eval (.Call (.Attribute o m apos) [] [] pos) X.env=(do
   let ov <- eval o X.env
   standAt apos.atName
   let (f,first) <- holding [ov] (getMethod ov m pl)
   callWith pos f first (backTo pos (starEach [] X.env)) (backToKw pos (keywordEach [] X.env))):=by rfl):PE X (.Call (.Attribute o m apos) [] [] pos) (tFrM C sp E ta tNil):=by
 obtain ⟨f,fd,hm,b,d⟩:=M;intro pins s σ H Q I h;refine PySem.W.methodCall_KW (pl:=pl) (thn (he pins s σ H _ I h) λ u s1 ⟨v,H1,I1,rx,a,x,ex,⟨dx,ea⟩,q⟩=>?_) ht;subst ex;obtain rfl:u=Value.ref a:=rx;refine dS I1 ea F.cl hm (ff_no _ _ h1 h2) ?_;exact PySem.W.callWith_K0 (first:=[.ref a]) I1.kIn hm.kp (run_fn (us:=[.ref a]) (vs:=[.ref a]) (dvs:=[]) d (hr.mono hj) b .nil hx I1 (.cons rfl .nil) q)
noncomputable def spDiv:Sp:=λ vs H Q _=>∃ a b:Int,vs=[.int a,.int b]/\Q (.int (gcd a b)) H
noncomputable def spInit (C:Addr):Sp:=λ vs H Q _=>∃ (p dx:Addr) (a b:Int),vs=[.ref p,.int a,.int b]/\H p=some (.ins C dx [])/\b≠0/\Sm b/\∀ H',H'=upd H p (.ins C dx (ff (Rat.divInt a b).num (Rat.divInt a b).den))->Q .non H'
noncomputable def NewFr (C:Addr) (H:Hp) (Q:VK) (x:Rat):Prop:=∀ (r:Addr) (H':Hp),H r=none->Same H H'->FrAt C H' r x->Q (.ref r) H'
noncomputable def spLow (C:Addr):Sp:=λ vs H Q _=>∃ t b:Int,vs=[.int t,.int b]/\∀ (r dx:Addr) (H':Hp),H r=none->Same H H'->H' r=some (.ins C dx (ff t b))->Q (.ref r) H'
noncomputable def spR2 (C:Addr) (f:Rat->Rat->Rat) (pre:Rat->Rat->Prop):Sp:=λ vs H Q _=>∃ (p q:Addr) (x y:Rat),vs=[.ref p,.ref q]/\FrAt C H p x/\FrAt C H q y/\SmR x/\SmR y/\pre x y/\NewFr C H Q (f x y)
theorem mk_fr {H:Hp} {a b:Int} {Q:VK} {E:XK} {x dx:Addr} (nx:H x=none) (nd:H dx=none) (hb:b≠0) (hs:Sm b) (k:∀ H':Hp,Same H H'->FrAt C H' x (Rat.divInt a b)->Q .non H') :
  spInit C [.ref x,.int a,.int b] (upd (upd H dx (.own x)) x (.ins C dx [])) Q E:=by
 refine ⟨x,dx,a,b,rfl,ae,hb,hs,λ H' e=>?_⟩;subst e;refine k _ (λ c o e=>?_) ⟨dx,ae⟩;rw [af (aj e nx),af (aj e nx),af (aj e nd)];exact e
noncomputable def tMkFr (C:Addr) (dvs:List V) (t:TA):TE:=λ σ H Q=>t σ H λ vs H1=>∃ a b:Int,vs++dvs=[.int a,.int b]/\b≠0/\Sm b/\NewFr C H1 Q (Rat.divInt a b)
theorem bp {dvs:List V} {x:Str} (F:MkB X.prog X.w X.K X.mg X.base CX C k ["self","top","bottom"] dvs (spInit C)) (hr:Room j X.A) (hm:X.mg x=some (.ref C)) (hx:cb CX X E) (ha:PA X (e::es) t) (hj:k+1<=j:=by decide) (hg:Gl X x:=by rfl) (hdb:(x == ("__debug__":Str))=false:=by decide)
  (he:starEach (e::es) X.env=(false,eval e X.env)::starEach es X.env:=by rfl) (hpl:(backTo pos (starEach es X.env)).any (·.1)=false:=by rfl):PE X (.Call (.Name x p) (e::es) [] pos) (tMkFr C dvs t):=by
 obtain ⟨f,fd,ds,M,b,c,d⟩:=F;intro pins s σ H Q I h;refine wpAny_Call_Name_kw (gA I hg hm ?_ hdb);refine PySem.W.callWith_K (h₀:=X.base) I.ok.mod.kin M.kp (thn (ha pos pins s σ H _ I h) λ us s1 ⟨vs,H1,I1,r,a',b',ev,hb,hs,q⟩=>⟨I1.kIn,?_⟩) he hpl;refine run_make M d (hr.mono hj) b c hx I1 r λ y dx n1 n2 _=>?_;rw [ev];exact mk_fr n1 n2 hb hs λ H' s' f'=>⟨rfl,q y H' n1 s' f'⟩
end
end G
namespace G
open PySem L2
noncomputable def aK (i:Nat):Stmt:=PySem.Challenge.pw_gainstream_k39_whole_plain_ways.main.body.getD i (.Pass ⟨0,0,0,0⟩)
noncomputable abbrev s_divisor:Stmt:=aK 11
noncomputable abbrev c7:Stmt:=aK 13
noncomputable abbrev s_total:Stmt:=aK 14
noncomputable abbrev s_amount:Stmt:=aK 16
noncomputable abbrev c6:Stmt:=aK 17
noncomputable abbrev cq:Stmt:=aK 18
noncomputable abbrev cJ:Stmt:=aK 19
noncomputable abbrev s_sums:Stmt:=aK 20
noncomputable abbrev s_together:Stmt:=aK 21
noncomputable abbrev s_scaled:Stmt:=aK 22
noncomputable abbrev fZ:Stmt:=aK 24
noncomputable abbrev s_ways_of:Stmt:=aK 26
noncomputable abbrev s_gain_of:Stmt:=aK 27
noncomputable abbrev s_sent:Stmt:=aK 28
noncomputable abbrev eM:Stmt:=aK 31
noncomputable abbrev s_least:Stmt:=aK 32
noncomputable abbrev s_by_start:Stmt:=aK 33
noncomputable abbrev s_ring_in:Stmt:=aK 34
noncomputable abbrev f9:Stmt:=aK 35
noncomputable abbrev s_less:Stmt:=aK 36
noncomputable abbrev fw:Stmt:=aK 38
noncomputable abbrev dY:Stmt:=aK 47
noncomputable abbrev s_check_way:Stmt:=aK 48
noncomputable abbrev eL:Stmt:=aK 49
noncomputable abbrev fB:Stmt:=aK 52
noncomputable abbrev s_law_names:Stmt:=aK 53
noncomputable abbrev s_law_way:Stmt:=aK 54
noncomputable abbrev s_law_net:Stmt:=aK 55
noncomputable abbrev s_law_plus:Stmt:=aK 56
noncomputable abbrev s_law_whole:Stmt:=aK 57
noncomputable abbrev s_law_told:Stmt:=aK 58
noncomputable abbrev gf:Stmt:=aK 59
noncomputable abbrev s_law_ways:Stmt:=aK 60
noncomputable abbrev s_law_due:Stmt:=aK 61
noncomputable abbrev s_law_added:Stmt:=aK 62
noncomputable abbrev gc:Stmt:=aK 63
noncomputable abbrev fA:Stmt:=aK 64
noncomputable abbrev gd:Stmt:=aK 65
noncomputable abbrev s_law_alike:Stmt:=aK 66
noncomputable abbrev s_law:Stmt:=aK 67
noncomputable abbrev eC:Stmt:=aJ (aK 12) 0
noncomputable abbrev d9:Stmt:=aJ (aK 12) 1
noncomputable abbrev dF:Stmt:=aJ (aK 12) 2
noncomputable abbrev dE:Stmt:=aJ (aK 12) 3
noncomputable abbrev eu:Stmt:=aJ (aK 12) 4
noncomputable abbrev dD:Stmt:=aJ (aK 12) 5
noncomputable abbrev dZ:Stmt:=aJ (aK 12) 7
noncomputable abbrev s_End_init:Stmt:=aJ (aK 30) 0
noncomputable abbrev fE:Stmt:=aJ (aK 37) 0
noncomputable abbrev dC:Stmt:=aJ (aK 37) 1
noncomputable abbrev cL:Stmt:=aJ (aK 37) 2
noncomputable abbrev dA:Stmt:=aJ (aK 37) 3
noncomputable abbrev cK:Stmt:=aJ (aK 37) 4
noncomputable abbrev cM:Stmt:=aJ (aK 37) 5
noncomputable abbrev dP:Stmt:=aJ (aK 40) 0
noncomputable abbrev s_Way_may_stay:Stmt:=aJ (aK 40) 1
noncomputable abbrev s_Way_gain:Stmt:=aJ (aK 40) 2
noncomputable abbrev cG:Stmt:=aJ (aK 40) 3
noncomputable abbrev cO:Stmt:=aJ (aK 41) 0
noncomputable abbrev eO:Stmt:=aJ (aK 41) 1
noncomputable abbrev cN:Stmt:=aJ (aK 42) 0
noncomputable abbrev bZ:Stmt:=aJ (aK 42) 1
noncomputable abbrev s_Store_init:Stmt:=aJ (aK 43) 0
noncomputable abbrev s_Store_may_stay:Stmt:=aJ (aK 43) 1
noncomputable abbrev s_Net_init:Stmt:=aJ (aK 50) 0
noncomputable abbrev s_Net_names:Stmt:=aJ (aK 50) 1
noncomputable abbrev s_Net_want:Stmt:=aJ (aK 50) 2
noncomputable abbrev s_Net_way:Stmt:=aJ (aK 50) 3
noncomputable abbrev eN:Stmt:=aJ (aK 50) 4
structure Ad where
 Fraction:Addr
 End:Addr
 Taking:Addr
 Way:Addr
 Growing:Addr
 Leaking:Addr
 Store:Addr
 Net:Addr
 GainError:Addr
 NoNumber:Addr
 TooMany:Addr
 NoWay:Addr
 Broken:Addr
 Twice:Addr
 NoPlace:Addr
 OverBound:Addr
structure TX (K:W.Frag) (mg:Str->Option Value) (a:Ad):Prop where
 d_divisor:FDe K mg "divisor" s_divisor ["one","other"]
 d_in_lowest_terms:FDe K mg "in_lowest_terms" c7 ["top","bottom"]
 d_total:FDe K mg "total" s_total ["some"]
 d_amount:FDe K mg "amount" s_amount ["plan","name"]
 d_without_noughts:FDe K mg "without_noughts" c6 ["plan"]
 d_refuse_other_names:FDe K mg "refuse_other_names" cq ["net","plan"]
 d_sums_of_own_ways:FDe K mg "sums_of_own_ways" cJ ["net","plan"]
 d_sums:FDe K mg "sums" s_sums ["net","plan"]
 d_together:FDe K mg "together" s_together ["one","other"]
 d_scaled:FDe K mg "scaled" s_scaled ["plan","number"]
 d_ring_along:FDe K mg "ring_along" fZ ["pointers","place"]
 d_ways_of:FDe K mg "ways_of" s_ways_of ["net","walk"]
 d_gain_of:FDe K mg "gain_of" s_gain_of ["net","walk"]
 d_sent:FDe K mg "sent" s_sent ["net","walk","amount"]
 d_refuse_unfit:FDe K mg "refuse_unfit" eM ["net","plan"]
 d_least:FDe K mg "least" s_least ["numbers"]
 d_by_start:FDe K mg "by_start" s_by_start ["ways"]
 d_ring_in:FDe K mg "ring_in" s_ring_in ["net","plan"]
 d_most_along:FDe K mg "most_along" f9 ["plan","unit"]
 d_less:FDe K mg "less" s_less ["plan","unit","amount"]
 d_taken_apart:FDe K mg "taken_apart" fw ["net","plan"]
 d_wants_by_name:FDe K mg "wants_by_name" dY ["places"]
 d_check_way:FDe K mg "check_way" s_check_way ["way","ahead","wants"]
 d_ways_by_name:FDe K mg "ways_by_name" eL ["ways","wants"]
 d_law_cell_at:FDe K mg "_law_cell_at" fB ["_law_script","_law_k"]
 d_law_names:FDe K mg "_law_names" s_law_names ["_law_cell","_law_count"]
 d_law_way:FDe K mg "_law_way" s_law_way ["_law_name","_law_parts"]
 d_law_net:FDe K mg "_law_net" s_law_net ["_law_spots","_law_ways_here"]
 d_law_plus:FDe K mg "_law_plus" s_law_plus ["_law_one","_law_other"]
 d_law_whole:FDe K mg "_law_whole" s_law_whole ["_law_found"]
 d_law_told:FDe K mg "_law_told" s_law_told ["_law_found"]
 d_law_formed:FDe K mg "_law_formed" gf ["_law_strand_here"]
 d_law_ways:FDe K mg "_law_ways" s_law_ways ["_law_script","_law_spots","_law_many"]
 d_law_due:FDe K mg "_law_due" s_law_due ["_law_script","_law_ways_here"]
 d_law_added:FDe K mg "_law_added" s_law_added ["_law_some","_law_key","_law_put"]
 d_law_walked:FDe K mg "_law_walked" gc ["_law_ways_here","_law_walk"]
 d_law_changes:FDe K mg "_law_changes" fA ["_law_ways_here","_law_due_here"]
 d_law_strand:FDe K mg "_law_strand" gd ["_law_ways_here","_law_over","_law_by_way","_law_by_ends","_law_strand_here"]
 d_law_alike:FDe K mg "_law_alike" s_law_alike ["_law_keys","_law_one","_law_other"]
 d_law:FDe K mg "law" s_law ["_law_script"]
 cl_Fraction:Cls K a.Fraction
 mg_Fraction:mg "Fraction"=some (.ref a.Fraction)
 na_Fraction_top:NoAttr K a.Fraction "top"
 na_Fraction_bottom:NoAttr K a.Fraction "bottom"
 i_Fraction:IDe K a.Fraction "Fraction.__init__" eC ["self","top","bottom"] [[],[V.int 1]]
 m_Fraction_plus:MDe K a.Fraction "plus" "Fraction.plus" d9 ["self","other"]
 m_Fraction_minus:MDe K a.Fraction "minus" "Fraction.minus" dF ["self","other"]
 m_Fraction_times:MDe K a.Fraction "times" "Fraction.times" dE ["self","other"]
 m_Fraction_over:MDe K a.Fraction "over" "Fraction.over" eu ["self","other"]
 m_Fraction_under:MDe K a.Fraction "under" "Fraction.under" dD ["self","other"]
 m_Fraction_sign:MDe K a.Fraction "sign" "Fraction.sign" dZ ["self"]
 c1_Fraction:PySem.W.findIn K (.ref a.Fraction) "__class__"=some (some (.builtin "object.__class__"))
 c4_Fraction:PySem.W.mroIn K a.Fraction (.type "object")=some true
 cl_End:Cls K a.End
 mg_End:mg "End"=some (.ref a.End)
 na_End_place:NoAttr K a.End "place"
 na_End_ring:NoAttr K a.End "ring"
 na_End_rest:NoAttr K a.End "rest"
 i_End:IDe K a.End "End.__init__" s_End_init ["self","place","ring","rest"] [[]]
 cl_Taking:Cls K a.Taking
 mg_Taking:mg "Taking"=some (.ref a.Taking)
 na_Taking_on:NoAttr K a.Taking "on"
 na_Taking_rest:NoAttr K a.Taking "rest"
 na_Taking_strands:NoAttr K a.Taking "strands"
 na_Taking_sources:NoAttr K a.Taking "sources"
 na_Taking_sinks:NoAttr K a.Taking "sinks"
 i_Taking:IDe K a.Taking "Taking.__init__" fE ["self","net","plan"] [[]]
 m_Taking_add_end:MDe K a.Taking "add_end" "Taking.add_end" dC ["self","place","ring","come"]
 m_Taking_take_ring:MDe K a.Taking "take_ring" "Taking.take_ring" cL ["self","ring"]
 m_Taking_sink_at:MDe K a.Taking "sink_at" "Taking.sink_at" dA ["self","place"]
 m_Taking_take_road:MDe K a.Taking "take_road" "Taking.take_road" cK ["self","source"]
 m_Taking_take_path:MDe K a.Taking "take_path" "Taking.take_path" cM ["self","source","path","sink"]
 cl_Way:Cls K a.Way
 mg_Way:mg "Way"=some (.ref a.Way)
 na_Way_name:NoAttr K a.Way "name"
 na_Way_start:NoAttr K a.Way "start"
 na_Way_goal:NoAttr K a.Way "goal"
 na_Way_high:NoAttr K a.Way "high"
 na_Way_cost:NoAttr K a.Way "cost"
 i_Way:IDe K a.Way "Way.__init__" dP ["self","name","start","goal","high","cost"] [[],[V.non,V.non]]
 c_Way:CDe K a.Way "Way.__init__" dP ["self","name","start","goal","high","cost"]
 m_Way_gain:MDe K a.Way "gain" "Way.gain" s_Way_gain ["self"]
 m_Way_out:MDe K a.Way "out" "Way.out" cG ["self","amount"]
 c1_Way:PySem.W.findIn K (.ref a.Way) "__class__"=some (some (.builtin "object.__class__"))
 c4_Way:PySem.W.mroIn K a.Way (.type "object")=some true
 cl_Growing:Cls K a.Growing
 mg_Growing:mg "Growing"=some (.ref a.Growing)
 na_Growing_rate:NoAttr K a.Growing "rate"
 na_Growing_name:NoAttr K a.Growing "name"
 na_Growing_start:NoAttr K a.Growing "start"
 na_Growing_goal:NoAttr K a.Growing "goal"
 na_Growing_high:NoAttr K a.Growing "high"
 na_Growing_cost:NoAttr K a.Growing "cost"
 i_Growing:IDe K a.Growing "Growing.__init__" cO ["self","name","start","goal","rate","high","cost"] [[],[V.non,V.non]]
 m_Growing_gain:MDe K a.Growing "gain" "Growing.gain" eO ["self"]
 m_Growing_out:MDe K a.Growing "out" "Way.out" cG ["self","amount"]
 c1_Growing:PySem.W.findIn K (.ref a.Growing) "__class__"=some (some (.builtin "object.__class__"))
 c4_Growing:PySem.W.mroIn K a.Growing (.type "object")=some true
 cl_Leaking:Cls K a.Leaking
 mg_Leaking:mg "Leaking"=some (.ref a.Leaking)
 na_Leaking_loss:NoAttr K a.Leaking "loss"
 na_Leaking_name:NoAttr K a.Leaking "name"
 na_Leaking_start:NoAttr K a.Leaking "start"
 na_Leaking_goal:NoAttr K a.Leaking "goal"
 na_Leaking_high:NoAttr K a.Leaking "high"
 na_Leaking_cost:NoAttr K a.Leaking "cost"
 i_Leaking:IDe K a.Leaking "Leaking.__init__" cN ["self","name","start","goal","loss","high","cost"] [[],[V.non,V.non]]
 m_Leaking_gain:MDe K a.Leaking "gain" "Leaking.gain" bZ ["self"]
 m_Leaking_out:MDe K a.Leaking "out" "Way.out" cG ["self","amount"]
 c1_Leaking:PySem.W.findIn K (.ref a.Leaking) "__class__"=some (some (.builtin "object.__class__"))
 c4_Leaking:PySem.W.mroIn K a.Leaking (.type "object")=some true
 cl_Store:Cls K a.Store
 mg_Store:mg "Store"=some (.ref a.Store)
 na_Store_loss:NoAttr K a.Store "loss"
 na_Store_name:NoAttr K a.Store "name"
 na_Store_start:NoAttr K a.Store "start"
 na_Store_goal:NoAttr K a.Store "goal"
 na_Store_high:NoAttr K a.Store "high"
 na_Store_cost:NoAttr K a.Store "cost"
 m_Store_gain:MDe K a.Store "gain" "Leaking.gain" bZ ["self"]
 m_Store_out:MDe K a.Store "out" "Way.out" cG ["self","amount"]
 c1_Store:PySem.W.findIn K (.ref a.Store) "__class__"=some (some (.builtin "object.__class__"))
 c4_Store:PySem.W.mroIn K a.Store (.type "object")=some true
 cl_Net:Cls K a.Net
 mg_Net:mg "Net"=some (.ref a.Net)
 na_Net_wants:NoAttr K a.Net "wants"
 na_Net_ways:NoAttr K a.Net "ways"
 i_Net:IDe K a.Net "Net.__init__" s_Net_init ["self","places","ways"] [[]]
 m_Net_names:MDe K a.Net "names" "Net.names" s_Net_names ["self"]
 m_Net_way:MDe K a.Net "way" "Net.way" s_Net_way ["self","name"]
 m_Net_all_ways:MDe K a.Net "all_ways" "Net.all_ways" eN ["self"]
 no_Net_times:PySem.W.findIn K (.ref a.Net) "times"=some none
 no_Net_out:PySem.W.findIn K (.ref a.Net) "out"=some none
 c2:PySem.W.specialIn K (.builtin "object.__class__") "__get__"=some (some (.builtin "getset_descriptor.__get__"))
 c3:PySem.W.takesIn K (.builtin "object.__class__")=some true
 mg_GainError:mg "GainError"=some (.ref a.GainError)
 mg_NoNumber:mg "NoNumber"=some (.ref a.NoNumber)
 mg_TooMany:mg "TooMany"=some (.ref a.TooMany)
 mg_NoWay:mg "NoWay"=some (.ref a.NoWay)
 mg_Broken:mg "Broken"=some (.ref a.Broken)
 mg_Twice:mg "Twice"=some (.ref a.Twice)
 mg_NoPlace:mg "NoPlace"=some (.ref a.NoPlace)
 mg_OverBound:mg "OverBound"=some (.ref a.OverBound)
 k_Fraction_Fraction:PySem.W.kitOne K (.ref a.Fraction) (.ref a.Fraction)=some true
 k_Way_Store:PySem.W.kitOne K (.ref a.Way) (.ref a.Store)=some false
 k_Growing_Store:PySem.W.kitOne K (.ref a.Growing) (.ref a.Store)=some false
 k_Leaking_Store:PySem.W.kitOne K (.ref a.Leaking) (.ref a.Store)=some false
 k_int_bool:PySem.W.kitOne K (.type "int") (.type "bool")=some false
 k_int_int:PySem.W.kitOne K (.type "int") (.type "int")=some true
 k_list_list:PySem.W.kitOne K (.type "list") (.type "list")=some true
 k_tuple_tuple:PySem.W.kitOne K (.type "tuple") (.type "tuple")=some true
 gi_MOST_PLACES:∃ tk,mg "MOST_PLACES"=some (.int 12 tk)
 gi_MOST_WAYS:∃ tk,mg "MOST_WAYS"=some (.int 24 tk)
 z_abs:mg "abs"=none
 z_bool:mg "bool"=none
 z_dict:mg "dict"=none
 z_int:mg "int"=none
 z_isinstance:mg "isinstance"=none
 z_len:mg "len"=none
 z_list:mg "list"=none
 z_range:mg "range"=none
 z_set:mg "set"=none
 z_tuple:mg "tuple"=none
open PySem L2 in
local macro_rules | `(tactic| walk_at "sc") => `(tactic| exact ⟨rfl, rfl, rfl, by decide +kernel, rfl, by decide +kernel, by decide +kernel⟩)
structure Bt (i:Int):Prop where
 le:Builtin.Int.intBits i<=2 ^ 20
inductive IspLaw (K:W.Frag) (vs:List V) (H:Hp) (Q:VK):Prop
 | mk (l:Addr) (ns:List Int) (h1:vs=[.ref l]) (h2:SqL K H l (ns.map V.int)) (h3:ns.length<=63) (h4:(∀ i∈ns,Bt i)) (h5:∀ H',Q (.bl true) H'):IspLaw K vs H Q
noncomputable def spLaw (K:W.Frag):Sp:=λ vs H Q _=>IspLaw K vs H Q
structure Zz where
 P:Program
 w:World
 K:W.Frag
 mg:Str->Option Value
 base:Heap
 a:Ad
noncomputable def ZzB (z:Zz):Prop:=TX z.K z.mg z.a->∀ f fd,Fun z.K "law" "law" s_law f fd->FnOk z.P z.w z.K z.mg z.base CX0 20 f fd ["_law_script"] (spLaw z.K)
theorem Zz.ex:∃ z:Zz,ZzB z->∀ z,ZzB z:=by
 by_cases h:∃ z,¬ ZzB z
 ·obtain ⟨z,hz⟩:=h;exact ⟨z,λ k=>absurd k hz⟩
 ·exact ⟨⟨default,⟨λ _ _=>0,⟨λ _=>0,λ _=>0,λ t=>t,λ _=>0,λ _ _=>0,λ _=>false,λ _=>0,.refcount,.text,λ _=>0,λ _=>none,λ _=>false,λ _ _ _=>true,λ _ _ _=>true,true,λ _=>false,λ _=>none,λ _=>none,λ _ _ _=>0,λ _ _=>none,λ _=>none,λ _=>(0,false,Str.ofString ""),λ _=>none,λ d=>d,λ _=>false⟩⟩,[],λ _=>none,default,⟨0,0,0,0,0,0,0,0,0,0,0,0,0,0,0,0⟩⟩,λ _ z=>hX λ k=>h ⟨z,k⟩⟩
@[irreducible] noncomputable def zz:Zz:=Classical.choose Zz.ex
@[irreducible] noncomputable def P:Program:=zz.P
@[irreducible] noncomputable def w:World:=zz.w
@[irreducible] noncomputable def K:W.Frag:=zz.K
@[irreducible] noncomputable def mg:Str->Option Value:=zz.mg
@[irreducible] noncomputable def base:Heap:=zz.base
@[irreducible] noncomputable def a:Ad:=zz.a
theorem zz_all (h:TX K mg a->∀ f fd,Fun K "law" "law" s_law f fd->FnOk P w K mg base CX0 20 f fd ["_law_script"] (spLaw K)):∀ z,ZzB z:=by
 unfold K mg a P w base zz at h;exact Classical.choose_spec Zz.ex h
section
theorem sc_divisor:FnScope ["one","other","rest"] ["one","other"] (ai s_divisor):=by walk_at "sc"
theorem sc_in_lowest_terms:FnScope ["top","bottom","made"] ["top","bottom"] (ai c7):=by walk_at "sc"
theorem sc_total:FnScope ["some","top","bottom","shared","number","common","own","left"] ["some"] (ai s_total):=by walk_at "sc"
theorem sc_amount:FnScope ["plan","name"] ["plan","name"] (ai s_amount):=by walk_at "sc"
theorem sc_without_noughts:FnScope ["plan","kept","name","part"] ["plan"] (ai c6):=by walk_at "sc"
theorem sc_refuse_other_names:FnScope ["net","plan","name"] ["net","plan"] (ai cq):=by walk_at "sc"
theorem sc_sums_of_own_ways:FnScope ["net","plan","result","place","way","part"] ["net","plan"] (ai cJ):=by walk_at "sc"
theorem sc_sums:FnScope ["net","plan"] ["net","plan"] (ai s_sums):=by walk_at "sc"
theorem sc_together:FnScope ["one","other","added","name","part"] ["one","other"] (ai s_together):=by walk_at "sc"
theorem sc_scaled:FnScope ["plan","number","result","name","part"] ["plan","number"] (ai s_scaled):=by walk_at "sc"
theorem sc_ring_along:FnScope ["pointers","place","seen","ring"] ["pointers","place"] (ai fZ):=by walk_at "sc"
theorem sc_ways_of:FnScope ["net","walk","ways","name","way"] ["net","walk"] (ai s_ways_of):=by walk_at "sc"
theorem sc_gain_of:FnScope ["net","walk","gain","way"] ["net","walk"] (ai s_gain_of):=by walk_at "sc"
theorem sc_sent:FnScope ["net","walk","amount","parts","going","way","plan","name","some"] ["net","walk","amount"] (ai s_sent):=by walk_at "sc"
theorem sc_refuse_unfit:FnScope ["net","plan","name","part"] ["net","plan"] (ai eM):=by walk_at "sc"
theorem sc_least:FnScope ["numbers","found","number"] ["numbers"] (ai s_least):=by walk_at "sc"
theorem sc_by_start:FnScope ["ways","found","way"] ["ways"] (ai s_by_start):=by walk_at "sc"
theorem sc_ring_in:FnScope ["net","plan","ways","onward","kept"] ["net","plan"] (ai s_ring_in):=by walk_at "sc"
theorem sc_most_along:FnScope ["plan","unit"] ["plan","unit"] (ai f9):=by walk_at "sc"
theorem sc_less:FnScope ["plan","unit","amount"] ["plan","unit","amount"] (ai s_less):=by walk_at "sc"
theorem sc_taken_apart:FnScope ["net","plan","taking","ring","source"] ["net","plan"] (ai fw):=by walk_at "sc"
theorem sc_wants_by_name:FnScope ["places","wants","name","want"] ["places"] (ai dY):=by walk_at "sc"
theorem sc_check_way:FnScope ["way","ahead","wants","place"] ["way","ahead","wants"] (ai s_check_way):=by walk_at "sc"
theorem sc_ways_by_name:FnScope ["ways","wants","ahead","way"] ["ways","wants"] (ai eL):=by walk_at "sc"
theorem sc_law_cell_at:FnScope ["_law_script","_law_k"] ["_law_script","_law_k"] (ai fB):=by walk_at "sc"
theorem sc_law_names:FnScope ["_law_cell","_law_count","_law_signs","_law_fill","_law_at"] ["_law_cell","_law_count"] (ai s_law_names):=by walk_at "sc"
theorem sc_law_way:FnScope ["_law_name","_law_parts","_law_gain"] ["_law_name","_law_parts"] (ai s_law_way):=by walk_at "sc"
theorem sc_law_net:FnScope ["_law_spots","_law_ways_here"] ["_law_spots","_law_ways_here"] (ai s_law_net):=by walk_at "sc"
theorem sc_law_plus:FnScope ["_law_one","_law_other"] ["_law_one","_law_other"] (ai s_law_plus):=by walk_at "sc"
theorem sc_law_whole:FnScope ["_law_found"] ["_law_found"] (ai s_law_whole):=by walk_at "sc"
theorem sc_law_told:FnScope ["_law_found"] ["_law_found"] (ai s_law_told):=by walk_at "sc"
theorem sc_law_formed:FnScope ["_law_strand_here","_law_k","_law_put"] ["_law_strand_here"] (ai gf):=by walk_at "sc"
theorem sc_law_ways:FnScope ["_law_script","_law_spots","_law_many","_law_labels","_law_count","_law_ways_here","_law_k","_law_cell","_law_start","_law_goal"] ["_law_script","_law_spots","_law_many"] (ai s_law_ways):=by walk_at "sc"
theorem sc_law_due:FnScope ["_law_script","_law_ways_here","_law_due_here","_law_labels","_law_k","_law_cell"] ["_law_script","_law_ways_here"] (ai s_law_due):=by walk_at "sc"
theorem sc_law_added:FnScope ["_law_some","_law_key","_law_put"] ["_law_some","_law_key","_law_put"] (ai s_law_added):=by walk_at "sc"
theorem sc_law_walked:FnScope ["_law_ways_here","_law_walk","_law_places","_law_name"] ["_law_ways_here","_law_walk"] (ai gc):=by walk_at "sc"
theorem sc_law_changes:FnScope ["_law_ways_here","_law_due_here","_law_over","_law_name"] ["_law_ways_here","_law_due_here"] (ai fA):=by walk_at "sc"
theorem sc_law_strand:FnScope ["_law_ways_here","_law_over","_law_by_way","_law_by_ends","_law_strand_here","_law_put","_law_places","_law_name"] ["_law_ways_here","_law_over","_law_by_way","_law_by_ends","_law_strand_here"] (ai gd):=by walk_at "sc"
theorem sc_law_alike:FnScope ["_law_keys","_law_one","_law_other","_law_key","_law_left","_law_right"] ["_law_keys","_law_one","_law_other"] (ai s_law_alike):=by walk_at "sc"
theorem sc_law:FnScope ["_law_script","_law_cell","_law_spots","_law_ways_here","_law_due_here","_law_net_here","_law_plan","_law_name","_law_found","_law_over","_law_by_way","_law_by_ends","_law_strand_here","_law_many"] ["_law_script"] (ai s_law):=by walk_at "sc"
theorem sc_Fraction_init:FnScope ["self","top","bottom","common"] ["self","top","bottom"] (ai eC):=by walk_at "sc"
theorem sc_Fraction_plus:FnScope ["self","other","common","own","top","left"] ["self","other"] (ai d9):=by walk_at "sc"
theorem fX:FnScope ["self","other"] ["self","other"] (ai dF):=by walk_at "sc"
theorem sc_Fraction_times:FnScope ["self","other","first","second","top"] ["self","other"] (ai dE):=by walk_at "sc"
theorem sc_Fraction_over:FnScope ["self","other"] ["self","other"] (ai eu):=by walk_at "sc"
theorem fW:FnScope ["self","other"] ["self","other"] (ai dD):=by walk_at "sc"
theorem sc_Fraction_sign:FnScope ["self"] ["self"] (ai dZ):=by walk_at "sc"
theorem sc_End_init:FnScope ["self","place","ring","rest"] ["self","place","ring","rest"] (ai s_End_init):=by walk_at "sc"
theorem sc_Taking_init:FnScope ["self","net","plan","place","come"] ["self","net","plan"] (ai fE):=by walk_at "sc"
theorem fV:FnScope ["self","place","ring","come"] ["self","place","ring","come"] (ai dC):=by walk_at "sc"
theorem sc_Taking_take_ring:FnScope ["self","ring","unit","amount","eaten"] ["self","ring"] (ai cL):=by walk_at "sc"
theorem sc_Taking_sink_at:FnScope ["self","place","end"] ["self","place"] (ai dA):=by walk_at "sc"
theorem sc_Taking_take_road:FnScope ["self","source","onward","path","place"] ["self","source"] (ai cK):=by walk_at "sc"
theorem sc_Taking_take_path:FnScope ["self","source","path","sink","unit","gain","amount"] ["self","source","path","sink"] (ai cM):=by walk_at "sc"
theorem sc_Way_init:FnScope ["self","name","start","goal","high","cost"] ["self","name","start","goal","high","cost"] (ai dP):=by walk_at "sc"
theorem sc_Way_gain:FnScope ["self"] ["self"] (ai s_Way_gain):=by walk_at "sc"
theorem dO:FnScope ["self","amount"] ["self","amount"] (ai cG):=by walk_at "sc"
theorem sc_Growing_init:FnScope ["self","name","start","goal","rate","high","cost"] ["self","name","start","goal","rate","high","cost"] (ai cO):=by walk_at "sc"
theorem sc_Growing_gain:FnScope ["self"] ["self"] (ai eO):=by walk_at "sc"
theorem sc_Leaking_init:FnScope ["self","name","start","goal","loss","high","cost"] ["self","name","start","goal","loss","high","cost"] (ai cN):=by walk_at "sc"
theorem dX:FnScope ["self"] ["self"] (ai bZ):=by walk_at "sc"
theorem sc_Net_init:FnScope ["self","places","ways"] ["self","places","ways"] (ai s_Net_init):=by walk_at "sc"
theorem sc_Net_names:FnScope ["self"] ["self"] (ai s_Net_names):=by walk_at "sc"
theorem sc_Net_way:FnScope ["self","name"] ["self","name"] (ai s_Net_way):=by walk_at "sc"
theorem sc_Net_all_ways:FnScope ["self"] ["self"] (ai eN):=by walk_at "sc"
end
end G
open PySem L2 in
local macro_rules | `(tactic| walk_at "kit") => `(tactic| first | exact G.TX.k_Fraction_Fraction (by assumption) | exact G.TX.k_Way_Store (by assumption) | exact G.TX.k_Growing_Store (by assumption) | exact G.TX.k_Leaking_Store (by assumption) | exact G.TX.k_int_bool (by assumption) | exact G.TX.k_int_int (by assumption) | exact G.TX.k_list_list (by assumption) | exact G.TX.k_tuple_tuple (by assumption))
open PySem L2 in
local macro_rules | `(tactic| walk_at "sm") => `(tactic| first | assumption | (refine And.left (?_ : G.SmR _); assumption) | (refine And.right (?_ : G.SmR _); assumption))
open PySem L2 in
local macro_rules | `(tactic| walk_at "fa") => `(tactic| first | rfl | assumption | exact True.intro | exact (fun _ h => h) | ((with_reducible show L2.TyOf _ _ _ _); first | exact TyOf.int _ | exact TyOf.str _ | exact TyOf.bl _ | exact TyOf.non | exact G.FrAt.ty (G.TX.fr (by assumption)) (by walk_at "fa")) | ((with_reducible show PySem.W.kitOne _ _ _ = _); walk_at "kit") | ((with_reducible show G.FrAt _ _ _ _); apply G.FrAt.up; assumption; walk_at "fa") | ((with_reducible show L2.SqL _ _ _ _); apply Same.seq; assumption; walk_at "fa") | (show (0 : Int) < _; decide) | (refine (And.intro ?_ ?_ : CDiv _ _) <;> decide) | (refine (And.intro ?_ (And.intro ?_ ?_) : CPow _ _) <;> decide) | exact (PySem.IntMulOk.of_right (by decide)) | exact (PySem.IntMulOk.of_left (by decide)) | (refine (And.intro ?_ ?_ : CMulB _ _) <;> walk_at "sm"))
open PySem L2 in
local macro_rules | `(tactic| walk_at "rd") => `(tactic| repeat (first | refine L2.ItVar.mk _ (by walk_at "fa") ?_ | refine L2.ItB.mk _ (by walk_at "fa") ?_ | refine L2.ItTest.mk _ (by walk_at "fa") ?_ | refine L2.IrU.mk _ (by walk_at "fa") ?_ | refine L2.IrI0.mk _ _ (by walk_at "fa") (by walk_at "fa") ?_ | refine L2.IrIxL.mk _ _ _ _ (by walk_at "fa") (by walk_at "fa") (by walk_at "fa") (by walk_at "fa") ?_ | refine L2.IrIxT.mk _ _ _ _ (by walk_at "fa") (by walk_at "fa") (by walk_at "fa") (by walk_at "fa") ?_ | refine L2.ItFld.mk _ _ _ _ _ (by walk_at "fa") (by walk_at "fa") (by walk_at "fa") (by walk_at "fa") (by walk_at "fa") ?_ | apply @Exists.intro V | apply @Exists.intro Int | apply @Exists.intro Addr | apply @Exists.intro Rat | apply @Exists.intro Bool | apply @Exists.intro Value | apply @Exists.intro (List V) | apply @Exists.intro (List (Str × V)) | apply @Exists.intro Str | apply @Exists.intro (List Int) | refine And.intro (by walk_at "fa") ?_ | refine L2.iteT ?_ | refine L2.iteF ?_))
namespace G
open PySem L2
section
theorem TX.fr (T:TX K mg a):FrC K a.Fraction:=⟨T.cl_Fraction,T.na_Fraction_top,T.na_Fraction_bottom,T.c1_Fraction,T.c2,T.c3,T.c4_Fraction⟩
theorem gcd_turn {a b n m:Int} (h:gcd n m=gcd a b) (hm:0<=m) (p:m≠0):0<=n % m/\n % m<m/\gcd m (n % m)=gcd a b:=
 ⟨Int.emod_nonneg n p,Int.emod_lt_of_pos n (by omega),by rw [gcd_step n m (by omega),h]⟩
theorem bR (T:TX K mg a):FnB P w K mg base CX0 "divisor" 1 ["one","other"] spDiv:=by
 refine T.d_divisor.ok sc_divisor (λ vs H Q E h=>?_) (λ f cdv A outer s H vs Q E hr h=>?_)
 ·obtain ⟨a,b,rfl,_⟩:=h;rfl
 ·obtain ⟨a,b,rfl,k⟩:=h
  refine ⟨_,(ab (al (i:=0) sc_divisor.nd rfl (Or.inl rfl) (aD call_abs (by rfl) T.z_abs PyProof.Rows.boot_abs (aa (pv 0) ad)))
   (ab (al (i:=1) sc_divisor.nd rfl (Or.inl rfl) (aD call_abs (by rfl) T.z_abs PyProof.Rows.boot_abs (aa (pv 1) ad)))
   (ab (dG gW (ar fI (pv 1) ag (av _)) (ab (al (i:=2) sc_divisor.nd rfl (Or.inl rfl) (ao bv (pv 0) (pv 1)))
   (ab (al (i:=0) sc_divisor.nd rfl (Or.inl rfl) (pv 1))
   (ah (al (i:=1) sc_divisor.nd rfl (Or.inl rfl) (pv 2))))))
   (ah (ap (pv 0)))))),?_⟩
  try dsimp only [aI,Cx.nox,Cx.wish]
  refine ⟨_,rfl,_,rfl,_,rfl,_,rfl,?_⟩;refine while_by (λ σ H'=>∃ (n m:Int) (r:Option V),σ=[some (.int n),some (.int m),r]/\H'=H/\0<=n/\0<=m/\gcd n m=gcd a b) (λ σ _=>match σ with | [_,some (.int m),_]=>m.toNat | _=>0) ?_ ?_ ?_
  ·refine ⟨_,_,_,rfl,rfl,?_,?_,gcd_abs a b⟩ <;> split <;> omega
  ·rintro σ H' ⟨n,m,r,rfl,rfl,hn,hm,hg⟩;refine ⟨_,rfl,rfl,_,rfl,?_⟩;by_cases z:m=0
   ·subst z;refine gB rfl ?_;refine ⟨_,rfl,?_⟩;rw [gcd_zero n hn] at hg;rw [hg];exact k
   ·refine eW (by rw [neV z];rfl) ?_;obtain ⟨g1,g2,g3⟩:=gcd_turn hg hm z;refine ⟨_,rfl,_,rfl,_,_,rfl,rfl,(by show (0:Int)<m;omega),_,rfl,_,rfl,⟨_,_,_,rfl,rfl,hm,g1,g3⟩,?_⟩;show (n % m).toNat<m.toNat;omega
  ·rintro σ H' Q1 Q2 hq ⟨v,e,s1,c,ec,q⟩;exact ⟨v,e,s1,c,ec,hq _ _ q⟩
theorem ok_init (T:TX K mg a):∀ dvs∈[[],[V.int 1]],MkB P w K mg base CX0 a.Fraction 2 ["self","top","bottom"] dvs (spInit a.Fraction):=by
 refine T.i_Fraction.ok sc_Fraction_init (λ vs H Q E h=>?_) (λ f cdv A outer s H vs Q E hr h=>?_)
 ·obtain ⟨p,dx,n,b,rfl,_⟩:=h;rfl
 ·obtain ⟨p,dx,n,b,rfl,hp,hb,sb,k⟩:=h
  refine ⟨_,(ab (aL (ar cR (pv 2) ag (av _)) (ah bn) aA)
   (ab (al (i:=3) sc_Fraction_init.nd rfl (Or.inl rfl) (ax (bR T) hr ak (aa (pv 1) (aa (pv 2) ad))))
   (ab (aL (ar eR (pv 2) ag (av _)) (ah (al (i:=3) sc_Fraction_init.nd rfl (Or.inl rfl) (fH dk (pv 3)))) aA)
   (ab (a5 (pv 0) (ao a8 (pv 1) (pv 3)) rfl)
   (ah (a5 (pv 0) (ao a8 (pv 2) (pv 3)) rfl)))))),?_⟩
  try dsimp only [aI,Cx.nox,Cx.wish]
  refine ⟨_,rfl,rfl,_,rfl,?_⟩;refine cE (neV hb) ?_;refine ⟨_,rfl,_,rfl,n,b,rfl,?_⟩;refine ⟨_,rfl,_,_,rfl,rfl,_,rfl,?_⟩;obtain ⟨i1,i2⟩:=init_spec n b hb;have gp:=bY n hb;have gs:=Sm.gcd_r n hb sb
  have fin:∀ c:Int,c≠0->Sm c->n.fdiv c=(Rat.divInt n b).num->b.fdiv c=((Rat.divInt n b).den:Int)->
    tSeq (sFld K (tVar 0) (tOp (rI CDivB λ i j=>.int (i.fdiv j)) (tVar 1) (tVar 3)) "top") (sFld K (tVar 0) (tOp (rI CDivB λ i j=>.int (i.fdiv j)) (tVar 2) (tVar 3)) "bottom") { nx:=λ _ H'=>Q .non H',rt:=Q } [some (.ref p),some (.int n),some (.int b),some (.int c)] H:=by
   intro c hc hs e1 e2;refine ⟨_,rfl,_,rfl,_,_,rfl,rfl,⟨hc,hs⟩,_,rfl,p,a.Fraction,dx,_,rfl,hp,T.cl_Fraction,T.na_Fraction_top,(by show 0<1000;decide),?_⟩;refine ⟨_,rfl,_,rfl,_,_,rfl,rfl,⟨hc,hs⟩,_,rfl,p,a.Fraction,dx,_,rfl,ae,T.cl_Fraction,T.na_Fraction_bottom,(by show 1<1000;decide),?_⟩;refine k _ ?_;rw [e7];dsimp only;rw [e1,e2,ff_new]
  refine ifB (λ hn=>?_) (λ hn=>?_)
  ·rw [if_pos hn] at i1 i2;refine ⟨_,rfl,_,rfl,?_⟩;exact fin _ (by omega) (gs.le (by omega)) i1 i2
  ·rw [if_neg hn] at i1 i2;exact fin _ (by omega) gs i1 i2
theorem sm1:Sm 1:=Nat.one_lt_two_pow (by decide)
theorem mk2 (T:TX K mg a):MkB P w K mg base CX0 a.Fraction 2 ["self","top","bottom"] [] (spInit a.Fraction):=ok_init T _ (by simp)
theorem mk1 (T:TX K mg a):MkB P w K mg base CX0 a.Fraction 2 ["self","top","bottom"] [.int 1] (spInit a.Fraction):=ok_init T _ (by simp)
theorem aX (T:TX K mg a):FnB P w K mg base CX0 "in_lowest_terms" 4 ["top","bottom"] (spLow a.Fraction):=by
 refine T.d_in_lowest_terms.ok sc_in_lowest_terms (λ vs H Q E h=>?_) (λ f cdv A outer s H vs Q E hr h=>?_)
 ·obtain ⟨t,b,rfl,_⟩:=h;rfl
 ·obtain ⟨t,b,rfl,k⟩:=h
  refine ⟨_,(ab (al (i:=2) sc_in_lowest_terms.nd rfl (Or.inl rfl) (bp (mk1 T) hr T.mg_Fraction ak (aa ag ad)))
   (ab (a5 (pv 2) (pv 0) rfl)
   (ab (a5 (pv 2) (pv 1) rfl)
   (ah (ap (pv 2)))))),?_⟩
  try dsimp only [aI,Cx.nox,Cx.wish]
  refine ⟨0,1,rfl,by decide,sm1,λ x H1 nx s1 ⟨dx,hx⟩=>?_⟩;refine ⟨_,rfl,_,rfl,x,a.Fraction,dx,_,rfl,hx,T.cl_Fraction,T.na_Fraction_top,(by show 2<1000;decide),?_⟩;refine ⟨_,rfl,_,rfl,x,a.Fraction,dx,_,rfl,ae,T.cl_Fraction,T.na_Fraction_bottom,(by show 2<1000;decide),?_⟩;refine ⟨_,rfl,?_⟩;refine k x dx _ nx (λ c o e=>?_) ?_
  ·rw [af (aj e nx),af (aj e nx)];exact s1 _ _ e
  ·rw [ae,ff_put]
noncomputable abbrev always:Rat->Rat->Prop:=λ _ _=>True
theorem ok_plus (T:TX K mg a):MtB P w K mg base CX0 a.Fraction "plus" 5 ["self","other"] (spR2 a.Fraction (λ x y=>x+y) always):=by
 refine T.m_Fraction_plus.ok sc_Fraction_plus (λ vs H Q E h=>?_) (λ f cdv A outer s H vs Q E hr h=>?_)
 ·obtain ⟨p,q,x,y,rfl,_⟩:=h;rfl
 ·obtain ⟨p,q,x,y,rfl,hp,hq,sx,sy,_,k⟩:=h
  refine ⟨_,(ab (al (i:=2) sc_Fraction_plus.nd rfl (Or.inl rfl) (ax (bR T) hr ak (aa (bM T.fr (pv 0)) (aa (bM T.fr (pv 1)) ad))))
   (ab (al (i:=3) sc_Fraction_plus.nd rfl (Or.inl rfl) (ao a8 (bM T.fr (pv 0)) (pv 2)))
   (ab (al (i:=4) sc_Fraction_plus.nd rfl (Or.inl rfl) (ao bO (ao ba (bL T.fr (pv 0)) (ao a8 (bM T.fr (pv 1)) (pv 2))) (ao ba (bL T.fr (pv 1)) (pv 3))))
   (ab (al (i:=5) sc_Fraction_plus.nd rfl (Or.inl rfl) (ax (bR T) hr ak (aa (pv 4) (aa (pv 2) ad))))
   (ah (ap (ax (aX T) hr ak (aa (ao a8 (pv 4) (pv 5)) (aa (ao ba (pv 3) (ao a8 (bM T.fr (pv 1)) (pv 5))) ad))))))))),?_⟩
  try dsimp only [aI,Cx.nox,Cx.wish]
  have hx:=den_ne x;have hy:=den_ne y;have xp:=di x;have yp:=di y;have gp:=bY (x.den:Int) hy;have gs:=Sm.gcd_r (x.den:Int) hy sy.2;have gn:gcd x.den y.den≠0:=by omega
  have so:Sm ((x.den:Int).fdiv (gcd x.den y.den)):=sx.2.le (dh _ gp (by omega));have so2:Sm ((y.den:Int).fdiv (gcd x.den y.den)):=sy.2.le (dh _ gp (by omega));refine ⟨_,rfl,p,x,rfl,hp,_,rfl,q,y,rfl,hq,_,_,rfl,?_⟩;refine ⟨_,rfl,p,x,rfl,hp,_,rfl,_,_,rfl,rfl,⟨by omega,gs⟩,?_⟩;refine ⟨_,rfl,p,x,rfl,hp,_,rfl,q,y,rfl,hq,_,rfl,_,_,rfl,rfl,⟨by omega,gs⟩,_,_,rfl,rfl,⟨sx.1,so2⟩,_,rfl,q,y,rfl,hq,_,rfl,_,_,rfl,rfl,⟨sy.1,so⟩,_,_,rfl,rfl,?_⟩;refine ⟨_,rfl,_,rfl,_,_,rfl,?_⟩;generalize htop:x.num*(y.den:Int).fdiv (gcd x.den y.den)+y.num*(x.den:Int).fdiv (gcd x.den y.den)=top;have lp:=bY top gn;have ls:=Sm.gcd_r top gn gs;refine ⟨_,rfl,_,rfl,_,_,rfl,rfl,⟨by omega,ls⟩,_,rfl,_,rfl,q,y,rfl,hq,_,rfl,_,_,rfl,rfl,⟨by omega,ls⟩,_,_,rfl,rfl,⟨so,sy.2.le (dh _ lp (by omega))⟩,_,_,rfl,?_⟩;intro r dx H' nr s1 h1;obtain ⟨e1,e2⟩:=add_spec x y;try dsimp only at e1 e2
  rw [htop] at e1 e2;refine k r H' nr s1 ⟨dx,?_⟩;show H' r=some (.ins a.Fraction dx (ff (x+y).num (x+y).den));try rw [htop] at h1
  rw [h1,<- e1,<- e2]
theorem cS (T:TX K mg a):MtB P w K mg base CX0 a.Fraction "minus" 6 ["self","other"] (spR2 a.Fraction (λ x y=>x-y) always):=by
 refine T.m_Fraction_minus.ok fX (λ vs H Q E h=>?_) (λ f cdv A outer s H vs Q E hr h=>?_)
 ·obtain ⟨p,q,x,y,rfl,_⟩:=h;rfl
 ·obtain ⟨p,q,x,y,rfl,hp,hq,sx,sy,_,k⟩:=h;refine ⟨_,(ah (ap (bE T.fr (pv 0) (ok_plus T) hr ak (aa (ax (aX T) hr ak (aa (fH dk (bL T.fr (pv 1))) (aa (bM T.fr (pv 1)) ad))) ad)))),?_⟩;try dsimp only [aI,Cx.nox,Cx.wish]
  refine ⟨_,rfl,p,x,rfl,hp,_,rfl,q,y,rfl,hq,_,rfl,_,rfl,q,y,rfl,hq,_,_,rfl,λ r dx H1 nr s1 h1=>?_⟩;have f1:FrAt a.Fraction H1 r (-y):=⟨dx,h1⟩;refine ⟨p,r,x,-y,rfl,hp.mono s1,f1,sx,⟨by show Sm (-y.num);exact sy.1.le (by omega),sy.2⟩,trivial,λ r' H2 nr' s2 f2=>?_⟩;refine k r' H2 (s1.free nr') (s1.trans s2) ?_;show FrAt a.Fraction H2 r' (x-y);rw [Rat.sub_eq_add_neg];exact f2
theorem dJ (T:TX K mg a):MtB P w K mg base CX0 a.Fraction "times" 5 ["self","other"] (spR2 a.Fraction (λ x y=>x*y) always):=by
 refine T.m_Fraction_times.ok sc_Fraction_times (λ vs H Q E h=>?_) (λ f cdv A outer s H vs Q E hr h=>?_)
 ·obtain ⟨p,q,x,y,rfl,_⟩:=h;rfl
 ·obtain ⟨p,q,x,y,rfl,hp,hq,sx,sy,_,k⟩:=h
  refine ⟨_,(ab (al (i:=2) sc_Fraction_times.nd rfl (Or.inl rfl) (ax (bR T) hr ak (aa (bL T.fr (pv 0)) (aa (bM T.fr (pv 1)) ad))))
   (ab (al (i:=3) sc_Fraction_times.nd rfl (Or.inl rfl) (ax (bR T) hr ak (aa (bL T.fr (pv 1)) (aa (bM T.fr (pv 0)) ad))))
   (ab (al (i:=4) sc_Fraction_times.nd rfl (Or.inl rfl) (ao ba (ao a8 (bL T.fr (pv 0)) (pv 2)) (ao a8 (bL T.fr (pv 1)) (pv 3))))
   (ah (ap (ax (aX T) hr ak (aa (pv 4) (aa (ao ba (ao a8 (bM T.fr (pv 0)) (pv 3)) (ao a8 (bM T.fr (pv 1)) (pv 2))) ad)))))))),?_⟩
  try dsimp only [aI,Cx.nox,Cx.wish]
  have hx:=den_ne x;have hy:=den_ne y;have xp:=di x;have yp:=di y;have p1:=bY x.num hy;have p2:=bY y.num hx;have s1:=Sm.gcd_r x.num hy sy.2;have s2:=Sm.gcd_r y.num hx sx.2;have t1:Sm (x.num.fdiv (gcd x.num y.den)):=sx.1.le (fdiv_le' _ p1 (gcd_dvd_l _ _));have t2:Sm (y.num.fdiv (gcd y.num x.den)):=sy.1.le (fdiv_le' _ p2 (gcd_dvd_l _ _));have t3:Sm ((x.den:Int).fdiv (gcd y.num x.den)):=sx.2.le (dh _ p2 (by omega));have t4:Sm ((y.den:Int).fdiv (gcd x.num y.den)):=sy.2.le (dh _ p1 (by omega));refine ⟨_,rfl,p,x,rfl,hp,_,rfl,q,y,rfl,hq,_,_,rfl,?_⟩;refine ⟨_,rfl,q,y,rfl,hq,_,rfl,p,x,rfl,hp,_,_,rfl,?_⟩;refine ⟨_,rfl,p,x,rfl,hp,_,rfl,_,_,rfl,rfl,⟨by omega,s1⟩,_,rfl,q,y,rfl,hq,_,rfl,_,_,rfl,rfl,⟨by omega,s2⟩,_,_,rfl,rfl,⟨t1,t2⟩,?_⟩;refine ⟨_,rfl,_,rfl,p,x,rfl,hp,_,rfl,_,_,rfl,rfl,⟨by omega,s2⟩,_,rfl,q,y,rfl,hq,_,rfl,_,_,rfl,rfl,⟨by omega,s1⟩,_,_,rfl,rfl,⟨t3,t4⟩,_,_,rfl,?_⟩;intro r dx H' nr s1 h1;obtain ⟨e1,e2⟩:=mul_spec x y;refine k r H' nr s1 ⟨dx,?_⟩;show H' r=some (.ins a.Fraction dx (ff (x*y).num (x*y).den));rw [h1,<- e1,<- e2]
end
end G
namespace G
open PySem L2
section
noncomputable def spB2 (C:Addr) (f:Rat->Rat->Bool):Sp:=λ vs H Q _=>∃ (p q:Addr) (x y:Rat),vs=[.ref p,.ref q]/\FrAt C H p x/\FrAt C H q y/\SmR x/\SmR y/\Q (.bl (f x y)) H
theorem ok_under (T:TX K mg a):MtB P w K mg base CX0 a.Fraction "under" 1 ["self","other"] (spB2 a.Fraction λ x y=>decide (x<y)):=by
 refine T.m_Fraction_under.ok fW (λ vs H Q E h=>?_) (λ f cdv A outer s H vs Q E hr h=>?_)
 ·obtain ⟨p,q,x,y,rfl,_⟩:=h;rfl
 ·obtain ⟨p,q,x,y,rfl,hp,hq,sx,sy,k⟩:=h;refine ⟨_,(ah (ap (cD eR (ao ba (bL T.fr (pv 0)) (bM T.fr (pv 1))) (ao ba (bL T.fr (pv 1)) (bM T.fr (pv 0))) (av _)))),?_⟩;try dsimp only [aI,Cx.nox,Cx.wish]
  walk_at "rd"
  show Q (.bl (decide (x.num * ↑y.den<y.num * ↑x.den))) H;rw [decide_eq_decide.mpr (Rat.lt_iff x y).symm];exact k
noncomputable def sgn (x:Rat):Int:=if 0<x.num then 1 else if x.num<0 then -1 else 0
theorem cj (T:TX K mg a):MtB P w K mg base CX0 a.Fraction "sign" 1 ["self"] (λ vs H Q _=>∃ (p:Addr) (x:Rat),vs=[.ref p]/\FrAt a.Fraction H p x/\Q (.int (sgn x)) H):=by
 refine T.m_Fraction_sign.ok sc_Fraction_sign (λ vs H Q E h=>?_) (λ f cdv A outer s H vs Q E hr h=>?_)
 ·obtain ⟨p,x,rfl,_⟩:=h;rfl
 ·obtain ⟨p,x,rfl,hp,k⟩:=h
  refine ⟨_,(ab (aL (ar gm (bL T.fr (pv 0)) ag (av _)) (ah (ap ag)) aA)
   (ab (aL (ar eR (bL T.fr (pv 0)) ag (av _)) (ah (ap (fH dk ag))) aA)
   (ah (ap ag)))),?_⟩
  try dsimp only [aI,Cx.nox,Cx.wish]
  walk_at "rd"
  refine ifB (λ h1=>?_) (λ h1=>?_)
  ·rw [show sgn x=1 from if_pos h1] at k;exact k
  ·walk_at "rd"
   refine ifB (λ h2=>?_) (λ h2=>?_)
   ·rw [show sgn x = -1 from (if_neg h1).trans (if_pos h2)] at k;walk_at "rd"
    exact k
   ·rw [show sgn x=0 from (if_neg h1).trans (if_neg h2)] at k;exact k
end
end G
namespace G
open PySem L2
section
structure WayC (K:W.Frag) (C:Addr):Prop where
 cl:Cls K C
 n1:NoAttr K C "name"
 n2:NoAttr K C "start"
 n3:NoAttr K C "goal"
 n4:NoAttr K C "high"
 n5:NoAttr K C "cost"
theorem TX.wW (T:TX K mg a):WayC K a.Way:=⟨T.cl_Way,T.na_Way_name,T.na_Way_start,T.na_Way_goal,T.na_Way_high,T.na_Way_cost⟩
theorem TX.wG (T:TX K mg a):WayC K a.Growing:=⟨T.cl_Growing,T.na_Growing_name,T.na_Growing_start,T.na_Growing_goal,T.na_Growing_high,T.na_Growing_cost⟩
theorem TX.wL (T:TX K mg a):WayC K a.Leaking:=⟨T.cl_Leaking,T.na_Leaking_name,T.na_Leaking_start,T.na_Leaking_goal,T.na_Leaking_high,T.na_Leaking_cost⟩
theorem TX.wS (T:TX K mg a):WayC K a.Store:=⟨T.cl_Store,T.na_Store_name,T.na_Store_start,T.na_Store_goal,T.na_Store_high,T.na_Store_cost⟩
structure W5 (fs:List (Str × V)) (n s g:Str) (vh vc:V):Prop where
 nm:fs.lookup ("name":Str)=some (.str n)
 st:fs.lookup ("start":Str)=some (.str s)
 go:fs.lookup ("goal":Str)=some (.str g)
 hi:fs.lookup ("high":Str)=some vh
 co:fs.lookup ("cost":Str)=some vc
 ga:fs.lookup ("gain":Str)=none
 ou:fs.lookup ("out":Str)=none
 len:fs.length<=10
theorem W5.new {n s g:Str} {vh vc:V}:W5 (aR "cost" vc (aR "high" vh (aR "goal" (.str g) (aR "start" (.str s) (aR "name" (.str n) []))))) n s g vh vc:=by
 refine ⟨?_,?_,?_,?_,?_,?_,?_,?_⟩
 iterate 7
  simp only [bX]
  (repeat rw [if_neg (by decide +kernel)])
  try rw [if_pos rfl]
  try rfl
 ·have h1:=bq "cost" vc (aR "high" vh (aR "goal" (.str g) (aR "start" (.str s) (aR "name" (.str n) []))));have h2:=bq "high" vh (aR "goal" (.str g) (aR "start" (.str s) (aR "name" (.str n) [])));have h3:=bq "goal" (.str g) (aR "start" (.str s) (aR "name" (.str n) []));have h4:=bq "start" (.str s) (aR "name" (.str n) []);have h5:=bq "name" (.str n) [];simp only [List.length_nil] at h5;omega
theorem W5.put {fs:List (Str × V)} {n s g:Str} {vh vc v:V} {f:Str} (h:W5 fs n s g vh vc) (hf:f∈(["rate","loss"]:List Str)) (hl:fs.length<=5):W5 (aR f v fs) n s g vh vc:=by
 have e:∀ x∈(["name","start","goal","high","cost","gain","out"]:List Str),x≠f:=by
  intro x hx z;subst z
  revert hx hf
  simp only [hV,g9,or_false];rintro (rfl | rfl | rfl | rfl | rfl | rfl | rfl) (h | h) <;> exact absurd h (by decide +kernel)
 have l:=bq f v fs;refine ⟨?_,?_,?_,?_,?_,?_,?_,by omega⟩ <;> rw [bX,if_neg (e _ (by simp))]
 ·exact h.nm
 ·exact h.st
 ·exact h.go
 ·exact h.hi
 ·exact h.co
 ·exact h.ga
 ·exact h.ou
theorem aT {f:Str} {v:V} {fs:List (Str × V)} {m:Nat} (h:fs.length<=m):(aR f v fs).length<=m+1:=gZ (bq f v fs) (Nat.succ_le_succ h)
theorem sgn_nn {x:Rat} (h:0<=x.num):¬ sgn x<0:=by
 unfold sgn
 repeat' split
 all_goals omega
theorem sgn_p {x:Rat} (h:0<x.num):¬ sgn x<=0:=by
 unfold sgn;rw [if_pos h];decide
noncomputable def HiOk (C:Addr) (H:Hp) (v:V):Prop:=v=.non∨∃ (q:Addr) (x:Rat),v=.ref q/\FrAt C H q x/\0<=x.num
theorem HiOk.mono {C:Addr} {H H':Hp} {v:V} (h:HiOk C H v) (s:Same H H'):HiOk C H' v:=h.imp id λ⟨q,x,e,f,z⟩=>⟨q,x,e,f.mono s,z⟩
noncomputable def CoIs (C:Addr) (H:Hp) (p:Addr) (vc vc':V):Prop:=(vc≠.non/\vc'=vc)∨(vc=.non/\∃ q,vc'=.ref q/\q≠p/\FrAt C H q (Rat.divInt 0 1))
theorem CoIs.upd {C p:Addr} {H:Hp} {vc vc':V} {o:HO} (h:CoIs C H p vc vc'):CoIs C (upd H p o) p vc vc':=h.imp id λ⟨e,q,e2,ne,dq,f⟩=>⟨e,q,e2,ne,dq,by rw [af ne];exact f⟩
inductive IspWayN (K:W.Frag) (a:Ad) (vs:List V) (H:Hp) (Q:VK):Prop
 | mk (p C dx:Addr) (n s g:Str) (vh vc:V) (h1:vs=[.ref p,.str n,.str s,.str g,vh,vc]) (h2:H p=some (.ins C dx [])) (h3:WayC K C) (h4:s≠g) (h5:HiOk a.Fraction H vh) (h6:∀ H' fs vc',W5 fs n s g vh vc'->fs.length<=5->CoIs a.Fraction H' p vc vc'->(∀ b o,H b=some o->b≠p->H' b=some o)->H' p=some (.ins C dx fs)->Q .non H'):IspWayN K a vs H Q
noncomputable def spWayN (K:W.Frag) (a:Ad):Sp:=λ vs H Q _=>IspWayN K a vs H Q
theorem b_Way (T:TX K mg a):BodyOk P w K mg base "Way.__init__" dP ["self","name","start","goal","high","cost"] 3 (spWayN K a):=by
 intro f cdv A outer s₀ H vs Q E hr h;obtain ⟨p,C,dx,n,s,g,vh,vc,rfl,hp,c,sg,hh,k⟩:=h
 refine ⟨_,(aP (aL (PW.pt (pw_and (ar cR (pv 2) (pv 3) (av _)) (e9 (dv (cv (pe_mtD0 (CX:=CX0) (pv 0) hr ak)))))) (ah bn) aA)
   (aP (aL (PW.pt (pw_and (ar op_notN (pv 4) pe_non (av _)) (e9 (ar eR (cg T.fr (pv 4) (cj T) hr ak) ag (av _))))) (ah bn) aA)
   (ab (a5 (pv 0) (pv 1) rfl)
   (ab (a5 (pv 0) (pv 2) rfl)
   (ab (a5 (pv 0) (pv 3) rfl)
   (ab (a5 (pv 0) (pv 4) rfl)
   (ah (a5 (pv 0) (pe_ifExp (ar op_isN (pv 5) pe_non (av _)) (bp (mk1 T) hr T.mg_Fraction ak (aa ag ad)) (pv 5)) rfl)))))))),?_⟩
 try dsimp only [aI,Cx.nox,Cx.wish]
 refine cZ (λ σ' H'=>σ'=[some (.ref p),some (.str n),some (.str s),some (.str g),some vh,some vc]/\H'=H) ?_ ?_
 ·walk_at "rd"
  refine cE (gT λ z=>sg (V.str.inj z)) ?_;walk_at "rd"
  first | exact ⟨rfl,rfl⟩ | exact rfl
 rintro zU hzU σ' H' ⟨rfl,rfl⟩;subst hzU;refine ⟨λ σ' H''=>σ'=[some (.ref p),some (.str n),some (.str s),some (.str g),some vh,some vc]/\H''=H',?_,?_⟩
 ·rcases hh with rfl | ⟨q,x,rfl,fq,hx⟩
  ·walk_at "rd"
   first | exact ⟨rfl,rfl⟩ | exact rfl
  ·walk_at "rd"
   refine cE (gT (sgn_nn hx)) ?_;first | exact ⟨rfl,rfl⟩ | exact rfl
 rintro σ' H'' ⟨rfl,rfl⟩;refine ⟨_,rfl,_,rfl,p,C,dx,[],rfl,hp,c.cl,c.n1,by decide,?_⟩;refine ⟨_,rfl,_,rfl,p,C,dx,_,rfl,ae,c.cl,c.n2,ig (aT (gJ 0)) (by decide),?_⟩;refine ⟨_,rfl,_,rfl,p,C,dx,_,rfl,ae,c.cl,c.n3,ig (aT (aT (gJ 0))) (by decide),?_⟩;refine ⟨_,rfl,_,rfl,p,C,dx,_,rfl,ae,c.cl,c.n4,ig (aT (aT (aT (gJ 0)))) (by decide),?_⟩;simp only [e7];walk_at "rd"
 by_cases hc:vc=.non
 ·refine eW (hU hc) ?_;walk_at "rd"
  refine ⟨by decide,sm1,λ q H1 nq s1 f1=>?_⟩;refine ⟨_,rfl,p,C,dx,_,rfl,s1 _ _ ae,c.cl,c.n5,ig (aT (aT (aT (aT (gJ 0))))) (by decide),?_⟩;have nqp:q≠p:=λ z=>by rw [z,ae] at nq;cases nq
  obtain ⟨dq,f1⟩:=f1;refine k _ _ (.ref q) W5.new (aT (aT (aT (aT (aT (gJ 0)))))) (.inr ⟨hc,q,rfl,nqp,dq,by rw [af nqp];exact f1⟩) (λ b o e nb=>?_) ae;rw [af nb];refine s1 _ _ ?_;rw [af nb];exact e
 ·refine cE (gT hc) ?_;refine ⟨_,rfl,_,rfl,p,C,dx,_,rfl,ae,c.cl,c.n5,ig (aT (aT (aT (aT (gJ 0))))) (by decide),?_⟩;rw [e7];refine k _ _ vc W5.new (aT (aT (aT (aT (aT (gJ 0)))))) (.inl ⟨hc,rfl⟩) (λ b o e nb=>?_) ae;rw [af nb];exact e
theorem len_WayN:∀ vs H Q E,spWayN K a vs H Q E->vs.length=(["self","name","start","goal","high","cost"]:List Str).length:=λ vs H Q E h=>by
 obtain ⟨_,_,_,_,_,_,_,_,rfl,_⟩:=h;rfl
theorem mk_WayN (T:TX K mg a):∀ dvs∈[[],[V.non,V.non]],MkB P w K mg base CX0 a.Way 4 ["self","name","start","goal","high","cost"] dvs (spWayN K a):=T.i_Way.ok sc_Way_init len_WayN (b_Way T)
theorem mk_Way2 (T:TX K mg a):MkB P w K mg base CX0 a.Way 4 ["self","name","start","goal","high","cost"] [.non,.non] (spWayN K a):=mk_WayN T _ (by simp)
theorem cf_Way (T:TX K mg a):CfB P w K mg base CX0 a.Way "__init__" 4 ["self","name","start","goal","high","cost"] (spWayN K a):=T.c_Way.ok sc_Way_init len_WayN (b_Way T)
inductive IspPartN (K:W.Frag) (a:Ad) (f:Str) (ok:Rat->Prop) (vs:List V) (H:Hp) (Q:VK):Prop
 | mk (p C dx:Addr) (n s g:Str) (vh vc:V) (q:Addr) (x:Rat) (h1:vs=[.ref p,.str n,.str s,.str g,.ref q,vh,vc]) (h2:H p=some (.ins C dx [])) (h3:WayC K C) (h4:NoAttr K C f) (h5:s≠g) (h6:FrAt a.Fraction H q x) (h7:ok x) (h8:HiOk a.Fraction H vh) (h9:∀ H' fs vc',W5 fs n s g vh vc'->fs.lookup f=some (.ref q)->CoIs a.Fraction H' p vc vc'->(∀ b o,H b=some o->b≠p->H' b=some o)->H' p=some (.ins C dx fs)->Q .non H'):IspPartN K a f ok vs H Q
noncomputable def cA (K:W.Frag) (a:Ad) (f:Str) (ok:Rat->Prop):Sp:=λ vs H Q _=>IspPartN K a f ok vs H Q
theorem len_PartN {f:Str} {ok:Rat->Prop} {z:Str}:∀ vs H Q E,cA K a f ok vs H Q E->vs.length=(["self","name","start","goal",z,"high","cost"]:List Str).length:=λ vs H Q E h=>by
 obtain ⟨_,_,_,_,_,_,_,_,_,_,rfl,_⟩:=h;rfl
noncomputable abbrev growOk:Rat->Prop:=λ x=>0<x.num
noncomputable abbrev leakOk:Rat->Prop:=λ x=>0<=x.num/\x<1/\SmR x
theorem b_Growing (T:TX K mg a):BodyOk P w K mg base "Growing.__init__" cO ["self","name","start","goal","rate","high","cost"] 4 (cA K a "rate" growOk):=by
 intro f cdv A outer s₀ H vs Q E hr h;obtain ⟨p,C,dx,n,s,g,vh,vc,q,x,rfl,hp,c,nf,sg,fq,hx,hh,k⟩:=h
 refine ⟨_,(ab (aL (ar op_le (cg T.fr (pv 4) (cj T) hr ak) ag (av _)) (ah bn) aA)
   (ab (aQ (pe_cf (cf_Way T) hr T.mg_Way ak (aa (pv 0) (aa (pv 1) (aa (pv 2) (aa (pv 3) (aa (pv 5) (aa (pv 6) ad))))))))
   (ah (a5 (pv 0) (pv 4) rfl)))),?_⟩
 try dsimp only [aI,Cx.nox,Cx.wish]
 walk_at "rd"
 refine cE (gT (sgn_p hx)) ?_;refine ⟨_,rfl,_,rfl,_,rfl,_,rfl,_,rfl,_,rfl,p,C,dx,n,s,g,vh,vc,rfl,hp,c,sg,hh,λ H2 fs vc' h5 hl co hs ho=>?_⟩;refine ⟨_,rfl,_,rfl,p,C,dx,fs,rfl,ho,c.cl,nf,ig hl (by decide),?_⟩;refine k _ _ vc' (h5.put (by simp) hl) ?_ co.upd (λ b o e ne=>?_) ae
 ·rw [bX,if_pos rfl]
 ·rw [af ne];exact hs b o e ne
theorem mk_GrowingN (T:TX K mg a):∀ dvs∈[[],[V.non,V.non]],MkB P w K mg base CX0 a.Growing 5 ["self","name","start","goal","rate","high","cost"] dvs (cA K a "rate" growOk):=T.i_Growing.ok sc_Growing_init len_PartN (b_Growing T)
theorem mk_Growing2 (T:TX K mg a):MkB P w K mg base CX0 a.Growing 5 ["self","name","start","goal","rate","high","cost"] [.non,.non] (cA K a "rate" growOk):=mk_GrowingN T _ (by simp)
theorem b_Leaking (T:TX K mg a):BodyOk P w K mg base "Leaking.__init__" cN ["self","name","start","goal","loss","high","cost"] 4 (cA K a "loss" leakOk):=by
 intro f cdv A outer s₀ H vs Q E hr h;obtain ⟨p,C,dx,n,s,g,vh,vc,q,x,rfl,hp,c,nf,sg,fq,⟨hx,hx1,sx⟩,hh,k⟩:=h
 refine ⟨_,(aP (aL (PW.pt (fG (ar eR (cg T.fr (pv 4) (cj T) hr ak) ag (av _)) (eP (dv (cv (bE T.fr (pv 4) (ok_under T) hr ak (aa (bp (mk1 T) hr T.mg_Fraction ak (aa ag ad)) ad))))))) (ah bn) aA)
   (ab (aQ (pe_cf (cf_Way T) hr T.mg_Way ak (aa (pv 0) (aa (pv 1) (aa (pv 2) (aa (pv 3) (aa (pv 5) (aa (pv 6) ad))))))))
   (ah (a5 (pv 0) (pv 4) rfl)))),?_⟩
 try dsimp only [aI,Cx.nox,Cx.wish]
 refine cZ (λ σ' H'=>σ'=[some (.ref p),some (.str n),some (.str s),some (.str g),some (.ref q),some vh,some vc]/\Same H H') ?_ ?_
 ·walk_at "rd"
  refine cE (gT (sgn_nn hx)) ?_;walk_at "rd"
  refine ⟨by decide,sm1,λ r H1 nr s1 f1=>?_⟩;have e1:Rat.divInt 1 1=1:=rfl;rw [e1] at f1;have s2:SmR (1:Rat):=⟨sm1,sm1⟩;walk_at "rd"
  refine cE (by dsimp only;rw [hU hx1];rfl) ?_;exact ⟨rfl,s1⟩
 rintro zU hzU σ' H' ⟨rfl,ss⟩;subst hzU;refine ⟨_,rfl,_,rfl,_,rfl,_,rfl,_,rfl,_,rfl,p,C,dx,n,s,g,vh,vc,rfl,ss _ _ hp,c,sg,hh.mono ss,λ H2 fs vc' h5 hl co hs ho=>?_⟩;refine ⟨_,rfl,_,rfl,p,C,dx,fs,rfl,ho,c.cl,nf,ig hl (by decide),?_⟩;refine k _ _ vc' (h5.put (by simp) hl) ?_ co.upd (λ b o e ne=>?_) ae
 ·rw [bX,if_pos rfl]
 ·rw [af ne];exact hs b o (ss _ _ e) ne
theorem mk_LeakingN (T:TX K mg a):∀ dvs∈[[],[V.non,V.non]],MkB P w K mg base CX0 a.Leaking 5 ["self","name","start","goal","loss","high","cost"] dvs (cA K a "loss" leakOk):=T.i_Leaking.ok sc_Leaking_init len_PartN (b_Leaking T)
theorem mk_Leaking2 (T:TX K mg a):MkB P w K mg base CX0 a.Leaking 5 ["self","name","start","goal","loss","high","cost"] [.non,.non] (cA K a "loss" leakOk):=mk_LeakingN T _ (by simp)
inductive Kd where
 | way
 | gro
 | lea
 | sto
noncomputable def Kd.n:Kd->Int
 | .way=>0
 | .gro=>1
 | .lea=>2
 | .sto=>3
noncomputable def Kd.C (a:Ad):Kd->Addr
 | .way=>a.Way
 | .gro=>a.Growing
 | .lea=>a.Leaking
 | .sto=>a.Store
noncomputable def Kd.f:Kd->Str
 | .gro=>"rate"
 | _=>"loss"
noncomputable def Kd.ok:Kd->Rat->Prop
 | .way=>λ _=>True
 | .gro=>growOk
 | _=>leakOk
noncomputable def aG:Kd->Rat->Rat
 | .way=>λ _=>1
 | .gro=>λ x=>x
 | _=>λ x=>1-x
structure WayAt (a:Ad) (H:Hp) (p:Addr) (kd:Kd) (n s g:Str) (vh vc:V) (q:Addr) (x:Rat):Prop where
 ob:∃ dx fs,H p=some (.ins (kd.C a) dx fs)/\W5 fs n s g vh vc/\(kd≠.way->fs.lookup kd.f=some (.ref q))
 fq:kd≠.way->FrAt a.Fraction H q x
noncomputable def Stays (a:Ad) (H H':Hp):Prop:=∀ b C dx fs,(C=a.Fraction∨∃ kd:Kd,C=kd.C a)->H b=some (.ins C dx fs)->H' b=some (.ins C dx fs)
theorem Stays.of {a:Ad} {H H':Hp} (s:Same H H'):Stays a H H':=λ b C dx fs _ e=>s _ _ e
theorem Stays.fr {a:Ad} {H H':Hp} {q:Addr} {x:Rat} (k:Stays a H H') (h:FrAt a.Fraction H q x):FrAt a.Fraction H' q x:=by
 obtain ⟨dq,f⟩:=h
 exact ⟨dq,k _ _ _ _ (.inl rfl) f⟩
theorem WayAt.keep {a:Ad} {H H':Hp} {p:Addr} {kd:Kd} {n s g:Str} {vh vc:V} {q:Addr} {x:Rat} (h:WayAt a H p kd n s g vh vc q x) (k:Stays a H H'):WayAt a H' p kd n s g vh vc q x:=
 ⟨let ⟨dx,fs,e,r⟩:=h.ob;⟨dx,fs,k _ _ _ _ (.inr ⟨kd,rfl⟩) e,r⟩,λ z=>k.fr (h.fq z)⟩
theorem WayAt.mono {a:Ad} {H H':Hp} {p:Addr} {kd:Kd} {n s g:Str} {vh vc:V} {q:Addr} {x:Rat} (h:WayAt a H p kd n s g vh vc q x) (ss:Same H H'):WayAt a H' p kd n s g vh vc q x:=h.keep (.of ss)
theorem Stays.put {a:Ad} {H:Hp} {d:Addr} {o o':HO} (hd:H d=some o) (ho:∀ C dx fs,o≠.ins C dx fs):Stays a H (upd H d o'):=λ b C dx fs _ e=>by rw [af (aF e hd (ho C dx fs).symm)];exact e
theorem bt (T:TX K mg a) (kd:Kd):WayC K (kd.C a):=by
 cases kd
 ·exact T.wW
 ·exact T.wG
 ·exact T.wL
 ·exact T.wS
noncomputable def NewWay (a:Ad) (H:Hp) (Q:VK) (kd:Kd) (n s g:Str) (vh vc:V) (x:Rat):Prop:=∀ p H' vc' q,H p=none->Same H H'->WayAt a H' p kd n s g vh vc' q x->CoIs a.Fraction H' p vc vc'->Q (.ref p) H'
theorem dz {H H':Hp} {x dx C:Addr} (h1:H x=none) (h2:H dx=none) (h:∀ b o,(upd (upd H dx (.own x)) x (.ins C dx [])) b=some o->b≠x->H' b=some o):Same H H':=by
 intro b o e;have n1:=aj e h1;refine h b o ?_ n1;rw [af n1,af (aj e h2)];exact e
theorem fY {H:Hp} {x dx C:Addr} (h1:H x=none) (h2:H dx=none):Same H (upd (upd H dx (.own x)) x (.ins C dx [])):=by
 intro b o e;rw [af (aj e h1),af (aj e h2)];exact e
theorem mkW {H:Hp} {Q:VK} {n s g:Str} {vh vc:V} {x:Rat} (T:TX K mg a) (sg:s≠g) (hh:HiOk a.Fraction H vh) (k:NewWay a H Q .way n s g vh vc x) (p dx:Addr) (h1:H p=none) (h2:H dx=none) (_:dx≠p) :
  spWayN K a [.ref p,.str n,.str s,.str g,vh,vc] (upd (upd H dx (.own p)) p (.ins a.Way dx [])) (λ v H2=>v=.non/\Q (.ref p) H2) E0:=by
 have ss:=fY (C:=a.Way) h1 h2;refine ⟨p,_,dx,n,s,g,vh,vc,rfl,ae,T.wW,sg,hh.mono ss,λ H' fs vc' h5 hl co hs ho=>⟨rfl,?_⟩⟩;have s2:=dz h1 h2 hs;exact k p _ vc' p h1 s2 ⟨⟨dx,fs,ho,h5,λ z=>absurd rfl z⟩,λ z=>absurd rfl z⟩ co
theorem mkG {H:Hp} {Q:VK} {n s g:Str} {vh vc:V} {q:Addr} {x:Rat} (T:TX K mg a) (sg:s≠g) (fq:FrAt a.Fraction H q x) (hx:growOk x) (hh:HiOk a.Fraction H vh) (k:NewWay a H Q .gro n s g vh vc x) (p dx:Addr) (h1:H p=none) (h2:H dx=none) (_:dx≠p) :
  cA K a "rate" growOk [.ref p,.str n,.str s,.str g,.ref q,vh,vc] (upd (upd H dx (.own p)) p (.ins a.Growing dx [])) (λ v H2=>v=.non/\Q (.ref p) H2) E0:=by
 have ss:=fY (C:=a.Growing) h1 h2;refine ⟨p,_,dx,n,s,g,vh,vc,q,x,rfl,ae,T.wG,T.na_Growing_rate,sg,fq.mono ss,hx,hh.mono ss,λ H' fs vc' h5 hl co hs ho=>⟨rfl,?_⟩⟩;have s2:=dz h1 h2 hs;exact k p _ vc' q h1 s2 ⟨⟨dx,fs,ho,h5,λ _=>hl⟩,λ _=>fq.mono s2⟩ co
theorem mkL {H:Hp} {Q:VK} {n s g:Str} {vh vc:V} {q:Addr} {x:Rat} (T:TX K mg a) (sg:s≠g) (fq:FrAt a.Fraction H q x) (hx:leakOk x) (hh:HiOk a.Fraction H vh) (k:NewWay a H Q .lea n s g vh vc x) (p dx:Addr) (h1:H p=none) (h2:H dx=none) (_:dx≠p) :
  cA K a "loss" leakOk [.ref p,.str n,.str s,.str g,.ref q,vh,vc] (upd (upd H dx (.own p)) p (.ins a.Leaking dx [])) (λ v H2=>v=.non/\Q (.ref p) H2) E0:=by
 have ss:=fY (C:=a.Leaking) h1 h2;refine ⟨p,_,dx,n,s,g,vh,vc,q,x,rfl,ae,T.wL,T.na_Leaking_loss,sg,fq.mono ss,hx,hh.mono ss,λ H' fs vc' h5 hl co hs ho=>⟨rfl,?_⟩⟩;have s2:=dz h1 h2 hs;exact k p _ vc' q h1 s2 ⟨⟨dx,fs,ho,h5,λ _=>hl⟩,λ _=>fq.mono s2⟩ co
inductive IspGain (a:Ad) (kd:Kd) (vs:List V) (H:Hp) (Q:VK):Prop
 | mk (p:Addr) (n s g:Str) (vh vc:V) (q:Addr) (x:Rat) (h1:vs=[.ref p]) (h2:WayAt a H p kd n s g vh vc q x) (h3:SmR x) (h4:∀ r H',Same H H'->FrAt a.Fraction H' r (aG kd x)->Q (.ref r) H'):IspGain a kd vs H Q
noncomputable def eJ (a:Ad) (kd:Kd):Sp:=λ vs H Q _=>IspGain a kd vs H Q
theorem gw {kd:Kd}:∀ vs H Q E,eJ a kd vs H Q E->vs.length=(["self"]:List Str).length:=λ vs H Q E h=>by
 obtain ⟨_,_,_,_,_,_,_,_,rfl,_⟩:=h;rfl
theorem gain_Way (T:TX K mg a):MtB P w K mg base CX0 a.Way "gain" 7 ["self"] (eJ a .way):=by
 refine T.m_Way_gain.ok sc_Way_gain gw (λ f cdv A outer s₀ H vs Q E hr h=>?_);obtain ⟨p,n,s,g,vh,vc,q,x,rfl,W,sx,k⟩:=h;refine ⟨_,(ah (ap (bp (mk1 T) hr T.mg_Fraction ak (aa ag ad)))),?_⟩;try dsimp only [aI,Cx.nox,Cx.wish]
 walk_at "rd"
 exact ⟨by decide,sm1,λ r H1 _ s1 f1=>k r H1 s1 f1⟩
theorem gain_Growing (T:TX K mg a):MtB P w K mg base CX0 a.Growing "gain" 7 ["self"] (eJ a .gro):=by
 refine T.m_Growing_gain.ok sc_Growing_gain gw (λ f cdv A outer s₀ H vs Q E hr h=>?_);obtain ⟨p,n,s,g,vh,vc,q,x,rfl,W,sx,k⟩:=h;refine ⟨_,(ah (ap (ay (pv 0) rfl))),?_⟩;try dsimp only [aI,Cx.nox,Cx.wish]
 obtain ⟨dx,fs,ho,h5,hl⟩:=W.ob;exact ⟨_,rfl,p,_,dx,fs,_,rfl,ho,T.wG.cl,T.na_Growing_rate,hl (by nofun),k q H (Same.refl _) (W.fq (by nofun))⟩
theorem b_gainL (T:TX K mg a) (kd:Kd) (C:Addr) (hC:kd.C a=C) (hk:kd≠.way) (hf:kd.f = "loss") (hg:∀ x,aG kd x=1-x) (cl:Cls K C) (nl:NoAttr K C "loss"):BodyOk P w K mg base "Leaking.gain" bZ ["self"] 6 (eJ a kd):=by
 intro f cdv A outer s₀ H vs Q E hr h;obtain ⟨p,n,s,g,vh,vc,q,x,rfl,W,sx,k⟩:=h;refine ⟨_,(ah (ap (bE T.fr (bp (mk1 T) hr T.mg_Fraction ak (aa ag ad)) (cS T) hr ak (aa (ay (pv 0) rfl) ad)))),?_⟩;try dsimp only [aI,Cx.nox,Cx.wish]
 obtain ⟨dx,fs,ho,h5,hl⟩:=W.ob;have hl:=hl hk;rw [hf] at hl;rw [hC] at ho;walk_at "rd"
 refine ⟨by decide,sm1,λ r H1 nr s1 f1=>?_⟩;have e1:Rat.divInt 1 1=1:=rfl;rw [e1] at f1;have s2:SmR (1:Rat):=⟨sm1,sm1⟩;have ho1:=s1 _ _ ho;have fq1:=(W.fq hk).mono s1;walk_at "rd"
 intro r2 H2 nr2 s22 f2;refine k r2 H2 (s1.trans s22) ?_;rw [hg];exact f2
theorem gain_Leaking (T:TX K mg a):MtB P w K mg base CX0 a.Leaking "gain" 7 ["self"] (eJ a .lea):=T.m_Leaking_gain.ok dX gw (b_gainL T .lea _ rfl (by nofun) rfl (λ _=>rfl) T.wL.cl T.na_Leaking_loss)
theorem gain_Store (T:TX K mg a):MtB P w K mg base CX0 a.Store "gain" 7 ["self"] (eJ a .sto):=T.m_Store_gain.ok dX gw (b_gainL T .sto _ rfl (by nofun) rfl (λ _=>rfl) T.wS.cl T.na_Store_loss)
theorem gain_any (T:TX K mg a) (kd:Kd):MtB P w K mg base CX0 (kd.C a) "gain" 7 ["self"] (eJ a kd):=by
 cases kd
 ·exact gain_Way T
 ·exact gain_Growing T
 ·exact gain_Leaking T
 ·exact gain_Store T
inductive IspOut (a:Ad) (kd:Kd) (vs:List V) (H:Hp) (Q:VK):Prop
 | mk (p r:Addr) (n s g:Str) (vh vc:V) (q:Addr) (x y:Rat) (h1:vs=[.ref p,.ref r]) (h2:WayAt a H p kd n s g vh vc q x) (h3:FrAt a.Fraction H r y) (h4:SmR x) (h5:SmR y) (h6:SmR (aG kd x)) (h7:∀ r' H',Same H H'->FrAt a.Fraction H' r' (y*aG kd x)->Q (.ref r') H'):IspOut a kd vs H Q
noncomputable def spOut (a:Ad) (kd:Kd):Sp:=λ vs H Q _=>IspOut a kd vs H Q
theorem len_Out {kd:Kd}:∀ vs H Q E,spOut a kd vs H Q E->vs.length=(["self","amount"]:List Str).length:=λ vs H Q E h=>by
 obtain ⟨_,_,_,_,_,_,_,_,_,_,rfl,_⟩:=h;rfl
theorem b_out (T:TX K mg a) (kd:Kd):BodyOk P w K mg base "Way.out" cG ["self","amount"] 7 (spOut a kd):=by
 intro f cdv A outer s₀ H vs Q E hr h;obtain ⟨p,r,n,s,g,vh,vc,q,x,y,rfl,W,fr,sx,sy,sg,k⟩:=h;refine ⟨_,(ah (ap (bE T.fr (pv 1) (dJ T) hr ak (aa (pe_mtD0 (CX:=CX0) (pv 0) hr ak) ad)))),?_⟩;try dsimp only [aI,Cx.nox,Cx.wish]
 obtain ⟨dx,fs,ho,h5,hl⟩:=W.ob;refine ⟨_,rfl,r,y,rfl,fr,_,rfl,p,kd.C a,dx,fs,7,["self"],eJ a kd,rfl,ho,h5.ga,(bt T kd).cl,by decide,gain_any T kd,p,n,s,g,vh,vc,q,x,rfl,W,sx,λ r1 H1 s1 f1=>?_⟩;exact ⟨r,r1,y,_,rfl,fr.mono s1,f1,sy,sg,trivial,λ r2 H2 _ s2 f2=>k r2 H2 (s1.trans s2) f2⟩
theorem out_any (T:TX K mg a) (kd:Kd):MtB P w K mg base CX0 (kd.C a) "out" 8 ["self","amount"] (spOut a kd):=by
 cases kd
 ·exact T.m_Way_out.ok dO len_Out (b_out T _)
 ·exact T.m_Growing_out.ok dO len_Out (b_out T _)
 ·exact T.m_Leaking_out.ok dO len_Out (b_out T _)
 ·exact T.m_Store_out.ok dO len_Out (b_out T _)
end
end G
namespace G
open PySem L2
section
structure WD where
 nm:Str
 st:Str
 go:Str
 kd:Kd
 x:Rat
noncomputable def WayIs (a:Ad) (H:Hp) (v:V) (d:WD):Prop:=∃ p vh vc q,v=.ref p/\WayAt a H p d.kd d.nm d.st d.go vh vc q d.x/\d.kd≠.sto
theorem WayIs.mono {H H':Hp} {v:V} {d:WD} (h:WayIs a H v d) (s:Same H H'):WayIs a H' v d:=by
 obtain ⟨p,vh,vc,q,e,W,k⟩:=h
 exact ⟨p,vh,vc,q,e,W.mono s,k⟩
noncomputable def RowAt {α:Type} (R:Hp->V->α->Prop) (H:Hp) (ts:List V) (xs:List α):Prop:=ts.length=xs.length/\∀ (i:Nat) (t:V) (x:α),ts[i]?=some t->xs[i]?=some x->R H t x
theorem RowAt.mono {α:Type} {R:Hp->V->α->Prop} {H H':Hp} {ts:List V} {xs:List α} (hR:∀ v x,R H v x->R H' v x) (h:RowAt R H ts xs):RowAt R H' ts xs:=⟨h.1,λ i t x h1 h2=>hR t x (h.2 i t x h1 h2)⟩
theorem RowAt.nil {α:Type} {R:Hp->V->α->Prop} {H:Hp}:RowAt R H [] []:=⟨rfl,λ i t x h=>by simp at h⟩
theorem RowAt.snoc {α:Type} {R:Hp->V->α->Prop} {H:Hp} {ts:List V} {xs:List α} {t:V} {x:α} (d:RowAt R H ts xs) (hf:R H t x):RowAt R H (ts++[t]) (xs++[x]):=by
 refine ⟨by rw [hE,hE,d.1];rfl,λ i u z h1 h2=>?_⟩;by_cases hi:i<ts.length
 ·rw [List.getElem?_append_left hi] at h1;rw [List.getElem?_append_left (by rw [<- d.1];exact hi)] at h2;exact d.2 i u z h1 h2
 ·rw [iI (by omega)] at h1;rw [iI (by rw [<- d.1];omega),<- d.1] at h2
  have hz:i-ts.length=0:=by
   have:=(gH.mp h1).1
   simp at this;omega
  rw [hz] at h1 h2;simp at h1 h2;subst h1 h2;exact hf
theorem RowAt.get {α:Type} {R:Hp->V->α->Prop} {H:Hp} {ts:List V} {xs:List α} {i:Nat} {t:V} (d:RowAt R H ts xs) (h:ts[i]?=some t):∃ x,xs[i]?=some x/\R H t x:=by
 have hi:i<xs.length:=by rw [<- d.1];exact (gH.mp h).1
 exact ⟨xs[i],gX hi,d.2 i t _ h (gX hi)⟩
theorem RowAt.get' {α:Type} {R:Hp->V->α->Prop} {H:Hp} {ts:List V} {xs:List α} {i:Nat} {x:α} (d:RowAt R H ts xs) (h:xs[i]?=some x):∃ t,ts[i]?=some t/\R H t x:=by
 have hi:i<ts.length:=by rw [d.1];exact (gH.mp h).1
 exact ⟨ts[i],gX hi,d.2 i _ x (gX hi) h⟩
noncomputable def PlIs (a:Ad) (H:Hp) (v:V) (p:Str × Rat):Prop:=∃ t q,v=.ref t/\H t=some (.tup [.str p.1,.ref q])/\FrAt a.Fraction H q p.2
theorem PlIs.mono {H H':Hp} {v:V} {p:Str × Rat} (h:PlIs a H v p) (s:Same H H'):PlIs a H' v p:=by
 obtain ⟨t,q,e,h1,h2⟩:=h
 exact ⟨t,q,e,s _ _ h1,h2.mono s⟩
theorem aB {H:Hp} {d:Addr} {o:HO} (h:H d=none):Same H (upd H d o):=λ b u e=>by rw [af (aj e h)];exact e
theorem uG {H:Hp} {e:Addr} {o:HO} (n:H e=none):∃ H',upd H e o=H'/\Same H H'/\H' e=some o:=⟨_,rfl,aB n,ae⟩
theorem aC {H H':Hp} {d:Addr} {o:HO} (h:H d=none) (s:Same H H'):Same H (upd H' d o):=λ b u e=>by rw [af (aj e h)];exact s _ _ e
theorem eI {κ:Type} [DecidableEq κ] {kvs:List (κ × V)} {k:κ} (h:¬ k∈kvs.map (·.1)):bu kvs k=none:=by
 cases e:bu kvs k with
 | none=>rfl
 | some v=>exact absurd (valV_in e) h
theorem val_some {κ:Type} [DecidableEq κ] {kvs:List (κ × V)} {k:κ} (h:k∈kvs.map (·.1)):∃ v,bu kvs k=some v:=by
 cases e:bu kvs k with
 | none=>exact absurd h (valV_not e)
 | some v=>exact ⟨v,rfl⟩
noncomputable def WantsAt (a:Ad) (H:Hp) (d:Addr) (ps:List (Str × Rat)):Prop:=∃ kvs,H d=some (.dK kvs)/\kvs.map (·.1)=ps.map (λ p=>Sum.inr p.1)/\RowAt (λ H v x=>∃ q,v=.ref q/\FrAt a.Fraction H q x) H (kvs.map (·.2)) (ps.map (·.2))
theorem WantsAt.mono {H H':Hp} {d:Addr} {ps:List (Str × Rat)} (h:WantsAt a H d ps) (s:Same H H'):WantsAt a H' d ps:=
 let ⟨kvs,h1,h2,h3⟩:=h;⟨kvs,s _ _ h1,h2,h3.mono λ v x ⟨q,e,f⟩=>⟨q,e,f.mono s⟩⟩
inductive IspWants (K:W.Frag) (a:Ad) (vs:List V) (H:Hp) (Q:VK):Prop
 | mk (l:Addr) (ts:List V) (ps:List (Str × Rat)) (h1:vs=[.ref l]) (h2:SqL K H l ts) (h3:RowAt (PlIs a) H ts ps) (h4:(ps.map (·.1)).Nodup) (h5:ps.length<=1000) (h6:∀ d H',H d=none->Same H H'->WantsAt a H' d ps->Q (.ref d) H'):IspWants K a vs H Q
noncomputable def spWants (K:W.Frag) (a:Ad):Sp:=λ vs H Q _=>IspWants K a vs H Q
theorem ok_wants_by_name (T:TX K mg a):FnB P w K mg base CX0 "wants_by_name" 1 ["places"] (spWants K a):=by
 refine T.d_wants_by_name.ok sc_wants_by_name (λ vs H Q E h=>?_) (λ f cdv A outer s H vs Q E hr h=>?_)
 ·obtain ⟨_,_,_,rfl,_⟩:=h;rfl
 ·obtain ⟨l,ts,ps,rfl,hS,hp,nd,hlen,k⟩:=h
  refine ⟨_,(ab (al (i:=1) sc_wants_by_name.nd rfl (Or.inl rfl) bf)
   (ab (aS gW rfl (aZ (pv 0)) (eQ (n:=2) rfl (a7 (au (i:=2) sc_wants_by_name.nd rfl (Or.inl rfl)) (a7 (au (i:=3) sc_wants_by_name.nd rfl (Or.inl rfl)) dc))) (ab (aL (dQ (pc_din (aH hr) (pv 2) (pv 1))) (ah bn) aA)
   (ah (bo (aH hr) (pv 1) (pv 2) (pv 3) rfl))))
   (ah (ap (pv 1))))),?_⟩
  try dsimp only [aI,Cx.nox,Cx.wish]
  intro d nd0;have s0:Same H (upd H d (.dK [])):=aB nd0;refine ⟨_,rfl,l,rfl,⟨_,s0.seq hS⟩,a9 (K:=K) (a:=l) (xs:=ts) (λ i σ H2=>i<=ps.length/\∃ z2 z3,σ=[some (.ref l),some (.ref d),z2,z3]/\Same H H2/\WantsAt a H2 d (ps.take i)) ⟨gR _,_,_,rfl,s0,[],ae,rfl,RowAt.nil⟩ (λ i σ H2 _ ⟨_,_,_,_,s2,_⟩=>s2.seq hS) ?_ ?_⟩
  ·rintro i t σ H2 ht ⟨hi,z2,z3,rfl,s2,kvs,hd,hk,hv⟩;obtain ⟨p,ep,t',q,rfl,h1,h2⟩:=hp.get ht;have hi':i<ps.length:=(gH.mp ep).1
   have nk:¬ (Sum.inr p.1:Key)∈kvs.map (·.1):=by
    rw [hk];intro m;obtain ⟨p',hp',e⟩:=gL.mp m;have e:p'.1=p.1:=Sum.inr.inj e;obtain ⟨j,hj⟩:=iz.mp hp'
    have hj2:j<i:=by
     have:=(gH.mp hj).1
     rw [gS] at this;omega
    rw [List.getElem?_take,if_pos hj2] at hj;have g1:(ps.map (·.1))[j]?=some p.1:=by rw [gK,hj,iD,e]
    have g2:(ps.map (·.1))[i]?=some p.1:=by rw [gK,ep,iD]
    have:=(i6 (by rw [gG];omega) nd).mp (g1.trans g2.symm)
    omega
   refine ⟨t',[.str p.1,.ref q],rfl,SqT.of (s2 _ _ h1),rfl,.str p.1,[.ref q],rfl,⟨.ref q,[],rfl,⟨rfl,?_⟩⟩⟩;refine ⟨_,rfl,_,rfl,d,_,rfl,DGet.k (k:=Sum.inr p.1) hd,_,rfl,?_⟩;rw [eI nk];refine iteF ?_
   have hl:kvs.length=i:=by
    have:=ix List.length hk
    rw [gG,gG,gS] at this;omega
   refine ⟨_,rfl,_,rfl,_,rfl,d,_,rfl,DPut.k (k:=Sum.inr p.1) hd (aq (by omega)),?_⟩;rw [gi _ (eI nk)];have s3:=aC (o:=.dK (kvs++[(Sum.inr p.1,.ref q)])) nd0 s2;refine ⟨hi',_,_,rfl,s3,kvs++[(Sum.inr p.1,.ref q)],ae,?_,?_⟩
   ·rw [gM,hk,gQ,ep,gY,gM];rfl
   ·rw [gM,gQ,ep,gY,gM];refine RowAt.snoc (hv.mono λ v x ⟨q',e,dq,f⟩=>⟨q',e,dq,?_⟩) ⟨q,rfl,h2.mono s3⟩;rw [af (aF f hd (by intro z;cases z))];exact f
  ·rintro σ H2 ⟨_,z2,z3,rfl,s2,hw⟩;rw [hp.1,gP] at hw;exact ⟨_,rfl,k d H2 nd0 s2 hw⟩
inductive IspCheck (a:Ad) (vs:List V) (H:Hp) (Q:VK):Prop
 | mk (v:V) (d:WD) (da dw:Addr) (ka kw:List (Key × V)) (h1:vs=[v,.ref da,.ref dw]) (h2:WayIs a H v d) (h3:H da=some (.dK ka)) (h4:H dw=some (.dK kw)) (h5:¬ (Sum.inr d.nm:Key)∈ka.map (·.1)) (h6:(Sum.inr d.st:Key)∈kw.map (·.1)) (h7:(Sum.inr d.go:Key)∈kw.map (·.1)) (h8:∀ H',Same H H'->Q .non H'):IspCheck a vs H Q
noncomputable def spCheck (a:Ad):Sp:=λ vs H Q _=>IspCheck a vs H Q
theorem noStore (T:TX K mg a) {kd:Kd} (h:kd≠.sto):PySem.W.kitOne K (.ref (kd.C a)) (.ref a.Store)=some false:=by
 cases kd
 ·exact T.k_Way_Store
 ·exact T.k_Growing_Store
 ·exact T.k_Leaking_Store
 ·exact absurd rfl h
theorem tyWay (T:TX K mg a) {H:Hp} {p dx:Addr} {fs:List (Str × V)} {kd:Kd} (h:H p=some (.ins (kd.C a) dx fs)):TyOf K H (.ref p) (.ref (kd.C a)):=by
 have c:=(bt T kd).cl
 cases kd
 ·exact TyOf.ins h c T.c1_Way T.c2 T.c3 T.c4_Way
 ·exact TyOf.ins h c T.c1_Growing T.c2 T.c3 T.c4_Growing
 ·exact TyOf.ins h c T.c1_Leaking T.c2 T.c3 T.c4_Leaking
 ·exact TyOf.ins h c T.c1_Store T.c2 T.c3 T.c4_Store
theorem ok_check_way (T:TX K mg a):FnB P w K mg base CX0 "check_way" 1 ["way","ahead","wants"] (spCheck a):=by
 refine T.d_check_way.ok sc_check_way (λ vs H Q E h=>?_) (λ f cdv A outer s H vs Q E hr h=>?_)
 ·obtain ⟨_,_,_,_,_,_,rfl,_⟩:=h;rfl
 ·obtain ⟨v,d,da,dw,ka,kw,rfl,⟨p,vh,vc,q,rfl,W,hk⟩,ha,hw,n1,n2,n3,k⟩:=h
  refine ⟨_,(ab (aL (cv (aD (cY (c:=.ref a.Store)) (by rfl) T.z_isinstance iG (aa (pv 0) (aa (pe_glob (v:=.ref a.Store) (by rfl) T.mg_Store rfl) ad)))) (ah bn) aA)
   (ab (aL (dQ (pc_din (aH hr) (ay (pv 0) rfl) (pv 1))) (ah bn) aA)
   (ah (aS gW rfl (pi_tup (bK (aa (ay (pv 0) rfl) (aa (ay (pv 0) rfl) ad)))) (au (i:=3) sc_check_way.nd rfl (Or.inl rfl)) (ah (aL (dQ (dI (aH hr) (pv 3) (pv 2))) (ah bn) aA)))))),?_⟩
  try dsimp only [aI,Cx.nox,Cx.wish]
  obtain ⟨dx,fs,ho,h5,_⟩:=W.ob;have c:=bt T d.kd;refine ⟨_,rfl,_,_,_,_,rfl,(λ u h=>h),tyWay T ho,noStore T hk,_,rfl,iteF ?_⟩;refine ⟨_,rfl,p,_,dx,fs,_,rfl,ho,c.cl,c.n1,h5.nm,_,rfl,da,_,rfl,DGet.k (k:=Sum.inr d.nm) ha,_,rfl,?_⟩;rw [eI n1];refine iteF ?_;refine ⟨_,rfl,p,_,dx,fs,_,rfl,ho,c.cl,c.n2,h5.st,_,rfl,p,_,dx,fs,_,rfl,ho,c.cl,c.n3,h5.go,zL2,λ t nt=>?_⟩;have s1:=aB (o:=.tup [.str d.st,.str d.go]) nt;refine ⟨t,rfl,⟨_,SqT.of ae⟩,for_tup (K:=K) (a:=t) (xs:=[.str d.st,.str d.go]) (λ i σ H2=>∃ z,σ=[some (.ref p),some (.ref da),some (.ref dw),z]/\H2=upd H t (.tup [.str d.st,.str d.go])) ⟨_,rfl,rfl⟩ (λ i σ H2 _ ⟨_,_,e⟩=>by rw [e];exact SqT.of ae) ?_ ?_⟩
  ·rintro i x σ H2 hx ⟨z,rfl,rfl⟩
   have hx:∃ y,x=.str y/\(Sum.inr y:Key)∈kw.map (·.1):=by
    match i,hx with
    | 0,hx=>exact ⟨d.st,(hZ hx).symm,n2⟩
    | 1,hx=>exact ⟨d.go,(hZ hx).symm,n3⟩
    | i+2,hx=>simp at hx
   obtain ⟨y,rfl,hy⟩:=hx;obtain ⟨u,hu⟩:=val_some hy;refine ⟨_,rfl,_,rfl,dw,_,rfl,DGet.k (k:=Sum.inr y) (s1 _ _ hw),_,rfl,?_⟩;rw [hu];exact iteF ⟨_,rfl,rfl⟩
  ·rintro σ H2 ⟨z,rfl,rfl⟩;exact k _ s1
noncomputable def WaysAt (a:Ad) (H:Hp) (d:Addr) (ds:List WD):Prop:=∃ kvs,H d=some (.dK kvs)/\kvs.map (·.1)=ds.map (λ x=>Sum.inr x.nm)/\RowAt (WayIs a) H (kvs.map (·.2)) ds
theorem WaysAt.mono {H H':Hp} {d:Addr} {ds:List WD} (h:WaysAt a H d ds) (s:Same H H'):WaysAt a H' d ds:=
 let ⟨kvs,h1,h2,h3⟩:=h;⟨kvs,s _ _ h1,h2,h3.mono λ v x z=>z.mono s⟩
inductive IspWaysBy (K:W.Frag) (a:Ad) (vs:List V) (H:Hp) (Q:VK):Prop
 | mk (l dw:Addr) (ts:List V) (ds:List WD) (ps:List (Str × Rat)) (h1:vs=[.ref l,.ref dw]) (h2:SqL K H l ts) (h3:RowAt (WayIs a) H ts ds) (h4:WantsAt a H dw ps) (h5:(ds.map (·.nm)).Nodup) (h6:ds.length<=1000) (h7:(∀ d∈ds,d.st∈ps.map (·.1)/\d.go∈ps.map (·.1))) (h8:∀ d H',H d=none->Same H H'->WaysAt a H' d ds->Q (.ref d) H'):IspWaysBy K a vs H Q
noncomputable def spWaysBy (K:W.Frag) (a:Ad):Sp:=λ vs H Q _=>IspWaysBy K a vs H Q
theorem WayIs.keep {H H':Hp} {v:V} {x:WD} (h:WayIs a H v x) (k:Stays a H H'):WayIs a H' v x:=by
 obtain ⟨p,vh,vc,q,e,W,hk⟩:=h
 exact ⟨p,vh,vc,q,e,W.keep k,hk⟩
theorem WayIs.put {H:Hp} {v:V} {x:WD} {d:Addr} {kvs:List (Key × V)} {o:HO} (h:WayIs a H v x) (hd:H d=some (.dK kvs)):WayIs a (upd H d o) v x:=h.keep (.put hd (by intro _ _ _ z;cases z))
theorem nodup_take {α β:Type} {xs:List α} {f:α->β} {i:Nat} {x:α} (nd:(xs.map f).Nodup) (e:xs[i]?=some x):¬ f x∈(xs.take i).map f:=by
 intro m;obtain ⟨y,hy,ef⟩:=gL.mp m;obtain ⟨j,hj⟩:=iz.mp hy;have hi:=(gH.mp e).1
 have hj2:j<i:=by
  have:=(gH.mp hj).1
  rw [gS] at this;omega
 rw [List.getElem?_take,if_pos hj2] at hj;have g1:(xs.map f)[j]?=some (f x):=by rw [gK,hj,iD,ef]
 have g2:(xs.map f)[i]?=some (f x):=by rw [gK,e,iD]
 have:=(i6 (by rw [gG];omega) nd).mp (g1.trans g2.symm)
 omega
theorem inr_mem {n:Str} {ns:List Str}:(Sum.inr n:Key)∈ns.map (λ x=>(Sum.inr x:Key))↔n∈ns:=by
 constructor
 ·intro h;obtain ⟨y,hy,e⟩:=gL.mp h;rw [<- Sum.inr.inj e];exact hy
 ·exact λ h=>gL.mpr ⟨n,h,rfl⟩
theorem ok_ways_by_name (T:TX K mg a):FnB P w K mg base CX0 "ways_by_name" 2 ["ways","wants"] (spWaysBy K a):=by
 refine T.d_ways_by_name.ok sc_ways_by_name (λ vs H Q E h=>?_) (λ f cdv A outer s H vs Q E hr h=>?_)
 ·obtain ⟨_,_,_,_,_,rfl,_⟩:=h;rfl
 ·obtain ⟨l,dw,ts,ds,ps,rfl,hS,hp,hw,nd,hlen,hin,k⟩:=h
  refine ⟨_,(ab (al (i:=2) sc_ways_by_name.nd rfl (Or.inl rfl) bf)
   (ab (aS gW rfl (aZ (pv 0)) (au (i:=3) sc_ways_by_name.nd rfl (Or.inl rfl)) (ab (aQ (ax (ok_check_way T) hr ak (aa (pv 3) (aa (pv 2) (aa (pv 1) ad)))))
   (ah (bo (aH hr) (pv 2) (ay (pv 3) rfl) (pv 3) rfl))))
   (ah (ap (pv 2))))),?_⟩
  try dsimp only [aI,Cx.nox,Cx.wish]
  intro d nd0;have s0:Same H (upd H d (.dK [])):=aB nd0;refine ⟨_,rfl,l,rfl,⟨_,s0.seq hS⟩,a9 (K:=K) (a:=l) (xs:=ts) (λ i σ H2=>i<=ds.length/\∃ z3,σ=[some (.ref l),some (.ref dw),some (.ref d),z3]/\Same H H2/\WaysAt a H2 d (ds.take i)) ⟨gR _,_,rfl,s0,[],ae,rfl,RowAt.nil⟩ (λ i σ H2 _ ⟨_,_,_,s2,_⟩=>s2.seq hS) ?_ ?_⟩
  ·rintro i t σ H2 ht ⟨hi,z3,rfl,s2,kvs,hd,hk,hv⟩;obtain ⟨x,ex,hx⟩:=hp.get ht;have hi':i<ds.length:=(gH.mp ex).1
   have nk:¬ (Sum.inr x.nm:Key)∈kvs.map (·.1):=by
    rw [hk]
    have:=nodup_take (f:=λ z:WD=>(Sum.inr z.nm:Key)) (by
     rw [show (λ z:WD=>(Sum.inr z.nm:Key))=(λ n=>(Sum.inr n:Key)) ∘ (λ z:WD=>z.nm) from rfl,<- iF];exact nd.map _ (λ u v h e=>h (Sum.inr.inj e))) ex
    exact this
   obtain ⟨kw,hkw,ekw,_⟩:=hw.mono s2;obtain ⟨i1,i2⟩:=hin x (gI ex);have ekw':kw.map (·.1)=(ps.map (·.1)).map (λ n=>(Sum.inr n:Key)):=by rw [ekw,iF];rfl
   refine ⟨_,rfl,_,rfl,_,rfl,t,x,d,dw,kvs,kw,rfl,hx.mono s2,hd,hkw,nk,by rw [ekw'];exact inr_mem.mpr i1,by rw [ekw'];exact inr_mem.mpr i2,λ H3 s3=>?_⟩;have hd3:=s3 _ _ hd;have hx3:=hx.mono (s2.trans s3);obtain ⟨p,vh,vc,q,rfl,W,hkd⟩:=id hx3;obtain ⟨dx,fs,ho,h5,_⟩:=W.ob;have c:=bt T x.kd
   have hl:kvs.length=i:=by
    have:=ix List.length hk
    rw [gG,gG,gS] at this;omega
   refine ⟨_,rfl,_,rfl,_,rfl,p,_,dx,fs,_,rfl,ho,c.cl,c.n1,h5.nm,d,_,rfl,DPut.k (k:=Sum.inr x.nm) hd3 (aq (by omega)),?_⟩;rw [gi _ (eI nk)];have s4:=aC (o:=.dK (kvs++[(Sum.inr x.nm,.ref p)])) nd0 (s2.trans s3);refine ⟨hi',_,rfl,s4,kvs++[(Sum.inr x.nm,.ref p)],ae,?_,?_⟩
   ·rw [gM,hk,gQ,ex,gY,gM];rfl
   ·rw [gM,gQ,ex,gY];exact RowAt.snoc (hv.mono λ v y z=>(z.mono s3).put hd3) (hx3.put hd3)
  ·rintro σ H2 ⟨_,z3,rfl,s2,hw2⟩;rw [hp.1,gP] at hw2;exact ⟨_,rfl,k d H2 nd0 s2 hw2⟩
noncomputable def fsN (dw dy:Addr):List (Str × V):=[("wants",.ref dw),("ways",.ref dy)]
theorem fsN_new (dw dy:Addr):aR "ways" (.ref dy) (aR "wants" (.ref dw) [])=fsN dw dy:=by
 show (if ("wants":Str) = "ways" then _ else (("wants":Str),V.ref dw)::[(("ways":Str),V.ref dy)])=fsN dw dy;rw [if_neg (by decide +kernel)];rfl
theorem fsN_w (dw dy:Addr):(fsN dw dy).lookup ("wants":Str)=some (.ref dw):=rfl
theorem fsN_y (dw dy:Addr):(fsN dw dy).lookup ("ways":Str)=some (.ref dy):=by
 show List.lookup ("ways":Str) [(("wants":Str),V.ref dw),("ways",V.ref dy)]=_;rw [hG,show (("ways":Str) == "wants")=false by decide +kernel];rfl
theorem eX (dw dy:Addr) {m:Str} (h1:(m == "wants")=false) (h2:(m == "ways")=false):(fsN dw dy).lookup m=none:=by
 show List.lookup m [(("wants":Str),V.ref dw),("ways",V.ref dy)]=_;rw [hG,h1,hG,h2];rfl
noncomputable def NetAt (a:Ad) (H:Hp) (p:Addr) (ps:List (Str × Rat)) (ds:List WD):Prop:=∃ dx dw dy,H p=some (.ins a.Net dx (fsN dw dy))/\WantsAt a H dw ps/\WaysAt a H dy ds
theorem NetAt.mono {H H':Hp} {p:Addr} {ps:List (Str × Rat)} {ds:List WD} (h:NetAt a H p ps ds) (s:Same H H'):NetAt a H' p ps ds:=by
 obtain ⟨dx,dw,dy,e,h1,h2⟩:=h
 exact ⟨dx,dw,dy,s _ _ e,h1.mono s,h2.mono s⟩
structure NetOk (ps:List (Str × Rat)) (ds:List WD):Prop where
 np:(ps.map (·.1)).Nodup
 lp:ps.length<=12
 nd:(ds.map (·.nm)).Nodup
 ld:ds.length<=24
 io:∀ d∈ds,d.st∈ps.map (·.1)/\d.go∈ps.map (·.1)
inductive IspNetI (K:W.Frag) (a:Ad) (vs:List V) (H:Hp) (Q:VK):Prop
 | mk (p dx lp lw:Addr) (tp tw:List V) (ps:List (Str × Rat)) (ds:List WD) (h1:vs=[.ref p,.ref lp,.ref lw]) (h2:H p=some (.ins a.Net dx [])) (h3:SqL K H lp tp) (h4:RowAt (PlIs a) H tp ps) (h5:SqL K H lw tw) (h6:RowAt (WayIs a) H tw ds) (h7:NetOk ps ds) (h8:∀ H',(∀ b o,H b=some o->b≠p->H' b=some o)->NetAt a H' p ps ds->Q .non H'):IspNetI K a vs H Q
noncomputable def spNetI (K:W.Frag) (a:Ad):Sp:=λ vs H Q _=>IspNetI K a vs H Q
theorem WantsAt.ins {H:Hp} {d p C dx:Addr} {fs gs:List (Str × V)} {ps:List (Str × Rat)} (h:WantsAt a H d ps) (hp:H p=some (.ins C dx fs)) (hC:C≠a.Fraction):WantsAt a (upd H p (.ins C dx gs)) d ps:=by
 obtain ⟨kvs,h1,h2,h3⟩:=h;refine ⟨kvs,by rw [af (aF h1 hp (by intro z;cases z))];exact h1,h2,h3.mono λ v x ⟨q,e,dq,f⟩=>⟨q,e,dq,?_⟩⟩;rw [af (aF f hp (by intro z;cases z;exact hC rfl))];exact f
theorem Stays.ins {H:Hp} {p C dx:Addr} {fs gs:List (Str × V)} (hp:H p=some (.ins C dx fs)) (hC:C≠a.Fraction/\∀ kd:Kd,C≠kd.C a):Stays a H (upd H p (.ins C dx gs)):=λ b C' dx' fs' h e=>by
 rw [af (aF e hp λ z=>?_)]
 ·exact e
 ·have ec:=(HO.ins.inj z).1;rcases h with rfl | ⟨kd,rfl⟩
  ·exact hC.1 ec.symm
  ·exact hC.2 kd ec.symm
theorem WaysAt.ins {H:Hp} {d p C dx:Addr} {fs gs:List (Str × V)} {ds:List WD} (h:WaysAt a H d ds) (hp:H p=some (.ins C dx fs)) (hC:C≠a.Fraction/\∀ kd:Kd,C≠kd.C a):WaysAt a (upd H p (.ins C dx gs)) d ds:=by
 obtain ⟨kvs,h1,h2,h3⟩:=h;exact ⟨kvs,by rw [af (aF h1 hp (by intro z;cases z))];exact h1,h2,h3.mono λ v x z=>z.keep (.ins hp hC)⟩
theorem netC (T:TX K mg a):a.Net≠a.Fraction/\∀ kd:Kd,a.Net≠kd.C a:=by
 have w1:a.Net≠a.Fraction:=λ e=>by
  have h:=T.na_Fraction_top;have h2:=T.m_Fraction_times;rw [<- e] at h2;obtain ⟨f,fd,_,⟨m,_,_⟩,_⟩:=h2
  cases T.no_Net_times.symm.trans m
 refine ⟨w1,λ kd e=>?_⟩
 have:=T.no_Net_out
 cases kd
 ·obtain ⟨f,fd,_,⟨m,_,_⟩,_⟩:=T.m_Way_out;rw [show a.Way=a.Net from e.symm] at m
  cases this.symm.trans m
 ·obtain ⟨f,fd,_,⟨m,_,_⟩,_⟩:=T.m_Growing_out;rw [show a.Growing=a.Net from e.symm] at m
  cases this.symm.trans m
 ·obtain ⟨f,fd,_,⟨m,_,_⟩,_⟩:=T.m_Leaking_out;rw [show a.Leaking=a.Net from e.symm] at m
  cases this.symm.trans m
 ·obtain ⟨f,fd,_,⟨m,_,_⟩,_⟩:=T.m_Store_out;rw [show a.Store=a.Net from e.symm] at m
  cases this.symm.trans m
theorem mk_Net (T:TX K mg a):MkB P w K mg base CX0 a.Net 4 ["self","places","ways"] [] (spNetI K a):=by
 refine T.i_Net.ok sc_Net_init (λ vs H Q E h=>?_) (λ f cdv A outer s H vs Q E hr h=>?_) _ (by simp)
 ·obtain ⟨_,_,_,_,_,_,_,_,rfl,_⟩:=h;rfl
 ·obtain ⟨p,dx,lp,lw,tp,tw,ps,ds,rfl,hp,hS,hP,hL,hW,ok,k⟩:=h
  refine ⟨_,(ab (aL (PW.pt (fG (ar gm (aD aO (by rfl) T.z_len im (aa (pv 1) ad)) (pe_gi T.gi_MOST_PLACES) (av _)) (eP (ar gm (aD aO (by rfl) T.z_len im (aa (pv 2) ad)) (pe_gi T.gi_MOST_WAYS) (av _))))) (ah bn) aA)
   (ab (a5 (pv 0) (ax (ok_wants_by_name T) hr ak (aa (pv 1) ad)) rfl)
   (ah (a5 (pv 0) (ax (ok_ways_by_name T) hr ak (aa (pv 2) (aa (ay (pv 0) rfl) ad))) rfl)))),?_⟩
  try dsimp only [aI,Cx.nox,Cx.wish]
  have e1:(tp.length:Int)<=12:=by have:=ok.lp;rw [<- hP.1] at this;omega
  have e2:(tw.length:Int)<=24:=by have:=ok.ld;rw [<- hW.1] at this;omega
  refine ⟨_,rfl,lp,tp,rfl,.inl hS,_,_,rfl,rfl,_,rfl,cE (gT (by omega)) ?_⟩;refine ⟨_,rfl,lw,tw,rfl,.inl hL,_,_,rfl,rfl,_,rfl,cE (gT (by omega)) ?_⟩;refine ⟨_,rfl,lp,tp,ps,rfl,hS,hP,ok.np,gZ ok.lp (by decide),λ dw H1 n1 s1 hw1=>?_⟩;have hp1:=s1 _ _ hp;refine ⟨_,rfl,p,a.Net,dx,[],rfl,hp1,T.cl_Net,T.na_Net_wants,by decide,?_⟩;have hC:=netC T;generalize hH2:upd H1 p (.ins a.Net dx (aR "wants" (.ref dw) []))=H2;have hp2:H2 p=some (.ins a.Net dx (aR "wants" (.ref dw) [])):=by rw [<- hH2];exact ae
  have hw2:WantsAt a H2 dw ps:=by rw [<- hH2];exact hw1.ins hp1 hC.1
  have k2:∀ b o,H b=some o->b≠p->H2 b=some o:=λ b o e ne=>by rw [<- hH2,af ne];exact s1 _ _ e
  have hL2:SqL K H2 lw tw:=by
   rcases hL with (h | ⟨o,h⟩) | h
   ·exact .inl (.inl (k2 _ _ h (aF h hp (by intro z;cases z))))
   ·exact .inl (.inr ⟨o,k2 _ _ h (aF h hp (by intro z;cases z))⟩)
   ·exact .inr h
  have hW2:RowAt (WayIs a) H2 tw ds:=hW.mono λ v x z=>z.keep λ b C' dx' fs' h e=>k2 _ _ e (aF e hp λ y=>by
   have ec:=(HO.ins.inj y).1;rcases h with rfl | ⟨kd,rfl⟩
   ·exact hC.1 ec.symm
   ·exact hC.2 kd ec.symm)
  refine ⟨_,rfl,_,rfl,p,_,dx,_,_,rfl,hp2,T.cl_Net,T.na_Net_wants,rfl,lw,dw,tw,ds,ps,rfl,hL2,hW2,hw2,ok.nd,gZ ok.ld (by decide),ok.io,λ dy H3 n3 s3 hy3=>?_⟩;have hp3:=s3 _ _ hp2;refine ⟨_,rfl,p,a.Net,dx,_,rfl,hp3,T.cl_Net,T.na_Net_ways,ig (aT (gJ 0)) (by decide),?_⟩;rw [fsN_new];refine k _ (λ b o e ne=>?_) ⟨dx,dw,dy,ae,(hw2.mono s3).ins hp3 hC.1,hy3.ins hp3 hC⟩;rw [af ne];exact s3 _ _ (k2 _ _ e ne)
theorem mkN {H:Hp} {Q:VK} {lp lw:Addr} {tp tw:List V} {ps:List (Str × Rat)} {ds:List WD} (hS:SqL K H lp tp) (hP:RowAt (PlIs a) H tp ps) (hL:SqL K H lw tw) (hW:RowAt (WayIs a) H tw ds) (ok:NetOk ps ds)
  (k:∀ p H',H p=none->Same H H'->NetAt a H' p ps ds->Q (.ref p) H') (p dx:Addr) (h1:H p=none) (h2:H dx=none) (_:dx≠p) :
  spNetI K a [.ref p,.ref lp,.ref lw] (upd (upd H dx (.own p)) p (.ins a.Net dx [])) (λ v H2=>v=.non/\Q (.ref p) H2) E0:=by
 have ss:=fY (C:=a.Net) h1 h2;exact ⟨p,dx,lp,lw,tp,tw,ps,ds,rfl,ae,ss.seq hS,hP.mono λ v x z=>z.mono ss,ss.seq hL,hW.mono λ v x z=>z.mono ss,ok,λ H' hs hn=>⟨rfl,k p H' h1 (dz h1 h2 hs) hn⟩⟩
theorem WaysAt.get {H:Hp} {dy:Addr} {ds:List WD} {d:WD} (h:WaysAt a H dy ds) (nd:(ds.map (·.nm)).Nodup) (hd:d∈ds):∃ kvs v,H dy=some (.dK kvs)/\bu kvs (Sum.inr d.nm)=some v/\WayIs a H v d:=by
 obtain ⟨kvs,h1,h2,h3⟩:=h;obtain ⟨i,hi⟩:=iz.mp hd;obtain ⟨t,ht,hw⟩:=h3.get' hi;have hil:=(gH.mp hi).1;rw [gK] at ht
 cases e:kvs[i]? with
 | none=>rw [e] at ht;cases ht
 | some kv=>
  rw [e] at ht;have e2:kv.2=t:=hZ ht
  have e1:kv.1=Sum.inr d.nm:=by
   have g1:(kvs.map (·.1))[i]?=some kv.1:=by rw [gK,e];rfl
   rw [h2,gK,hi] at g1;exact (hZ g1).symm
  refine ⟨kvs,t,h1,?_,hw⟩;obtain ⟨v,hv⟩:=val_some (kvs:=kvs) (k:=(Sum.inr d.nm:Key)) (gL.mpr ⟨kv,gI e,e1⟩);rw [hv];unfold bu at hv
  cases f:kvs.find? (λ kv=>decide (kv.1=(Sum.inr d.nm:Key))) with
  | none=>rw [f] at hv;cases hv
  | some kv'=>
   rw [f] at hv;have hp:=List.find?_some f;have m:=List.mem_of_find?_eq_some f;obtain ⟨j,hj⟩:=iz.mp m;have ej:kv'.1=Sum.inr d.nm:=i5 hp
   have nd2:(kvs.map (·.1)).Nodup:=by
    rw [h2,show (λ z:WD=>(Sum.inr z.nm:Key))=(λ n=>(Sum.inr n:Key)) ∘ (λ z:WD=>z.nm) from rfl,<- iF];exact nd.map _ (λ u v h e=>h (Sum.inr.inj e))
   have g1:(kvs.map (·.1))[j]?=some (Sum.inr d.nm):=by rw [gK,hj,iD,ej]
   have g2:(kvs.map (·.1))[i]?=some (Sum.inr d.nm):=by rw [gK,e,iD,e1]
   have ij:=(i6 (by rw [gG];exact (gH.mp hj).1) nd2).mp (g1.trans g2.symm);subst ij;rw [hj] at e
   cases e;rw [<- e2];exact hv.symm
inductive IspNetWay (a:Ad) (vs:List V) (H:Hp) (Q:VK):Prop
 | mk (p:Addr) (ps:List (Str × Rat)) (ds:List WD) (d:WD) (h1:vs=[.ref p,.str d.nm]) (h2:NetAt a H p ps ds) (h3:(ds.map (·.nm)).Nodup) (h4:d∈ds) (h5:∀ v,WayIs a H v d->Q v H):IspNetWay a vs H Q
noncomputable def cI (a:Ad):Sp:=λ vs H Q _=>IspNetWay a vs H Q
theorem ce (T:TX K mg a):MtB P w K mg base CX0 a.Net "way" 1 ["self","name"] (cI a):=by
 refine T.m_Net_way.ok sc_Net_way (λ vs H Q E h=>?_) (λ f cdv A outer s H vs Q E hr h=>?_)
 ·obtain ⟨_,_,_,_,rfl,_⟩:=h;rfl
 ·obtain ⟨p,ps,ds,d,rfl,⟨dx,dw,dy,hp,hw,hy⟩,nd,hd,k⟩:=h
  refine ⟨_,(ab (aL (dQ (dI (aH hr) (pv 1) (ay (pv 0) rfl))) (ah bn) aA)
   (ah (ap (aU (aH hr) (ay (pv 0) rfl) (pv 1) (λ _ _=>rfl))))),?_⟩
  try dsimp only [aI,Cx.nox,Cx.wish]
  obtain ⟨kvs,v,h1,h2,h3⟩:=hy.get nd hd;refine ⟨_,rfl,_,rfl,p,_,dx,_,_,rfl,hp,T.cl_Net,T.na_Net_ways,fsN_y _ _,dy,_,rfl,DGet.k (k:=Sum.inr d.nm) h1,_,rfl,?_⟩;rw [h2];refine iteF ?_;refine ⟨_,rfl,p,_,dx,_,_,rfl,hp,T.cl_Net,T.na_Net_ways,fsN_y _ _,_,rfl,dy,v,rfl,?_,k v h3⟩;rw [<- h2];exact DGet.k (k:=Sum.inr d.nm) h1
end
end G
namespace G
open PySem L2
section
noncomputable def Chain (ds:List WD):Prop:=∀ (i:Nat) (x y:WD),ds[i]?=some x->ds[i+1]?=some y->x.go=y.st
theorem WayIs.lst {H:Hp} {v:V} {x:WD} {l:Addr} {us zs:List V} (h:WayIs a H v x) (hl:H l=some (.lst us)):WayIs a (upd H l (.lst zs)) v x:=h.keep (.put hl (by intro _ _ _ z;cases z))
structure OnNet (K:W.Frag) (a:Ad) (H:Hp) (p l:Addr) (ps:List (Str × Rat)) (ns ds:List WD):Prop where
 net:NetAt a H p ps ns
 nd:(ns.map (·.nm)).Nodup
 sq:SqL K H l (ds.map λ d=>.str d.nm)
 sub:∀ d∈ds,d∈ns
 ch:Chain ds
 len:ds.length<=900
theorem OnNet.mono {H H':Hp} {p l:Addr} {ps:List (Str × Rat)} {ns ds:List WD} (h:OnNet K a H p l ps ns ds) (s:Same H H'):OnNet K a H' p l ps ns ds:=⟨h.net.mono s,h.nd,s.seq h.sq,h.sub,h.ch,h.len⟩
theorem last_of {α:Type} {xs:List α} (h:xs≠[]):∃ ys y,xs=ys++[y]:=⟨xs.dropLast,xs.getLast h,(List.dropLast_concat_getLast h).symm⟩
theorem Bd.smr {n:Nat} {x:Rat} (b:Bd n x) (hn:n<9000):SmR x:=⟨ig b.1 (Nat.pow_lt_pow_right (by decide) hn),by show Sm _;unfold Sm;rw [iT];exact ig b.2 (Nat.pow_lt_pow_right (by decide) hn)⟩
inductive IspWaysOf (K:W.Frag) (a:Ad) (vs:List V) (H:Hp) (Q:VK):Prop
 | mk (p l:Addr) (ps:List (Str × Rat)) (ns ds:List WD) (h1:vs=[.ref p,.ref l]) (h2:OnNet K a H p l ps ns ds) (h3:∀ r H' ts,H r=none->Same H H'->H' r=some (.lst ts)->RowAt (WayIs a) H' ts ds->Q (.ref r) H'):IspWaysOf K a vs H Q
noncomputable def spWaysOf (K:W.Frag) (a:Ad):Sp:=λ vs H Q _=>IspWaysOf K a vs H Q
theorem ok_ways_of (T:TX K mg a):FnB P w K mg base CX0 "ways_of" 2 ["net","walk"] (spWaysOf K a):=by
 refine T.d_ways_of.ok sc_ways_of (λ vs H Q E h=>?_) (λ f cdv A outer s H vs Q E hr h=>?_)
 ·obtain ⟨_,_,_,_,_,rfl,_⟩:=h;rfl
 ·obtain ⟨p,l,ps,ns,ds,rfl,O,k⟩:=h
  refine ⟨_,(ab (al (i:=2) sc_ways_of.nd rfl (Or.inl rfl) (a6 ad))
   (ab (aS gW rfl (aZ (pv 1)) (au (i:=3) sc_ways_of.nd rfl (Or.inl rfl)) (ab (al (i:=4) sc_ways_of.nd rfl (Or.inl rfl) (bV (CX:=CX0) (pv 0) hr ak (aa (pv 3) ad)))
   (ab (aL (PW.pt (pw_and (ar (op_neN hr.units0) (pv 2) (a6 ad) (av _)) (e9 (ar fI (ay (aw aY (pv 2) (fH dk ag) (λ _ _=>rfl)) rfl) (ay (pv 4) rfl) (av _))))) (ah bn) aA)
   (ah (aQ (pe_bm iS iO iP bW (pv 2) (aa (pv 4) ad)))))))
   (ah (ap (pv 2))))),?_⟩
  try dsimp only [aI,Cx.nox,Cx.wish]
  refine ⟨by decide,λ r nr=>?_⟩;have s0:Same H (upd H r (.lst [])):=aB nr;refine ⟨_,rfl,l,rfl,⟨_,s0.seq O.sq⟩,a9 (K:=K) (a:=l) (xs:=ds.map λ d=>.str d.nm) (λ i σ H2=>i<=ds.length/\∃ z3 z4 ts,σ=[some (.ref p),some (.ref l),some (.ref r),z3,z4]/\Same H H2/\H2 r=some (.lst ts)/\RowAt (WayIs a) H2 ts (ds.take i)) ⟨gR _,_,_,[],rfl,s0,ae,RowAt.nil⟩ (λ i σ H2 _ ⟨_,_,_,_,_,s2,_⟩=>s2.seq O.sq) ?_ ?_⟩
  ·rintro i t σ H2 ht ⟨hi,z3,z4,ts,rfl,s2,hr2,hv⟩;rw [gK] at ht
   cases ex:ds[i]? with
   | none=>rw [ex] at ht;cases ht
   | some x=>
    rw [ex] at ht
    cases ht;have hi':i<ds.length:=(gH.mp ex).1;obtain ⟨dx,dw,dy,hp,hw,hy⟩:=O.net.mono s2;have hts:ts.length=i:=by rw [hv.1,gS];omega
    refine ⟨_,rfl,p,a.Net,dx,_,1,["self","name"],cI a,rfl,hp,eX _ _ (by decide +kernel) (by decide +kernel),T.cl_Net,by decide,ce T,_,rfl,p,ps,ns,x,rfl,⟨dx,dw,dy,hp,hw,hy⟩,O.nd,O.sub _ (gI ex),λ v hx=>?_⟩;refine ⟨_,rfl,by decide,λ e ne=>?_⟩;have s3:=aB (o:=.lst []) ne;refine ⟨r,e,ts,rfl,rfl,SqL.of (s3 _ _ hr2),SqL.of ae,_,rfl,?_⟩;have hr3:=s3 _ _ hr2;have hx3:=hx.mono s3;have hv3:=hv.mono λ v y z=>z.mono s3;have s23:=s2.trans s3;generalize upd H2 e (.lst [])=H3 at s3 hr3 hx3 hv3 s23 ⊢;obtain ⟨p',vh,vc,q,rfl,W,hk⟩:=id hx3;obtain ⟨dx',fs',ho',h5',_⟩:=W.ob;have c':=bt T x.kd
    have nx:i+1<=ds.length/\∃ z3 z4 us,([some (.ref p),some (.ref l),some (.ref r),some (.str x.nm),some (.ref p')]:St)=[some (.ref p),some (.ref l),some (.ref r),z3,z4]/\Same H (upd H3 r (.lst (ts++[.ref p'])))/\upd H3 r (.lst (ts++[.ref p'])) r=some (.lst us)/\RowAt (WayIs a) (upd H3 r (.lst (ts++[.ref p']))) us (ds.take (i+1)):=by
     refine ⟨hi',_,_,_,rfl,aC nr s23,ae,?_⟩;rw [gQ,ex,gY];exact RowAt.snoc (hv3.mono λ v y z=>z.lst hr3) (hx3.lst hr3)
    by_cases hz:ts=[]
    ·subst hz;refine iteF ?_;exact ⟨_,rfl,.inl ⟨rfl,_,SqL.of hr3⟩,_,rfl,r,_,_,rfl,rfl,hr3,by decide,nx⟩
    ·have hz2:(!ts.isEmpty)=true:=by cases ts with | nil=>exact absurd rfl hz | cons _ _=>rfl
     rw [hz2];refine iteT ?_
     have hi0:0<i:=by
      cases i with
      | zero=>exact absurd (List.length_eq_zero_iff.mp hts) hz
      | succ i=>exact Nat.succ_pos i
     have hu:ts[i-1]?=some ts[i-1]:=gX (by omega);generalize ts[i-1]=u at hu;obtain ⟨y,ey,p2,vh2,vc2,q2,rfl,W2,hk2⟩:=hv3.get hu;rw [List.getElem?_take,if_pos (by omega)] at ey;obtain ⟨dx2,fs2,ho2,h52,_⟩:=W2.ob;have c2:=bt T y.kd;have eg:y.go=x.st:=O.ch (i-1) y x ey (by rw [show i-1+1=i by omega];exact ex)
     have lst:atI ts (-1)=some (.ref p2):=by
      obtain ⟨us,u,rfl⟩:=last_of hz
      have:us.length=i-1:=by simp at hts;omega
      rw [<- this,iI (gJ _)] at hu;simp at hu;rw [hu];exact atI_last us _
     refine ⟨_,rfl,_,rfl,r,_,_,_,rfl,rfl,SqL.of hr3,lst,p2,_,dx2,fs2,_,rfl,ho2,c2.cl,c2.n3,h52.go,_,rfl,p',_,dx',fs',_,rfl,ho',c'.cl,c'.n2,h5'.st,rfl,_,rfl,?_⟩;rw [eg];refine gB rfl ?_;exact ⟨_,rfl,.inl ⟨rfl,_,SqL.of hr3⟩,_,rfl,r,_,_,rfl,rfl,hr3,aq (by have:=O.len;omega),nx⟩
  ·rintro σ H2 ⟨_,z3,z4,ts,rfl,s2,hr2,hv⟩;rw [gG,gP] at hv;exact ⟨_,rfl,k r H2 ts nr s2 hr2 hv⟩
noncomputable def fK (ds:List WD):Rat:=ds.foldl (λ y d=>y*aG d.kd d.x) 1
theorem gprod_snoc (ds:List WD) (d:WD):fK (ds++[d])=fK ds*aG d.kd d.x:=by
 unfold fK;rw [iW];rfl
theorem gprod_bd {n:Nat} (ds:List WD) (h:∀ d∈ds,Bd n (aG d.kd d.x)):∀ i,i<=ds.length->Bd (i*n) (fK (ds.take i))
 | 0,_=>by
  rw [Nat.zero_mul,i7];exact Bd.one
 | i+1,hi=>by
  have hi':i<ds.length:=by omega
  rw [gQ,gX hi',gY,gprod_snoc,Nat.succ_mul];exact (gprod_bd ds h i (by omega)).mul (h _ (List.getElem_mem hi'))
inductive IspGainOf (K:W.Frag) (a:Ad) (vs:List V) (H:Hp) (Q:VK):Prop
 | mk (p l:Addr) (ps:List (Str × Rat)) (ns ds:List WD) (n:Nat) (h1:vs=[.ref p,.ref l]) (h2:OnNet K a H p l ps ns ds) (h3:(∀ d∈ds,SmR d.x/\Bd n (aG d.kd d.x))) (h4:n<9000) (h5:ds.length*n<9000) (h6:∀ r H',Same H H'->FrAt a.Fraction H' r (fK ds)->Q (.ref r) H'):IspGainOf K a vs H Q
noncomputable def spGainOf (K:W.Frag) (a:Ad):Sp:=λ vs H Q _=>IspGainOf K a vs H Q
theorem ok_gain_of (T:TX K mg a):FnB P w K mg base CX0 "gain_of" 9 ["net","walk"] (spGainOf K a):=by
 refine T.d_gain_of.ok sc_gain_of (λ vs H Q E h=>?_) (λ f cdv A outer s H vs Q E hr h=>?_)
 ·obtain ⟨_,_,_,_,_,_,rfl,_⟩:=h;rfl
 ·obtain ⟨p,l,ps,ns,ds,n,rfl,O,hb,hn,hln,k⟩:=h
  refine ⟨_,(ab (al (i:=2) sc_gain_of.nd rfl (Or.inl rfl) (bp (mk1 T) hr T.mg_Fraction ak (aa ag ad)))
   (ab (aS gW rfl (aZ (ax (ok_ways_of T) hr ak (aa (pv 0) (aa (pv 1) ad)))) (au (i:=3) sc_gain_of.nd rfl (Or.inl rfl)) (ah (al (i:=2) sc_gain_of.nd rfl (Or.inl rfl) (bV (CX:=CX0) (pv 3) hr ak (aa (pv 2) ad)))))
   (ah (ap (pv 2))))),?_⟩
  try dsimp only [aI,Cx.nox,Cx.wish]
  refine ⟨1,1,rfl,by decide,sm1,λ g0 H1 n0 s1 f1=>?_⟩;rw [show Rat.divInt 1 1=1 from rfl] at f1;refine ⟨_,rfl,_,rfl,p,l,ps,ns,ds,rfl,O.mono s1,λ r H2 ts nr s2 hr2 hv=>?_⟩;refine ⟨r,rfl,⟨_,SqL.of hr2⟩,a9 (K:=K) (a:=r) (xs:=ts) (λ i σ H3=>i<=ds.length/\∃ z g,σ=[some (.ref p),some (.ref l),some (.ref g),z]/\Same H2 H3/\FrAt a.Fraction H3 g (fK (ds.take i))) ⟨gR _,_,_,rfl,Same.refl _,f1.mono s2⟩ (λ i σ H3 _ ⟨_,_,_,_,s3,_⟩=>SqL.of (s3 _ _ hr2)) ?_ ?_⟩
  ·rintro i t σ H3 ht ⟨hi,z,g,rfl,s3,fg⟩;obtain ⟨x,ex,p1,vh,vc,q,rfl,W,hk⟩:=(hv.mono λ v y z=>z.mono s3).get ht;have hi':=(gH.mp ex).1;obtain ⟨dx,fs,ho,h5,_⟩:=id W.ob;obtain ⟨b1,b2⟩:=hb x (gI ex);have bi:=gprod_bd ds (λ d hd=>(hb d hd).2) i hi;have hin:i*n<9000:=ig (Nat.mul_le_mul_right _ hi) hln;refine ⟨_,rfl,p1,_,dx,fs,8,["self","amount"],spOut a x.kd,rfl,ho,h5.ou,(bt T x.kd).cl,by decide,out_any T x.kd,_,rfl,p1,g,x.nm,x.st,x.go,vh,vc,q,x.x,_,rfl,W,fg,b1,bi.smr hin,b2.smr hn,λ r' H4 s4 f4=>?_⟩;refine ⟨hi',_,_,rfl,s3.trans s4,?_⟩;rw [gQ,ex,gY,gprod_snoc];exact f4
  ·rintro σ H3 ⟨_,z,g,rfl,s3,fg⟩;rw [hv.1,gP] at fg;exact ⟨_,rfl,k g H3 (s1.trans (s2.trans s3)) fg⟩
end
end G
namespace G
open PySem L2
section
theorem Sm.of_le {a:Int} {n:Nat} (h:a.natAbs<=2 ^ n) (hn:n<9000):Sm a:=ig h (Nat.pow_lt_pow_right (by decide) hn)
theorem tot_bd {s m:Nat} {T B o c u:Int} (hT:T.natAbs<=2 ^ s) (hB:B.natAbs<=2 ^ s) (ho:o.natAbs<=2 ^ m) (hc:c.natAbs<=2 ^ m) (hu:u.natAbs<=B.natAbs) :
  (T*o+c*u).natAbs<=2 ^ (s+(m+1))/\(B*o).natAbs<=2 ^ (s+(m+1)):=by
 have h4:2 ^ (s+(m+1))=2 ^ (s+m)*2:=by rw [<- Nat.add_assoc,Nat.pow_succ]
 constructor
 ·have h1:(T*o).natAbs<=2 ^ (s+m):=by rw [iJ];exact bT hT ho
  have h2:(c*u).natAbs<=2 ^ (m+s):=by rw [iJ];exact bT hc (gZ hu hB)
  rw [Nat.add_comm m s] at h2;have h5:=Int.natAbs_add_le (T*o) (c*u);omega
 ·have h1:(B*o).natAbs<=2 ^ (s+m):=by rw [iJ];exact bT hB ho
  omega
theorem TInv.le {x:Rat} {T B s:Int} (I:TInv x T B s):s.natAbs<=B.natAbs:=by
 obtain ⟨pB,ps,⟨r,hr,_⟩,_⟩:=I
 have:=Int.le_of_dvd pB ⟨r,hr⟩
 omega
noncomputable def FrIs (a:Ad) (H:Hp) (v:V) (x:Rat):Prop:=∃ q,v=.ref q/\FrAt a.Fraction H q x
theorem FrIs.mono {H H':Hp} {v:V} {x:Rat} (h:FrIs a H v x) (s:Same H H'):FrIs a H' v x:=by
 obtain ⟨q,e,f⟩:=h
 exact ⟨q,e,f.mono s⟩
theorem FrIs.keep {H H':Hp} {v:V} {x:Rat} (h:FrIs a H v x) (s:KeepD H H'):FrIs a H' v x:=let ⟨q,e,d,f⟩:=h;⟨q,e,d,s _ _ f (by intro _ z;cases z) (by intro _ _ z;cases z)⟩
inductive IspTotal (K:W.Frag) (a:Ad) (vs:List V) (H:Hp) (Q:VK):Prop
 | mk (l:Addr) (ts:List V) (xs:List Rat) (N:Nat) (h1:vs=[.ref l]) (h2:SqL K H l ts) (h3:RowAt (FrIs a) H ts xs) (h4:BdS xs N) (h5:N<9000) (h6:∀ (r:Addr) (H':Hp),H r=none->Same H H'->FrAt a.Fraction H' r xs.sum->Q (.ref r) H'):IspTotal K a vs H Q
noncomputable def spTotal (K:W.Frag) (a:Ad):Sp:=λ vs H Q _=>IspTotal K a vs H Q
theorem ok_total (T:TX K mg a):FnB P w K mg base CX0 "total" 5 ["some"] (spTotal K a):=by
 refine T.d_total.ok sc_total (λ vs H Q E h=>?_) (λ f cdv A outer s H vs Q E hr h=>?_)
 ·obtain ⟨_,_,_,_,rfl,_⟩:=h;rfl
 ·obtain ⟨l,ts,xs,N,rfl,hS,fs,bd,hN,k⟩:=h;obtain ⟨S,S0,S1,S2⟩:=bd.fn
  refine ⟨_,(ab (al (i:=1) sc_total.nd rfl (Or.inl rfl) ag)
   (ab (al (i:=2) sc_total.nd rfl (Or.inl rfl) ag)
   (ab (al (i:=3) sc_total.nd rfl (Or.inl rfl) ag)
   (ab (aS gW rfl (aZ (pv 0)) (au (i:=4) sc_total.nd rfl (Or.inl rfl)) (ab (al (i:=5) sc_total.nd rfl (Or.inl rfl) (ax (bR T) hr ak (aa (pv 2) (aa (bM T.fr (pv 4)) ad))))
   (ab (al (i:=6) sc_total.nd rfl (Or.inl rfl) (ao a8 (bM T.fr (pv 4)) (pv 5)))
   (ab (al (i:=1) sc_total.nd rfl (Or.inl rfl) (ao bO (ao ba (pv 1) (pv 6)) (ao ba (bL T.fr (pv 4)) (ao a8 (pv 2) (pv 5)))))
   (ab (al (i:=2) sc_total.nd rfl (Or.inl rfl) (ao ba (pv 2) (pv 6)))
   (ah (al (i:=3) sc_total.nd rfl (Or.inl rfl) (ao ba (pv 3) (ao a8 (pv 5) (ax (bR T) hr ak (aa (pv 3) (aa (pv 5) ad))))))))))))
   (ab (al (i:=7) sc_total.nd rfl (Or.inl rfl) (ax (bR T) hr ak (aa (pv 1) (aa (pv 3) ad))))
   (ah (ap (ax (aX T) hr ak (aa (ao a8 (pv 1) (pv 7)) (aa (ao a8 (pv 2) (pv 7)) ad)))))))))),?_⟩
  try dsimp only [aI,Cx.nox,Cx.wish]
  refine ⟨_,rfl,l,rfl,⟨_,hS⟩,a9 (K:=K) (a:=l) (xs:=ts) (λ i σ H2=>i<=xs.length/\∃ (t b s:Int) (z4 z5 z6 z7:Option V),σ=[some (.ref l),some (.int t),some (.int b),some (.int s),z4,z5,z6,z7]/\H2=H/\TInv (xs.take i).sum t b s/\t.natAbs<=2 ^ (S i)/\b.natAbs<=2 ^ (S i))
   ⟨gR _,0,1,1,_,_,_,_,rfl,rfl,TInv.zero,gR _,by rw [S0];decide⟩ (λ i σ H2 _ ⟨_,_,_,_,_,_,_,_,_,e,_⟩=>by rw [e];exact hS) ?_ ?_⟩
  ·rintro i u σ H2 hu ⟨_,t,b,s,z4,z5,z6,z7,rfl,rfl,I,ht,hb⟩;have hi:i<xs.length:=by rw [<- fs.1];exact (gH.mp hu).1
   have ex:xs[i]?=some xs[i]:=gX hi;obtain ⟨n,by',bs⟩:=S2 i _ ex;generalize xs[i]=y at ex by';obtain ⟨p,rfl,fp⟩:=fs.2 i u _ hu ex;have si:=S1 i (by omega);have si1:=S1 (i+1) (by omega);have hn':n<9000:=by omega
   have yd:((y.den:Int)).natAbs<=2 ^ n:=by rw [iT];exact by'.2
   have sy:Sm (y.den:Int):=Sm.of_le yd hn';have cp:=bY b (den_ne y);have cs:=Sm.gcd_r b (den_ne y) sy;have st:Sm t:=Sm.of_le ht (by omega);have sb:Sm b:=Sm.of_le hb (by omega);have yp:=di y;have lo:((y.den:Int).fdiv (gcd b y.den)).natAbs<=(y.den:Int).natAbs:=dh _ cp (by omega);have lu:(b.fdiv (gcd b y.den)).natAbs<=b.natAbs:=dh _ cp (Int.le_of_lt I.pB);have ss:Sm s:=sb.le I.le;have gp:=bY s (b:=gcd b y.den) (by omega);have gs:=Sm.gcd_r s (b:=gcd b y.den) (by omega) cs;have lc:((gcd b y.den).fdiv (gcd s (gcd b y.den))).natAbs<=(gcd b y.den).natAbs:=dh _ gp (by omega);have tb:=tot_bd ht hb (gZ lo yd) by'.1 lu;refine ⟨_,rfl,_,rfl,p,y,rfl,fp,_,_,rfl,?_⟩;refine ⟨_,rfl,p,y,rfl,fp,_,rfl,_,_,rfl,rfl,⟨by omega,cs⟩,?_⟩;refine ⟨_,rfl,_,rfl,_,_,rfl,rfl,⟨st,sy.le lo⟩,_,rfl,p,y,rfl,fp,_,rfl,_,rfl,_,_,rfl,rfl,⟨by omega,cs⟩,_,_,rfl,rfl,⟨Sm.of_le by'.1 hn',sb.le lu⟩,_,_,rfl,rfl,?_⟩;refine ⟨_,rfl,_,rfl,_,_,rfl,rfl,⟨sb,sy.le lo⟩,?_⟩;refine ⟨_,rfl,_,rfl,_,rfl,_,rfl,_,_,rfl,_,_,rfl,rfl,⟨by omega,gs⟩,_,_,rfl,rfl,⟨ss,cs.le lc⟩,?_⟩;refine ⟨hi,_,_,_,_,_,_,_,rfl,rfl,?_,gZ tb.1 (pow_le bs),gZ tb.2 (pow_le bs)⟩;rw [gQ,ex,gY,sum_snoc];exact I.step
  ·rintro σ H2 ⟨_,t,b,s,z4,z5,z6,z7,rfl,rfl,I,ht,hb⟩;rw [fs.1] at I ht hb;rw [gP] at I;have sl:=S1 _ (gJ _);have sb:Sm b:=Sm.of_le hb (by omega);have s0:s≠0:=by have:=I.ps;omega
   have gp:=bY t s0;have gs:=Sm.gcd_r t s0 (sb.le I.le);obtain ⟨e1,e2⟩:=I.fin;refine ⟨_,rfl,_,rfl,_,_,rfl,?_⟩;refine ⟨_,rfl,_,rfl,_,_,rfl,rfl,⟨by omega,gs⟩,_,rfl,_,rfl,_,_,rfl,rfl,⟨by omega,gs⟩,_,_,rfl,λ r dx H' nr s1 h1=>k r H' nr s1 ⟨dx,?_⟩⟩;rw [h1,e1,e2]
end
end G
namespace G
open PySem L2
section
noncomputable def LstIs (a:Ad) (H:Hp) (v:V) (xs:List Rat):Prop:=∃ l ts,v=.ref l/\H l=some (.lst ts)/\RowAt (FrIs a) H ts xs
theorem LstIs.mono {H H':Hp} {v:V} {xs:List Rat} (h:LstIs a H v xs) (s:Same H H'):LstIs a H' v xs:=by
 obtain ⟨l,ts,e,f,r⟩:=h
 exact ⟨l,ts,e,s _ _ f,r.mono λ v x z=>z.mono s⟩
theorem LstIs.keep {H H':Hp} {v:V} {xs:List Rat} (h:LstIs a H v xs) (s:KeepD H H'):LstIs a H' v xs:=let ⟨l,ts,e,f,r⟩:=h;⟨l,ts,e,s _ _ f (by intro _ z;cases z) (by intro _ _ z;cases z),r.mono λ v x z=>z.keep s⟩
noncomputable def going (x:Rat) (ds:List WD):Rat:=ds.foldl (λ y d=>y*aG d.kd d.x) x
theorem going_snoc (x:Rat) (ds:List WD) (d:WD):going x (ds++[d])=going x ds*aG d.kd d.x:=by unfold going;rw [iW];rfl
noncomputable def bG:Rat->List WD->List (Str × Rat)
 | _,[]=>[]
 | x,d::r=>(d.nm,x)::bG (x*aG d.kd d.x) r
theorem fM (ds:List WD) (d:WD):∀ x,bG x (ds++[d])=bG x ds++[(d.nm,going x ds)]:=by
 induction ds with
 | nil=>intro x;rfl
 | cons e r ih=>intro x;show _::bG _ (r++[d])=_;rw [ih];rfl
theorem steps_names (ds:List WD):∀ x,(bG x ds).map (·.1)=ds.map (·.nm):=by
 induction ds with
 | nil=>intro x;rfl
 | cons e r ih=>intro x;show e.nm::(bG _ r).map _=_;rw [ih];rfl
theorem sgn_zero {x:Rat}:sgn x=0↔x=0:=by
 unfold sgn;constructor
 ·intro h
  have:x.num=0:=by
   split at h
   ·cases h
   ·split at h
    ·cases h
    ·omega
  exact Rat.num_eq_zero.mp this
 ·rintro rfl;rfl
noncomputable def cx (f:Str->Rat) (ks:List Str):List Str:=ks.filter (λ n=>decide (f n≠0))
theorem some0_snoc (f:Str->Rat) (ks:List Str) (n:Str):cx f (ks++[n])=if f n=0 then cx f ks else cx f ks++[n]:=by
 unfold cx;rw [i3];by_cases h:f n=0
 ·rw [if_pos h];simp [h]
 ·rw [if_neg h];simp [h]
inductive IspNoughts (a:Ad) (vs:List V) (H:Hp) (Q:VK):Prop
 | mk (d:Addr) (kvs:List (Key × V)) (ks:List Str) (f:Str->Rat) (h1:vs=[.ref d]) (h2:H d=some (.dK kvs)) (h3:Tab (FrIs a) H kvs ks f) (h4:ks.Nodup) (h5:ks.length<=900) (h6:∀ r H' kvs',H r=none->Same H H'->H' r=some (.dK kvs')->Tab (FrIs a) H' kvs' (cx f ks) f->Q (.ref r) H'):IspNoughts a vs H Q
noncomputable def spNoughts (a:Ad):Sp:=λ vs H Q _=>IspNoughts a vs H Q
theorem bH (T:TX K mg a):FnB P w K mg base CX0 "without_noughts" 5 ["plan"] (spNoughts a):=by
 refine T.d_without_noughts.ok sc_without_noughts (λ vs H Q E h=>?_) (λ f cdv A outer s H vs Q E hr h=>?_)
 ·obtain ⟨_,_,_,_,rfl,_⟩:=h;rfl
 ·obtain ⟨d,kvs,ks,f,rfl,hd,tb,nd,hl,k⟩:=h
  refine ⟨_,(ab (al (i:=1) sc_without_noughts.nd rfl (Or.inl rfl) bf)
   (ab (cB (aS gW rfl (cP (pv 0)) (eQ (n:=2) rfl (a7 (au (i:=2) sc_without_noughts.nd rfl (Or.inl rfl)) (a7 (au (i:=3) sc_without_noughts.nd rfl (Or.inl rfl)) dc))) (ah (aL (ar fI (cg T.fr (pv 3) (cj T) hr ak) ag (av _)) (ah (bo (aH hr) (pv 1) (pv 2) (pv 3) rfl)) aA))))
   (ah (ap (pv 1))))),?_⟩
  try dsimp only [aI,Cx.nox,Cx.wish]
  intro r nr;have s0:Same H (upd H r (.dK [])):=aB nr;have hd0:=s0 _ _ hd;have hr0:upd H r (.dK []) r=some (.dK []):=ae;have tb0:=tb.mono λ v x z=>z.mono s0;generalize upd H r (.dK [])=H0 at s0 hd0 hr0 tb0 ⊢;have ndr:d≠r:=λ z=>by rw [z,nr] at hd;cases hd
  refine ⟨d,.dK kvs,hd0,(by intro o z e;cases e),_,rfl,d,kvs,rfl,hd0,λ o=>?_⟩
  refine cH (a:=d) (o:=o) (kvs:=kvs) (λ i σ H2=>i<=ks.length/\∃ z2 z3 kv2,σ=[some (.ref d),some (.ref r),z2,z3]/\H2 d=some (.frz o (.dK kvs))/\(∀ b ob,H b=some ob->b≠d->H2 b=some ob)/\KeepD H0 H2/\H2 r=some (.dK kv2)/\Tab (FrIs a) H2 kv2 (cx f (ks.take i)) f)
   ⟨gR _,_,_,[],rfl,ae,(λ b ob e ne=>by rw [af ne];exact s0 _ _ e),KeepD.put hd0,by rw [af ndr.symm];exact hr0,Tab.nil⟩ (λ i σ H2 _ ⟨_,_,_,_,_,h,_⟩=>h) ?_ ?_
  ·rintro i kv t σ H2 hkv nt ⟨_,z2,z3,kv2,rfl,hf,k2,kp,hr2,tb2⟩;obtain ⟨n,en,e1,ev,q,eq,fq⟩:=tb0.at_ nd hkv;have hi:i<ks.length:=(gH.mp en).1;have ekv:kV kv.1=.str n:=by rw [e1];rfl
   rw [ekv,eq];obtain ⟨H3,zq,s3,ht⟩:=uG (o:=.tup [.str n,.ref q]) nt;rw [zq]
   have fq3:FrAt a.Fraction H3 q (f n):=by
    obtain ⟨q',e',f'⟩:=FrIs.keep ⟨q,rfl,fq⟩ (kp.trans (.of s3))
    cases e';exact f'
   obtain ⟨tk,nk⟩:=bD nd en;refine ⟨t,[.str n,.ref q],rfl,SqT.of ht,rfl,.str n,[.ref q],rfl,⟨.ref q,[],rfl,⟨rfl,?_⟩⟩⟩;have fr:=fq3;refine ⟨_,rfl,q,_,rfl,fq3,?_⟩;walk_at "rd"
   by_cases hz:f n=0
   ·refine cE (by rw [sgn_zero.mpr hz];rfl) ?_;refine ⟨hi,_,_,kv2,rfl,s3 _ _ hf,(λ b ob e ne=>s3 _ _ (k2 _ _ e ne)),kp.trans (.of s3),s3 _ _ hr2,?_⟩;rw [tk,some0_snoc,if_pos hz];exact tb2.mono λ v x z=>z.mono s3
   ·refine eW (by
     rw [gT (λ z=>hz (sgn_zero.mp (V.int.inj z)))];rfl) ?_
    have hr3:=s3 _ _ hr2;have ns0:¬ n∈cx f (ks.take i):=λ z=>nk (iZ.mp z).1
    have ls:kv2.length<=900:=by
     rw [tb2.len];have h1:=iA (λ n=>decide (f n≠0)) (ks.take i);rw [gS] at h1;unfold cx;omega
    refine ⟨_,rfl,_,rfl,_,rfl,r,_,rfl,DPut.k (k:=Sum.inr n) hr3 (aq (by omega)),?_⟩;have kp3:KeepD H3 (upd H3 r (.dK (bj kv2 (Sum.inr n) (.ref q)))):=KeepD.put hr3;refine ⟨hi,_,_,_,rfl,by rw [af ndr];exact s3 _ _ hf,(λ b ob e ne=>?_),(kp.trans (.of s3)).trans kp3,ae,?_⟩
    ·rw [af (aj e nr)];exact s3 _ _ (k2 _ _ e ne)
    ·rw [tk,some0_snoc,if_neg hz,<- dN ns0];refine (Tab.put (tb2.mono λ v x z=>(z.mono s3).keep kp3) (y:=f n) (FrIs.keep ⟨q,rfl,fq3⟩ kp3)).congr λ m _=>?_;unfold upf
     split
     ·rename_i e;rw [e]
     ·rfl
  ·rintro σ H2 ⟨_,z2,z3,kv2,rfl,hf,k2,kp,hr2,tb2⟩;rw [tb.len,gP] at tb2;refine ⟨o,hf,_,rfl,k r _ kv2 nr (λ b ob e=>?_) (by rw [af ndr.symm];exact hr2) (tb2.mono λ v x z=>z.keep (.frz hf))⟩;by_cases hb:b=d
   ·subst hb;rw [ae,<- hd,e]
   ·rw [af hb];exact k2 _ _ e hb
inductive IspSent (K:W.Frag) (a:Ad) (vs:List V) (H:Hp) (Q:VK):Prop
 | mk (p l q:Addr) (ps:List (Str × Rat)) (ns ds:List WD) (x:Rat) (h1:vs=[.ref p,.ref l,.ref q]) (h2:OnNet K a H p l ps ns ds) (h3:FrAt a.Fraction H q x) (h4:(∀ d∈ds,SmR d.x/\SmR (aG d.kd d.x))) (h5:(∀ i,i<=ds.length->SmR (going x (ds.take i)))) (h6:(∀ n,∃ N,BdS (occ (bG x ds) n) N/\N<9000)) (h7:∀ r H' kvs,H r=none->Same H H'->H' r=some (.dK kvs)->Tab (FrIs a) H' kvs (cx (λ n=>(occ (bG x ds) n).sum) (bb (ds.map (·.nm)))) (λ n=>(occ (bG x ds) n).sum)->Q (.ref r) H'):IspSent K a vs H Q
noncomputable def spSent (K:W.Frag) (a:Ad):Sp:=λ vs H Q _=>IspSent K a vs H Q
theorem ok_sent (T:TX K mg a):FnB P w K mg base CX0 "sent" 9 ["net","walk","amount"] (spSent K a):=by
 refine T.d_sent.ok sc_sent (λ vs H Q E h=>?_) (λ f cdv A outer s H vs Q E hr h=>?_)
 ·obtain ⟨_,_,_,_,_,_,_,rfl,_⟩:=h;rfl
 ·obtain ⟨p,l,q,ps,ns,ds,x,rfl,O,fq,hg,hb,hB,k⟩:=h
  refine ⟨_,(ab (al (i:=3) sc_sent.nd rfl (Or.inl rfl) bf)
   (ab (al (i:=4) sc_sent.nd rfl (Or.inl rfl) (pv 2))
   (aP (aS gW rfl (aZ (ax (ok_ways_of T) hr ak (aa (pv 0) (aa (pv 1) ad)))) (au (i:=5) sc_sent.nd rfl (Or.inl rfl)) (ab (bo (aH hr) (pv 3) (ay (pv 5) rfl) (ao op_cat (cQ (aH hr) (pv 3) (ay (pv 5) rfl) (a6 ad) ⟨rfl,rfl,rfl,rfl⟩) (a6 (aa (pv 4) ad))) rfl)
   (ah (al (i:=4) sc_sent.nd rfl (Or.inl rfl) (bV (CX:=CX0) (pv 5) hr ak (aa (pv 4) ad))))))
   (ab (al (i:=6) sc_sent.nd rfl (Or.inl rfl) bf)
   (aP (cB (aS gW rfl (cP (pv 3)) (eQ (n:=2) rfl (a7 (au (i:=7) sc_sent.nd rfl (Or.inl rfl)) (a7 (au (i:=8) sc_sent.nd rfl (Or.inl rfl)) dc))) (ah (bo (aH hr) (pv 6) (pv 7) (ax (ok_total T) hr ak (aa (pv 8) ad)) rfl))))
   (ah (ap (ax (bH T) hr ak (aa (pv 6) ad))))))))),?_⟩
  try dsimp only [aI,Cx.nox,Cx.wish]
  intro dp np;have s0:Same H (upd H dp (.dK [])):=aB np;have hd0:upd H dp (.dK []) dp=some (.dK []):=ae;generalize upd H dp (.dK [])=H0 at s0 hd0 ⊢;refine ⟨_,rfl,?_⟩;refine cZ (λ σ' H'=>∃ z5 z6 z7 z8 z9 kvs,σ'=[some (.ref p),some (.ref l),some (.ref q),some (.ref dp),z5,z6,z7,z8,z9]/\Same H H'/\H' dp=some (.dK kvs)/\Tab (LstIs a) H' kvs (bb (ds.map (·.nm))) (occ (bG x ds))) ?_ ?_
  ·refine ⟨_,rfl,_,rfl,p,l,ps,ns,ds,rfl,O.mono s0,λ r H1 ts nr s1 hr1 hv=>?_⟩;have len:=O.len
   refine ⟨r,rfl,⟨_,SqL.of hr1⟩,a9 (K:=K) (a:=r) (xs:=ts) (λ i σ H2=>i<=ds.length/\∃ z6 z7 z8 z9 g kvs,σ=[some (.ref p),some (.ref l),some (.ref q),some (.ref dp),some (.ref g),z6,z7,z8,z9]/\Same H H2/\KeepD H1 H2/\FrAt a.Fraction H2 g (going x (ds.take i))/\H2 dp=some (.dK kvs)/\Tab (LstIs a) H2 kvs (bb ((ds.take i).map (·.nm))) (occ (bG x (ds.take i))))
    ⟨gR _,_,_,_,_,q,[],rfl,s0.trans s1,.of (Same.refl _),fq.mono (s0.trans s1),s1 _ _ hd0,Tab.nil⟩ (λ i σ H2 _ ⟨_,_,_,_,_,_,_,_,_,kp,_⟩=>SqL.of (kp _ _ hr1 (by intro _ z;cases z) (by intro _ _ z;cases z))) ?_ ?_⟩
   ·rintro i t σ H2 ht ⟨hi,z6,z7,z8,z9,g,kvs,rfl,s2,kp,fg,hd2,tb⟩;obtain ⟨y,ey,wy⟩:=hv.get ht;have hi':=(gH.mp ey).1;have wy2:WayIs a H2 t y:=wy.keep λ b C dx fs _ e=>kp _ _ e (by intro _ z;cases z) (by intro _ _ z;cases z);obtain ⟨p1,vh,vc,q1,rfl,W,hk⟩:=wy2;obtain ⟨dx,fs,ho,h5,_⟩:=id W.ob;have c:=bt T y.kd;refine ⟨_,rfl,dp,rfl,.inl ⟨kvs,.inl hd2⟩,_,rfl,p1,_,dx,fs,_,rfl,ho,c.cl,c.n1,h5.nm,by decide,λ e ne=>?_⟩;obtain ⟨H3,zq,s3,he⟩:=uG (o:=.lst []) ne;rw [zq];have hd3:=s3 _ _ hd2;refine ⟨_,DGet.k (k:=Sum.inr y.nm) hd3,?_⟩;have tb3:=tb.mono λ v x z=>z.mono s3
    have hval:LstIs a H3 ((bu kvs (Sum.inr y.nm)).getD (.ref e)) (occ (bG x (ds.take i)) y.nm):=by
     by_cases hn:y.nm∈bb ((ds.take i).map (·.nm))
     ·obtain ⟨v,ev,r⟩:=tb3.vals _ hn;rw [ev];exact r
     ·rw [tb3.none hn,occ_none (by rw [steps_names];exact λ z=>hn (mem_keysOf.mpr z))];exact ⟨e,[],rfl,he,RowAt.nil⟩
    generalize (bu kvs (Sum.inr y.nm)).getD (.ref e)=vl at hval ⊢;obtain ⟨e1,ts1,rfl,he1,rw1⟩:=hval;refine ⟨_,rfl,zL1,λ e2 ne2=>?_⟩;obtain ⟨H4,zq,s4,he2⟩:=uG (o:=.lst [.ref g]) ne2;rw [zq]
    have olen:(occ (bG x (ds.take i)) y.nm).length<=i:=by
     unfold occ;rw [gG];refine gZ (iA _ _) ?_
     have:=ix List.length (steps_names (ds.take i) x)
     rw [gG,gG,gS] at this;omega
    refine ⟨e1,e2,_,_,rfl,rfl,s4 _ _ he1,he2,gZ (by rw [rw1.1];simp;omega) (Nat.le_of_lt (aq (gJ 1000))),λ e3 ne3=>?_⟩;obtain ⟨H5,zq,s5,he3⟩:=uG (o:=.lst (ts1++[.ref g])) ne3;rw [zq];have s35:=s4.trans s5;have s25:=s3.trans s35
    have lk:kvs.length<=900:=by
     rw [tb.len]
     have:=cV ((ds.take i).map (·.nm))
     rw [gG,gS] at this;omega
    refine ⟨_,rfl,_,rfl,p1,_,dx,fs,_,rfl,s25 _ _ ho,c.cl,c.n1,h5.nm,dp,_,rfl,DPut.k (k:=Sum.inr y.nm) (s25 _ _ hd2) (aq (by omega)),?_⟩;have kp5:KeepD H5 (upd H5 dp (.dK (bj kvs (Sum.inr y.nm) (.ref e3)))):=KeepD.put (s25 _ _ hd2);have hnew:LstIs a H5 (.ref e3) (occ (bG x (ds.take i)) y.nm++[going x (ds.take i)]):=⟨e3,_,rfl,he3,(rw1.mono λ v x z=>z.mono s35).snoc ⟨g,rfl,fg.mono s25⟩⟩;have tb6:=Tab.put (n:=y.nm) (tb3.mono λ v x z=>(z.mono s35).keep kp5) (hnew.keep kp5);have s6:=aC (o:=.dK (bj kvs (Sum.inr y.nm) (.ref e3))) np (s2.trans s25);have hd6:upd H5 dp (.dK (bj kvs (Sum.inr y.nm) (.ref e3))) dp=some (.dK (bj kvs (Sum.inr y.nm) (.ref e3))):=ae;generalize upd H5 dp (.dK (bj kvs (Sum.inr y.nm) (.ref e3)))=H6 at kp5 tb6 s6 hd6 ⊢;have kp26:KeepD H2 H6:=(KeepD.of s25).trans kp5;have W6:=W.keep λ b C dx fs _ e=>kp26 _ _ e (by intro _ z;cases z) (by intro _ _ z;cases z);obtain ⟨dx6,fs6,ho6,h56,_⟩:=id W6.ob
    have fg6:FrAt a.Fraction H6 g (going x (ds.take i)):=by
     obtain ⟨q',e',f'⟩:=FrIs.keep ⟨g,rfl,fg⟩ kp26
     cases e';exact f'
    obtain ⟨b1,b2⟩:=hg y (gI ey);refine ⟨_,rfl,p1,_,dx6,fs6,8,["self","amount"],spOut a y.kd,rfl,ho6,h56.ou,c.cl,by decide,out_any T y.kd,_,rfl,p1,g,y.nm,y.st,y.go,vh,vc,q1,y.x,_,rfl,W6,fg6,b1,hb i hi,b2,λ r' H7 s7 f7=>?_⟩;refine ⟨hi',_,_,_,_,r',_,rfl,s6.trans s7,(kp.trans kp26).trans (.of s7),?_,s7 _ _ hd6,?_⟩
    ·rw [gQ,ey,gY,going_snoc];exact f7
    ·rw [gQ,ey,gY,gM,iM,List.map_nil,keysOf_snoc,fM];refine (tb6.mono λ v x z=>z.mono s7).congr λ m _=>?_;rw [occ_snoc];unfold upf;by_cases e:m=y.nm
     ·rw [if_pos e,if_pos e.symm,e]
     ·rw [if_neg e,if_neg λ z=>e z.symm]
   ·rintro σ H2 ⟨_,z6,z7,z8,z9,g,kvs,rfl,s2,kp,fg,hd2,tb⟩;rw [hv.1,gP] at tb;exact ⟨_,_,_,_,_,kvs,rfl,s2,hd2,tb⟩
  rintro zU hzU σ' H1 ⟨z5,z6,z7,z8,z9,kvs,rfl,s1,hd1,tb⟩;subst hzU;intro dq nq;have nqp:dq≠dp:=λ z=>by rw [z,hd1] at nq;cases nq
  have s2:Same H1 (upd H1 dq (.dK [])):=aB nq;have hq2:upd H1 dq (.dK []) dq=some (.dK []):=ae;generalize upd H1 dq (.dK [])=H2 at s2 hq2 ⊢;have tb2:=tb.mono λ v x z=>z.mono s2;have hd2:=s2 _ _ hd1;have ndk:=gu (ds.map (·.nm))
  have lkk:(bb (ds.map (·.nm))).length<=900:=by
   have h1:=cV (ds.map (·.nm));have h2:=O.len;rw [gG] at h1;omega
  generalize bb (ds.map (·.nm))=ks at tb tb2 ndk lkk k;refine cZ (λ σ' H'=>∃ z5 z6 z8 z9 kvq,σ'=[some (.ref p),some (.ref l),some (.ref q),some (.ref dp),z5,z6,some (.ref dq),z8,z9]/\Same H H'/\H' dq=some (.dK kvq)/\Tab (FrIs a) H' kvq ks (λ n=>(occ (bG x ds) n).sum)) ?_ ?_
  ·refine ⟨dp,.dK kvs,hd2,(by intro o z e;cases e),_,rfl,dp,kvs,rfl,hd2,λ o=>?_⟩
   refine cH (a:=dp) (o:=o) (kvs:=kvs) (λ i σ H3=>i<=ks.length/\∃ z5 z6 z8 z9 kvq,σ=[some (.ref p),some (.ref l),some (.ref q),some (.ref dp),z5,z6,some (.ref dq),z8,z9]/\H3 dp=some (.frz o (.dK kvs))/\Same H H3/\KeepD H2 H3/\H3 dq=some (.dK kvq)/\Tab (FrIs a) H3 kvq (ks.take i) (λ n=>(occ (bG x ds) n).sum))
    ⟨gR _,_,_,_,_,[],rfl,ae,aC np (s1.trans s2),KeepD.put hd2,by rw [af nqp];exact hq2,Tab.nil⟩ (λ i σ H2 _ ⟨_,_,_,_,_,_,_,h,_⟩=>h) ?_ ?_
   ·rintro i kv t σ H3 hkv nt ⟨_,z5,z6,z8,z9,kvq,rfl,hf,s3,kp,hq3,tq⟩;obtain ⟨n,en,e1,ev,vl⟩:=tb2.at_ ndk hkv;have hi:i<ks.length:=(gH.mp en).1;have ekv:kV kv.1=.str n:=by rw [e1];rfl
    obtain ⟨le,ts,el,hl,rws⟩:=vl.keep kp;rw [ekv,el];obtain ⟨H4,zq,s4,ht⟩:=uG (o:=.tup [.str n,.ref le]) nt;rw [zq];obtain ⟨tk,nk⟩:=bD ndk en;refine ⟨t,[.str n,.ref le],rfl,SqT.of ht,rfl,.str n,[.ref le],rfl,⟨.ref le,[],rfl,⟨rfl,?_⟩⟩⟩;obtain ⟨N,bN,hN⟩:=hB n;refine ⟨_,rfl,le,ts,_,N,rfl,SqL.of (s4 _ _ hl),rws.mono λ v x z=>z.mono s4,bN,hN,λ r H5 nr s5 f5=>?_⟩;have s45:=s4.trans s5
    have lq:kvq.length<=900:=by
     rw [tq.len,gS];omega
    refine ⟨_,rfl,_,rfl,dq,_,rfl,DPut.k (k:=Sum.inr n) (s45 _ _ hq3) (aq (by omega)),?_⟩;have kp5:KeepD H5 (upd H5 dq (.dK (bj kvq (Sum.inr n) (.ref r)))):=KeepD.put (s45 _ _ hq3);refine ⟨hi,_,_,_,_,_,rfl,by rw [af nqp.symm];exact s45 _ _ hf,aC (s1.free nq) (s3.trans s45),(kp.trans (.of s45)).trans kp5,ae,?_⟩;rw [tk,<- dN nk];refine (Tab.put (n:=n) (tq.mono λ v x z=>(z.mono s45).keep kp5) (y:=(occ (bG x ds) n).sum) (FrIs.keep ⟨r,rfl,f5⟩ kp5)).congr λ m _=>?_;unfold upf
    split
    ·rename_i e;rw [e]
    ·rfl
   ·rintro σ H3 ⟨_,z5,z6,z8,z9,kvq,rfl,hf,s3,kp,hq3,tq⟩;rw [tb.len,gP] at tq;exact ⟨o,hf,_,_,_,_,kvq,rfl,aC np s3,by rw [af nqp];exact hq3,tq.mono λ v x z=>z.keep (.frz hf)⟩
  rintro zU hzU σ' H3 ⟨z5,z6,z8,z9,kvq,rfl,s3,hq3,tq⟩;subst hzU;exact ⟨_,rfl,dq,kvq,ks,_,rfl,hq3,tq,ndk,lkk,λ r H4 kvr nr s4 hr4 tr=>k r H4 kvr (s3.free nr) (s3.trans s4) hr4 tr⟩
end
end G
namespace G
open PySem L2
section
noncomputable def NetOff (a:Ad) (H:Hp) (p d:Addr) (ps:List (Str × Rat)) (ds:List WD):Prop:=∃ H0,NetAt a H0 p ps ds/\Same H0 H/\H0 d=none
theorem NetOff.mono {H H':Hp} {p d:Addr} {ps:List (Str × Rat)} {ds:List WD} (h:NetOff a H p d ps ds) (s:Same H H'):NetOff a H' p d ps ds:=by
 obtain ⟨H0,n,s0,e⟩:=h
 exact ⟨H0,n,s0.trans s,e⟩
theorem NetOff.at_ {H:Hp} {p d:Addr} {ps:List (Str × Rat)} {ds:List WD} (h:NetOff a H p d ps ds):NetAt a H p ps ds:=by
 obtain ⟨_,n,s0,_⟩:=h
 exact n.mono s0
theorem NetOff.but {H H':Hp} {p d:Addr} {ps:List (Str × Rat)} {ds:List WD} (h:NetOff a H p d ps ds) (k:∀ b ob,H b=some ob->b≠d->H' b=some ob):NetOff a H' p d ps ds:=by
 obtain ⟨H0,n,s0,e⟩:=h
 exact ⟨H0,n,λ b ob x=>k b ob (s0 b ob x) (aj x e),e⟩
inductive IspNNames (a:Ad) (vs:List V) (H:Hp) (Q:VK):Prop
 | mk (p:Addr) (ps:List (Str × Rat)) (ds:List WD) (h1:vs=[.ref p]) (h2:NetAt a H p ps ds) (h3:∀ l,H l=none->Q (.ref l) (upd H l (.lst (ps.map λ x=>V.str x.1)))):IspNNames a vs H Q
noncomputable def spNNames (a:Ad):Sp:=λ vs H Q _=>IspNNames a vs H Q
theorem ok_Net_names (T:TX K mg a):MtB P w K mg base CX0 a.Net "names" 1 ["self"] (spNNames a):=by
 refine T.m_Net_names.ok sc_Net_names (λ vs H Q E h=>?_) (λ f cdv A outer s H vs Q E hr h=>?_)
 ·obtain ⟨_,_,_,rfl,_⟩:=h;rfl
 ·obtain ⟨p,ps,ds,rfl,⟨dx,dw,dy,hp,⟨kvs,h1,h2,h3⟩,hy⟩,k⟩:=h;refine ⟨_,(ah (ap (bJ (b8 hr.hd) (by rfl) T.z_list iH (aa (ay (pv 0) rfl) ad)))),?_⟩;try dsimp only [aI,Cx.nox,Cx.wish]
  refine ⟨_,rfl,p,_,dx,_,_,rfl,hp,T.cl_Net,T.na_Net_wants,fsN_w _ _,dw,kvs,rfl,.inl h1,λ l nl=>?_⟩
  have e:(kvs.map λ kv=>kV kv.1)=ps.map λ x=>V.str x.1:=by
   have:=ix (List.map kV) h2
   rw [iF,iF] at this;exact this
  rw [e];exact k l nl
inductive IspNAll (a:Ad) (vs:List V) (H:Hp) (Q:VK):Prop
 | mk (p:Addr) (ps:List (Str × Rat)) (ds:List WD) (h1:vs=[.ref p]) (h2:NetAt a H p ps ds) (h3:∀ l H' ts,H l=none->Same H H'->H' l=some (.lst ts)->RowAt (WayIs a) H' ts ds->Q (.ref l) H'):IspNAll a vs H Q
noncomputable def spNAll (a:Ad):Sp:=λ vs H Q _=>IspNAll a vs H Q
theorem ok_Net_all_ways (T:TX K mg a):MtB P w K mg base CX0 a.Net "all_ways" 1 ["self"] (spNAll a):=by
 refine T.m_Net_all_ways.ok sc_Net_all_ways (λ vs H Q E h=>?_) (λ f cdv A outer s H vs Q E hr h=>?_)
 ·obtain ⟨_,_,_,rfl,_⟩:=h;rfl
 ·obtain ⟨p,ps,ds,rfl,⟨dx,dw,dy,hp,hw,⟨kvs,h1,h2,h3⟩⟩,k⟩:=h;refine ⟨_,(ah (ap (bJ (call_list_vals hr.hd) (by rfl) T.z_list iH (aa (pe_bm0 PySem.F.plainAttrs_dict PySem.F.slot_dict_values PySem.F.type_dict_values mt_values (ay (pv 0) rfl)) ad)))),?_⟩;try dsimp only [aI,Cx.nox,Cx.wish]
  refine ⟨_,rfl,p,_,dx,_,_,rfl,hp,T.cl_Net,T.na_Net_ways,fsN_y _ _,(.inr (.inr (.inl ⟨rfl,.inl ⟨kvs,h1⟩⟩))),dy,kvs,rfl,rfl,.inl h1,λ v nv=>?_⟩;have s1:=aB (o:=ViewO v dy) nv;refine ⟨v,dy,kvs,rfl,ae,.inl (s1 _ _ h1),λ l nl=>?_⟩;have s2:=s1.trans (aB (o:=.lst (kvs.map (·.2))) nl);exact k l _ _ (s1.free nl) s2 ae (h3.mono λ v x z=>z.mono s2)
noncomputable def aE (ks:List Str) (f:Str->Rat) (n:Str):Rat:=if n∈ks then f n else 0
inductive IspAmount (a:Ad) (vs:List V) (H:Hp) (Q:VK):Prop
 | mk (d:Addr) (kvs:List (Key × V)) (ks:List Str) (f:Str->Rat) (n:Str) (h1:vs=[.ref d,.str n]) (h2:Rd H d (.dK kvs)) (h3:Tab (FrIs a) H kvs ks f) (h4:∀ q H',Same H H'->FrAt a.Fraction H' q (aE ks f n)->Q (.ref q) H'):IspAmount a vs H Q
noncomputable def spAmount (a:Ad):Sp:=λ vs H Q _=>IspAmount a vs H Q
theorem ok_amount (T:TX K mg a):FnB P w K mg base CX0 "amount" 5 ["plan","name"] (spAmount a):=by
 refine T.d_amount.ok sc_amount (λ vs H Q E h=>?_) (λ f cdv A outer s H vs Q E hr h=>?_)
 ·obtain ⟨_,_,_,_,_,rfl,_⟩:=h;rfl
 ·obtain ⟨d,kvs,ks,f,n,rfl,hd,tb,k⟩:=h;refine ⟨_,(ah (ap (cQ (aH hr) (pv 0) (pv 1) (bp (mk1 T) hr T.mg_Fraction ak (aa ag ad)) ⟨rfl,rfl,rfl,rfl⟩))),?_⟩;try dsimp only [aI,Cx.nox,Cx.wish]
  refine ⟨_,rfl,d,rfl,.inl ⟨kvs,hd⟩,_,rfl,0,1,rfl,by decide,sm1,λ z H1 nz s1 f1=>?_⟩;have hd1:Rd H1 d (.dK kvs):=hd.imp (λ h=>s1 _ _ h) λ⟨o,h⟩=>⟨o,s1 _ _ h⟩;refine ⟨bu kvs (Sum.inr n),.inl ⟨kvs,Sum.inr n,hd1,rfl,rfl⟩,?_⟩;unfold aE at k;by_cases hn:n∈ks
  ·obtain ⟨v,ev,q,rfl,fq⟩:=tb.vals n hn;rw [ev];rw [if_pos hn] at k;exact k q H1 s1 (fq.mono s1)
  ·rw [tb.none hn];rw [if_neg hn] at k;rw [Rat.zero_divInt] at f1;exact k z H1 s1 f1
noncomputable def sumStep (A:Str->Rat) (F:Str->Rat) (d:WD):Str->Rat:=upf (upf F d.st (F d.st-A d.nm)) d.go (F d.go+A d.nm*aG d.kd d.x)
noncomputable def aM (A:Str->Rat) (ds:List WD):Str->Rat:=ds.foldl (sumStep A) (λ _=>0)
theorem cF (A:Str->Rat) (ds:List WD) (d:WD):aM A (ds++[d])=sumStep A (aM A ds) d:=by unfold aM;rw [iW];rfl
structure SumOk (A:Str->Rat) (ps:List (Str × Rat)) (ds:List WD):Prop where
 np:(ps.map (·.1)).Nodup
 lp:ps.length<=900
 io:∀ d∈ds,d.st∈ps.map (·.1)/\d.go∈ps.map (·.1)
 ne:∀ d∈ds,d.st≠d.go
 sx:∀ d∈ds,SmR d.x/\SmR (aG d.kd d.x)
 sa:∀ d∈ds,SmR (A d.nm)/\SmR (A d.nm*aG d.kd d.x)
 sf:∀ i s,SmR (aM A (ds.take i) s)
inductive IspSumsOwn (a:Ad) (vs:List V) (H:Hp) (Q:VK):Prop
 | mk (p d:Addr) (ps:List (Str × Rat)) (ds:List WD) (kvs:List (Key × V)) (ks:List Str) (f:Str->Rat) (h1:vs=[.ref p,.ref d]) (h2:NetAt a H p ps ds) (h3:H d=some (.dK kvs)) (h4:Tab (FrIs a) H kvs ks f) (h5:SumOk (aE ks f) ps ds) (h6:∀ r H' kvr,H r=none->Same H H'->H' r=some (.dK kvr)->Tab (FrIs a) H' kvr (ps.map (·.1)) (aM (aE ks f) ds)->Q (.ref r) H'):IspSumsOwn a vs H Q
noncomputable def spSumsOwn (a:Ad):Sp:=λ vs H Q _=>IspSumsOwn a vs H Q
theorem fe (T:TX K mg a):FnB P w K mg base CX0 "sums_of_own_ways" 9 ["net","plan"] (spSumsOwn a):=by
 refine T.d_sums_of_own_ways.ok sc_sums_of_own_ways (λ vs H Q E h=>?_) (λ f cdv A outer s H vs Q E hr h=>?_)
 ·obtain ⟨_,_,_,_,_,_,_,rfl,_⟩:=h;rfl
 ·obtain ⟨p,d,ps,ds,kvs,ks,f,rfl,hn,hd,tb,ok,k⟩:=h
  refine ⟨_,(ab (al (i:=2) sc_sums_of_own_ways.nd rfl (Or.inl rfl) bf)
   (aP (aS gW rfl (aZ (pe_mtD0 (CX:=CX0) (pv 0) hr ak)) (au (i:=3) sc_sums_of_own_ways.nd rfl (Or.inl rfl)) (ah (bo (aH hr) (pv 2) (pv 3) (bp (mk1 T) hr T.mg_Fraction ak (aa ag ad)) rfl)))
   (ab (aS gW rfl (aZ (pe_mtD0 (CX:=CX0) (pv 0) hr ak)) (au (i:=4) sc_sums_of_own_ways.nd rfl (Or.inl rfl)) (ab (al (i:=5) sc_sums_of_own_ways.nd rfl (Or.inl rfl) (ax (ok_amount T) hr ak (aa (pv 1) (aa (ay (pv 4) rfl) ad))))
   (ab (bo (aH hr) (pv 2) (ay (pv 4) rfl) (bE T.fr (aU (aH hr) (pv 2) (ay (pv 4) rfl) (λ _ _=>rfl)) (cS T) hr ak (aa (pv 5) ad)) rfl)
   (ah (bo (aH hr) (pv 2) (ay (pv 4) rfl) (bE T.fr (aU (aH hr) (pv 2) (ay (pv 4) rfl) (λ _ _=>rfl)) (ok_plus T) hr ak (aa (bV (CX:=CX0) (pv 4) hr ak (aa (pv 5) ad)) ad)) rfl)))))
   (ah (ap (pv 2)))))),?_⟩
  try dsimp only [aI,Cx.nox,Cx.wish]
  intro r nr;have s0:Same H (upd H r (.dK [])):=aB nr;have hr0:upd H r (.dK []) r=some (.dK []):=ae;generalize upd H r (.dK [])=H0 at s0 hr0 ⊢;refine cZ (λ σ' H'=>∃ z3 z4 z5 kvr,σ'=[some (.ref p),some (.ref d),some (.ref r),z3,z4,z5]/\Same H H'/\H' r=some (.dK kvr)/\Tab (FrIs a) H' kvr (ps.map (·.1)) (λ _=>0)) ?_ ?_
  ·obtain ⟨dx,dw,dy,hp,hw,hy⟩:=hn.mono s0;refine ⟨_,rfl,p,a.Net,dx,_,1,["self"],spNNames a,rfl,hp,eX _ _ (by decide +kernel) (by decide +kernel),T.cl_Net,by decide,ok_Net_names T,p,ps,ds,rfl,⟨dx,dw,dy,hp,hw,hy⟩,λ l nl=>?_⟩;obtain ⟨H1,zq,s1,hl⟩:=uG (o:=.lst (ps.map λ x=>V.str x.1)) nl;rw [zq];have lr:l≠r:=λ z=>by rw [z,hr0] at nl;cases nl
   refine ⟨l,rfl,⟨_,SqL.of hl⟩,a9 (K:=K) (a:=l) (xs:=ps.map λ x=>V.str x.1) (λ i σ H2=>i<=ps.length/\∃ z3 z4 z5 kvr,σ=[some (.ref p),some (.ref d),some (.ref r),z3,z4,z5]/\Same H H2/\H2 l=some (.lst (ps.map λ x=>V.str x.1))/\H2 r=some (.dK kvr)/\Tab (FrIs a) H2 kvr ((ps.map (·.1)).take i) (λ _=>0))
    ⟨gR _,_,_,_,[],rfl,s0.trans s1,hl,s1 _ _ hr0,Tab.nil⟩ (λ i σ H2 _ ⟨_,_,_,_,_,_,_,h,_⟩=>SqL.of h) ?_ ?_⟩
   ·rintro i t σ H2 ht ⟨hi,z3,z4,z5,kvr,rfl,s2,hl2,hr2,tr⟩;rw [gK] at ht
    cases ex:ps[i]? with
    | none=>rw [ex] at ht;cases ht
    | some x=>
     rw [ex] at ht
     cases ht;have hi':=(gH.mp ex).1;have en:(ps.map (·.1))[i]?=some x.1:=by rw [gK,ex];rfl
     obtain ⟨tk,nk⟩:=bD ok.np en;refine ⟨0,1,rfl,by decide,sm1,λ z H3 nz s3 f3=>?_⟩;rw [Rat.zero_divInt] at f3
     have lk:kvr.length<=900:=by
      rw [tr.len,gS,gG]
      have:=ok.lp
      omega
     refine ⟨_,rfl,_,rfl,r,_,rfl,DPut.k (k:=Sum.inr x.1) (s3 _ _ hr2) (aq (by omega)),?_⟩;have kp:KeepD H3 (upd H3 r (.dK (bj kvr (Sum.inr x.1) (.ref z)))):=KeepD.put (s3 _ _ hr2);refine ⟨hi',_,_,_,_,rfl,aC nr (s2.trans s3),by rw [af lr];exact s3 _ _ hl2,ae,?_⟩;rw [tk,<- dN nk];refine (Tab.put (n:=x.1) (tr.mono λ v x z=>(z.mono s3).keep kp) (y:=0) (FrIs.keep ⟨z,rfl,f3⟩ kp)).congr λ m _=>?_;unfold upf
     split <;> rfl
   ·rintro σ H2 ⟨_,z3,z4,z5,kvr,rfl,s2,hl2,hr2,tr⟩;rw [gG] at tr;rw [show ps.length=(ps.map (·.1)).length by rw [gG],gP] at tr;exact ⟨_,_,_,kvr,rfl,s2,hr2,tr⟩
  rintro zU hzU σ' H1 ⟨z3,z4,z5,kvr,rfl,s1,hr1,tr⟩;obtain ⟨dx,dw,dy,hp,hw,hy⟩:=hn.mono s1;subst hzU;refine ⟨_,rfl,p,a.Net,dx,_,1,["self"],spNAll a,rfl,hp,eX _ _ (by decide +kernel) (by decide +kernel),T.cl_Net,by decide,ok_Net_all_ways T,p,ps,ds,rfl,⟨dx,dw,dy,hp,hw,hy⟩,λ l H2 ts nl s2 hl2 hv=>?_⟩
  refine ⟨l,rfl,⟨_,SqL.of hl2⟩,a9 (K:=K) (a:=l) (xs:=ts) (λ i σ H3=>i<=ds.length/\∃ z3 z4 z5 kvr,σ=[some (.ref p),some (.ref d),some (.ref r),z3,z4,z5]/\Same H H3/\KeepD H2 H3/\H3 r=some (.dK kvr)/\Tab (FrIs a) H3 kvr (ps.map (·.1)) (aM (aE ks f) (ds.take i)))
   ⟨gR _,_,_,_,kvr,rfl,s1.trans s2,.of (Same.refl _),s2 _ _ hr1,tr.mono λ v x z=>z.mono s2⟩ (λ i σ H3 _ ⟨_,_,_,_,_,_,_,kp,_⟩=>SqL.of (kp _ _ hl2 (by intro _ z;cases z) (by intro _ _ z;cases z))) ?_ ?_⟩
  ·rintro i t σ H3 ht ⟨hi,z3,z4,z5,kvr,rfl,s3,kp,hr3,tr3⟩;obtain ⟨y,ey,wy⟩:=hv.get ht;have hi':=(gH.mp ey).1;have my:=gI ey;have wy3:WayIs a H3 t y:=wy.keep λ b C dx fs _ e=>kp _ _ e (by intro _ z;cases z) (by intro _ _ z;cases z);obtain ⟨p1,vh,vc,q1,rfl,W,hk⟩:=wy3;obtain ⟨dx1,fs1,ho,h5,_⟩:=id W.ob;have c:=bt T y.kd;obtain ⟨i1,i2⟩:=ok.io y my;obtain ⟨a1,a2⟩:=ok.sa y my;obtain ⟨x1,x2⟩:=ok.sx y my;have hne:=ok.ne y my
   have lk:kvr.length<=900:=by
    rw [tr3.len,gG];exact ok.lp
   refine ⟨_,rfl,_,rfl,p1,_,dx1,fs1,_,rfl,ho,c.cl,c.n1,h5.nm,d,kvs,ks,f,y.nm,rfl,.inl (s3 _ _ hd),tb.mono (λ v x z=>z.mono s3),λ q H4 s4 f4=>?_⟩;have ho4:=s4 _ _ ho;obtain ⟨v1,ev1,r1,rfl,fr1⟩:=(tr3.mono λ v x z=>z.mono s4).vals _ i1;refine ⟨_,rfl,_,rfl,p1,_,dx1,fs1,_,rfl,ho4,c.cl,c.n2,h5.st,r,_,rfl,.inl ⟨kvr,Sum.inr y.st,.inl (s4 _ _ hr3),rfl,ev1.symm⟩,r1,_,rfl,fr1,_,rfl,r1,q,_,_,rfl,fr1,f4,ok.sf i _,a1,True.intro,λ r2 H5 nr2 s5 f5=>?_⟩;have s45:=s4.trans s5;refine ⟨_,rfl,_,rfl,p1,_,dx1,fs1,_,rfl,s45 _ _ ho,c.cl,c.n2,h5.st,r,_,rfl,DPut.k (k:=Sum.inr y.st) (s45 _ _ hr3) (aq (by omega)),?_⟩;have kp5:KeepD H5 (upd H5 r (.dK (bj kvr (Sum.inr y.st) (.ref r2)))):=KeepD.put (s45 _ _ hr3);have tr6:=Tab.put (n:=y.st) (tr3.mono λ v x z=>(z.mono s45).keep kp5) (FrIs.keep ⟨r2,rfl,f5⟩ kp5);have s6:=aC (o:=.dK (bj kvr (Sum.inr y.st) (.ref r2))) nr (s3.trans s45);have hr6:upd H5 r (.dK (bj kvr (Sum.inr y.st) (.ref r2))) r=some (.dK (bj kvr (Sum.inr y.st) (.ref r2))):=ae;have lk6:(bj kvr (Sum.inr y.st:Key) (.ref r2)).length<=901:=gZ (eV _ _ _) (by omega);generalize bj kvr (Sum.inr y.st) (.ref r2)=kv6 at kp5 tr6 s6 hr6 lk6 ⊢;generalize upd H5 r (.dK kv6)=H6 at kp5 tr6 s6 hr6 ⊢;rw [show addK (ps.map (·.1)) y.st=ps.map (·.1) from if_pos i1] at tr6;have kp36:KeepD H3 H6:=(KeepD.of s45).trans kp5;have W6:=W.keep λ b C dx fs _ e=>kp36 _ _ e (by intro _ z;cases z) (by intro _ _ z;cases z);obtain ⟨dx6,fs6,ho6,h56,_⟩:=id W6.ob;obtain ⟨q6,e6,f6⟩:=FrIs.keep ⟨q,rfl,f4⟩ ((KeepD.of s5).trans kp5)
   cases e6;obtain ⟨v7,ev7,r7,rfl,fr7⟩:=tr6.vals _ i2;rw [upf_ne (Ne.symm hne)] at fr7;refine ⟨_,rfl,_,rfl,p1,_,dx6,fs6,_,rfl,ho6,c.cl,c.n3,h56.go,r,_,rfl,.inl ⟨_,Sum.inr y.go,.inl hr6,rfl,ev7.symm⟩,r7,_,rfl,fr7,_,rfl,p1,_,dx6,fs6,8,["self","amount"],spOut a y.kd,rfl,ho6,h56.ou,c.cl,by decide,out_any T y.kd,_,rfl,p1,q,y.nm,y.st,y.go,vh,vc,q1,y.x,_,rfl,W6,f6,x1,a1,x2,λ r8 H7 s7 f7=>?_⟩;refine ⟨r7,r8,_,_,rfl,fr7.mono s7,f7,ok.sf i _,a2,True.intro,λ r9 H8 nr9 s8 f8=>?_⟩;have s78:=s7.trans s8;refine ⟨_,rfl,_,rfl,p1,_,dx6,fs6,_,rfl,s78 _ _ ho6,c.cl,c.n3,h56.go,r,_,rfl,DPut.k (k:=Sum.inr y.go) (s78 _ _ hr6) (aq (by omega)),?_⟩;have kp8:KeepD H8 (upd H8 r (.dK (bj kv6 (Sum.inr y.go) (.ref r9)))):=KeepD.put (s78 _ _ hr6);have tr9:=Tab.put (n:=y.go) (tr6.mono λ v x z=>(z.mono s78).keep kp8) (FrIs.keep ⟨r9,rfl,f8⟩ kp8);rw [show addK (ps.map (·.1)) y.go=ps.map (·.1) from if_pos i2] at tr9;refine ⟨hi',_,_,_,_,rfl,aC nr (s6.trans s78),((kp.trans kp36).trans (.of s78)).trans kp8,ae,?_⟩;rw [gQ,ey,gY,cF];exact tr9
  ·rintro σ H3 ⟨_,z3,z4,z5,kvr,rfl,s3,kp,hr3,tr3⟩;rw [hv.1,gP] at tr3;exact ⟨_,rfl,k r H3 kvr nr s3 hr3 tr3⟩
inductive IspRefO (a:Ad) (vs:List V) (H:Hp) (Q:VK):Prop
 | mk (p d:Addr) (ps:List (Str × Rat)) (ds:List WD) (kvs:List (Key × V)) (ks:List Str) (f:Str->Rat) (h1:vs=[.ref p,.ref d]) (h2:NetOff a H p d ps ds) (h3:(ds.map (·.nm)).Nodup) (h4:H d=some (.dK kvs)) (h5:Tab (FrIs a) H kvs ks f) (h6:ks.Nodup) (h7:(∀ n∈ks,n∈ds.map (·.nm))) (h8:∀ H',Same H H'->Q .non H'):IspRefO a vs H Q
noncomputable def spRefO (a:Ad):Sp:=λ vs H Q _=>IspRefO a vs H Q
theorem eE (T:TX K mg a):FnB P w K mg base CX0 "refuse_other_names" 2 ["net","plan"] (spRefO a):=by
 refine T.d_refuse_other_names.ok sc_refuse_other_names (λ vs H Q E h=>?_) (λ f cdv A outer s H vs Q E hr h=>?_)
 ·obtain ⟨_,_,_,_,_,_,_,rfl,_⟩:=h;rfl
 ·obtain ⟨p,d,ps,ds,kvs,ks,f,rfl,hn,nd,hd,tb,ndk,sub,k⟩:=h;refine ⟨_,(ah (cB (aS gW rfl (c9 (pv 1)) (au (i:=2) sc_refuse_other_names.nd rfl (Or.inl rfl)) (ah (aQ (bV (CX:=CX0) (pv 0) hr ak (aa (pv 2) ad))))))),?_⟩;try dsimp only [aI,Cx.nox,Cx.wish]
  refine ⟨d,.dK kvs,hd,(by intro o z e;cases e),_,rfl,d,kvs,rfl,hd,λ o=>?_⟩
  refine for_dict (a:=d) (o:=o) (kvs:=kvs) (λ i σ H2=>∃ z,σ=[some (.ref p),some (.ref d),z]/\H2 d=some (.frz o (.dK kvs))/\∀ b ob,H b=some ob->b≠d->H2 b=some ob)
   ⟨_,rfl,ae,λ b ob e ne=>by rw [af ne];exact e⟩ (λ i σ H2 _ ⟨_,_,h,_⟩=>h) ?_ ?_
  ·rintro i kv σ H2 hkv ⟨z,rfl,hf,k2⟩;obtain ⟨n,en,e1,ev,_⟩:=tb.at_ ndk hkv;have ekv:kV kv.1=.str n:=by rw [e1];rfl
   rw [ekv];obtain ⟨y,my,rfl⟩:=gL.mp (sub n (gI en));obtain ⟨dx,dw,dy,hp,hw,hy⟩:=(hn.but k2).at_;refine ⟨_,rfl,p,a.Net,dx,_,1,["self","name"],cI a,rfl,hp,eX _ _ (by decide +kernel) (by decide +kernel),T.cl_Net,by decide,ce T,_,rfl,p,ps,ds,y,rfl,⟨dx,dw,dy,hp,hw,hy⟩,nd,my,λ v _=>?_⟩;exact ⟨_,rfl,hf,k2⟩
  ·rintro σ H2 ⟨z,rfl,hf,k2⟩;refine ⟨o,hf,k _ λ b ob e=>?_⟩;by_cases hb:b=d
   ·subst hb;rw [ae,<- hd,e]
   ·rw [af hb];exact k2 _ _ e hb
inductive IspSums (a:Ad) (vs:List V) (H:Hp) (Q:VK):Prop
 | mk (p d:Addr) (ps:List (Str × Rat)) (ds:List WD) (kvs:List (Key × V)) (ks:List Str) (f:Str->Rat) (h1:vs=[.ref p,.ref d]) (h2:NetOff a H p d ps ds) (h3:(ds.map (·.nm)).Nodup) (h4:H d=some (.dK kvs)) (h5:Tab (FrIs a) H kvs ks f) (h6:ks.Nodup) (h7:(∀ n∈ks,n∈ds.map (·.nm))) (h8:SumOk (aE ks f) ps ds) (h9:∀ r H' kvr,H r=none->Same H H'->H' r=some (.dK kvr)->Tab (FrIs a) H' kvr (ps.map (·.1)) (aM (aE ks f) ds)->Q (.ref r) H'):IspSums a vs H Q
noncomputable def spSums (a:Ad):Sp:=λ vs H Q _=>IspSums a vs H Q
theorem ok_sums (T:TX K mg a):FnB P w K mg base CX0 "sums" 10 ["net","plan"] (spSums a):=by
 refine T.d_sums.ok sc_sums (λ vs H Q E h=>?_) (λ f cdv A outer s H vs Q E hr h=>?_)
 ·obtain ⟨_,_,_,_,_,_,_,rfl,_⟩:=h;rfl
 ·obtain ⟨p,d,ps,ds,kvs,ks,f,rfl,hn,nd,hd,tb,ndk,sub,ok,k⟩:=h
  refine ⟨_,(ab (aQ (ax (eE T) hr ak (aa (pv 0) (aa (pv 1) ad))))
   (ah (ap (ax (fe T) hr ak (aa (pv 0) (aa (pv 1) ad)))))),?_⟩
  try dsimp only [aI,Cx.nox,Cx.wish]
  refine ⟨_,rfl,_,rfl,p,d,ps,ds,kvs,ks,f,rfl,hn,nd,hd,tb,ndk,sub,λ H1 s1=>?_⟩;exact ⟨_,rfl,_,rfl,p,d,ps,ds,kvs,ks,f,rfl,(hn.mono s1).at_,s1 _ _ hd,tb.mono (λ v x z=>z.mono s1),ok,λ r H2 kvr nr s2 hr2 tr=>k r H2 kvr (s1.free nr) (s1.trans s2) hr2 tr⟩
end
end G
namespace G
open PySem L2
section
inductive IspScaled (a:Ad) (vs:List V) (H:Hp) (Q:VK):Prop
 | mk (d q:Addr) (kvs:List (Key × V)) (ks:List Str) (f:Str->Rat) (y:Rat) (h1:vs=[.ref d,.ref q]) (h2:H d=some (.dK kvs)) (h3:Tab (FrIs a) H kvs ks f) (h4:ks.Nodup) (h5:ks.length<=900) (h6:FrAt a.Fraction H q y) (h7:SmR y) (h8:(∀ n∈ks,SmR (f n))) (h9:∀ r H' kvs',H r=none->Same H H'->H' r=some (.dK kvs')->Tab (FrIs a) H' kvs' (cx (λ n=>f n*y) ks) (λ n=>f n*y)->Q (.ref r) H'):IspScaled a vs H Q
noncomputable def spScaled (a:Ad):Sp:=λ vs H Q _=>IspScaled a vs H Q
theorem ok_scaled (T:TX K mg a):FnB P w K mg base CX0 "scaled" 6 ["plan","number"] (spScaled a):=by
 refine T.d_scaled.ok sc_scaled (λ vs H Q E h=>?_) (λ f cdv A outer s H vs Q E hr h=>?_)
 ·obtain ⟨_,_,_,_,_,_,rfl,_⟩:=h;rfl
 ·obtain ⟨d,q,kvs,ks,f,y,rfl,hd,tb,nd,hl,fq,sy,sf,k⟩:=h
  refine ⟨_,(ab (al (i:=2) sc_scaled.nd rfl (Or.inl rfl) bf)
   (aP (cB (aS gW rfl (cP (pv 0)) (eQ (n:=2) rfl (a7 (au (i:=3) sc_scaled.nd rfl (Or.inl rfl)) (a7 (au (i:=4) sc_scaled.nd rfl (Or.inl rfl)) dc))) (ah (bo (aH hr) (pv 2) (pv 3) (bE T.fr (pv 4) (dJ T) hr ak (aa (pv 1) ad)) rfl))))
   (ah (ap (ax (bH T) hr ak (aa (pv 2) ad)))))),?_⟩
  try dsimp only [aI,Cx.nox,Cx.wish]
  intro r nr;have s0:Same H (upd H r (.dK [])):=aB nr;have hd0:=s0 _ _ hd;have hr0:upd H r (.dK []) r=some (.dK []):=ae;have tb0:=tb.mono λ v x z=>z.mono s0;have fq0:=fq.mono s0;generalize upd H r (.dK [])=H0 at s0 hd0 hr0 tb0 fq0 ⊢;have ndr:d≠r:=λ z=>by rw [z,nr] at hd;cases hd
  refine cZ (λ σ' H'=>∃ z3 z4 kvr,σ'=[some (.ref d),some (.ref q),some (.ref r),z3,z4]/\Same H H'/\H' r=some (.dK kvr)/\Tab (FrIs a) H' kvr ks (λ n=>f n*y)) ?_ ?_
  ·refine ⟨d,.dK kvs,hd0,(by intro o z e;cases e),_,rfl,d,kvs,rfl,hd0,λ o=>?_⟩
   refine cH (a:=d) (o:=o) (kvs:=kvs) (λ i σ H2=>i<=ks.length/\∃ z3 z4 kv2,σ=[some (.ref d),some (.ref q),some (.ref r),z3,z4]/\H2 d=some (.frz o (.dK kvs))/\(∀ b ob,H b=some ob->b≠d->H2 b=some ob)/\KeepD H0 H2/\H2 r=some (.dK kv2)/\Tab (FrIs a) H2 kv2 (ks.take i) (λ n=>f n*y))
    ⟨gR _,_,_,[],rfl,ae,(λ b ob e ne=>by rw [af ne];exact s0 _ _ e),KeepD.put hd0,by rw [af ndr.symm];exact hr0,Tab.nil⟩ (λ i σ H2 _ ⟨_,_,_,_,_,h,_⟩=>h) ?_ ?_
   ·rintro i kv t σ H2 hkv nt ⟨_,z3,z4,kv2,rfl,hf,k2,kp,hr2,tb2⟩;obtain ⟨n,en,e1,ev,p,ep,fp⟩:=tb0.at_ nd hkv;have hi:i<ks.length:=(gH.mp en).1;have ekv:kV kv.1=.str n:=by rw [e1];rfl
    rw [ekv,ep];obtain ⟨H3,zq,s3,ht⟩:=uG (o:=.tup [.str n,.ref p]) nt;rw [zq];have kp3:=kp.trans (.of s3);obtain ⟨p',e',fp3⟩:=FrIs.keep ⟨p,rfl,fp⟩ kp3
    cases e';obtain ⟨q',e',fq3⟩:=FrIs.keep ⟨q,rfl,fq0⟩ kp3
    cases e';obtain ⟨tk,nk⟩:=bD nd en;refine ⟨t,[.str n,.ref p],rfl,SqT.of ht,rfl,.str n,[.ref p],rfl,⟨.ref p,[],rfl,⟨rfl,?_⟩⟩⟩;refine ⟨_,rfl,p,_,rfl,fp3,_,rfl,p,q,_,_,rfl,fp3,fq3,sf n (gI en),sy,True.intro,λ z H4 nz s4 f4=>?_⟩;have s34:=s3.trans s4
    have ls:kv2.length<=900:=by
     rw [tb2.len,gS];omega
    refine ⟨_,rfl,_,rfl,r,_,rfl,DPut.k (k:=Sum.inr n) (s34 _ _ hr2) (aq (by omega)),?_⟩;have kp4:KeepD H4 (upd H4 r (.dK (bj kv2 (Sum.inr n) (.ref z)))):=KeepD.put (s34 _ _ hr2);refine ⟨hi,_,_,_,rfl,by rw [af ndr];exact s34 _ _ hf,(λ b ob e ne=>?_),(kp3.trans (.of s4)).trans kp4,ae,?_⟩
    ·rw [af (aj e nr)];exact s34 _ _ (k2 _ _ e ne)
    ·rw [tk,<- dN nk];refine (Tab.put (n:=n) (tb2.mono λ v x z=>(z.mono s34).keep kp4) (y:=f n*y) (FrIs.keep ⟨z,rfl,f4⟩ kp4)).congr λ m _=>?_;unfold upf
     split
     ·rename_i e;rw [e]
     ·rfl
   ·rintro σ H2 ⟨_,z3,z4,kv2,rfl,hf,k2,kp,hr2,tb2⟩;rw [tb.len,gP] at tb2;refine ⟨o,hf,_,_,kv2,rfl,(λ b ob e=>?_),by rw [af ndr.symm];exact hr2,tb2.mono λ v x z=>z.keep (.frz hf)⟩;by_cases hb:b=d
    ·subst hb;rw [ae,<- hd,e]
    ·rw [af hb];exact k2 _ _ e hb
  rintro zU hzU σ' H1 ⟨z3,z4,kvr,rfl,s1,hr1,tr⟩;subst hzU;exact ⟨_,rfl,r,kvr,ks,_,rfl,hr1,tr,nd,hl,λ z H2 kvz nz s2 hz2 tz=>k z H2 kvz (s1.free nz) (s1.trans s2) hz2 tz⟩
noncomputable def sumA (ks1:List Str) (f1:Str->Rat) (ks2:List Str) (f2:Str->Rat) (n:Str):Rat:=aE ks1 f1 n+aE ks2 f2 n
noncomputable def cz (ks1 ks2:List Str):List Str:=ks2.foldl addK ks1
theorem bothK_snoc (ks1 ks2:List Str) (n:Str):cz ks1 (ks2++[n])=addK (cz ks1 ks2) n:=by unfold cz;rw [iW];rfl
theorem mem_bothK {ks1 ks2:List Str} {n:Str}:n∈cz ks1 ks2↔n∈ks1∨n∈ks2:=mem_fold
inductive IspTogether (a:Ad) (vs:List V) (H:Hp) (Q:VK):Prop
 | mk (d e:Addr) (kv1 kv2:List (Key × V)) (ks1 ks2:List Str) (f1 f2:Str->Rat) (h1:vs=[.ref d,.ref e]) (h2:H d=some (.dK kv1)) (h3:Tab (FrIs a) H kv1 ks1 f1) (h4:ks1.Nodup) (h5:H e=some (.dK kv2)) (h6:Tab (FrIs a) H kv2 ks2 f2) (h7:ks2.Nodup) (h8:ks1.length+ks2.length<=900) (h9:(∀ n∈ks2,SmR (aE ks1 f1 n)/\SmR (f2 n))) (h10:∀ r H' kvs',H r=none->Same H H'->H' r=some (.dK kvs')->Tab (FrIs a) H' kvs' (cx (sumA ks1 f1 ks2 f2) (cz ks1 ks2)) (sumA ks1 f1 ks2 f2)->Q (.ref r) H'):IspTogether a vs H Q
noncomputable def spTogether (a:Ad):Sp:=λ vs H Q _=>IspTogether a vs H Q
theorem ok_together (T:TX K mg a):FnB P w K mg base CX0 "together" 6 ["one","other"] (spTogether a):=by
 refine T.d_together.ok sc_together (λ vs H Q E h=>?_) (λ f cdv A outer s H vs Q E hr h=>?_)
 ·obtain ⟨_,_,_,_,_,_,_,_,rfl,_⟩:=h;rfl
 ·obtain ⟨d,e,kv1,kv2,ks1,ks2,f1,f2,rfl,hd,t1,n1,he,t2,n2,hl,sm,k⟩:=h
  refine ⟨_,(ab (al (i:=2) sc_together.nd rfl (Or.inl rfl) (bJ call_dict_copy (by rfl) T.z_dict PyProof.Rows.boot_dict (aa (pv 0) ad)))
   (aP (cB (aS gW rfl (cP (pv 1)) (eQ (n:=2) rfl (a7 (au (i:=3) sc_together.nd rfl (Or.inl rfl)) (a7 (au (i:=4) sc_together.nd rfl (Or.inl rfl)) dc))) (ah (bo (aH hr) (pv 2) (pv 3) (bE T.fr (ax (ok_amount T) hr ak (aa (pv 2) (aa (pv 3) ad))) (ok_plus T) hr ak (aa (pv 4) ad)) rfl))))
   (ah (ap (ax (bH T) hr ak (aa (pv 2) ad)))))),?_⟩
  try dsimp only [aI,Cx.nox,Cx.wish]
  generalize hk9:tCut _ _=k9
  revert k9
  refine keepG λ k9 hk9=>?_;refine ⟨_,rfl,d,kv1,rfl,.inl hd,λ r nr=>?_⟩;have s0:Same H (upd H r (.dK kv1)):=aB nr;have he0:=s0 _ _ he;have hr0:upd H r (.dK kv1) r=some (.dK kv1):=ae;have t10:=t1.mono λ v x z=>z.mono s0;have t20:=t2.mono λ v x z=>z.mono s0;generalize upd H r (.dK kv1)=H0 at s0 he0 hr0 t10 t20 ⊢;have ner:e≠r:=λ z=>by rw [z,nr] at he;cases he
  have lb:∀ i,(cz ks1 (ks2.take i)).length<=900:=λ i=>by
   have h1:=len_fold (ns:=ks2.take i) (ks:=ks1);rw [gS] at h1;show (List.foldl addK ks1 (ks2.take i)).length<=900;omega
  subst hk9;refine cZ (λ σ' H'=>∃ z3 z4 kvr,σ'=[some (.ref d),some (.ref e),some (.ref r),z3,z4]/\Same H H'/\H' r=some (.dK kvr)/\Tab (FrIs a) H' kvr (cz ks1 ks2) (sumA ks1 f1 ks2 f2)) ?_ ?_
  ·refine ⟨e,.dK kv2,he0,(by intro o z e;cases e),_,rfl,e,kv2,rfl,he0,λ o=>?_⟩
   have base0:Tab (FrIs a) H0 kv1 (cz ks1 []) (sumA ks1 f1 [] f2):=t10.congr λ n hn=>by
    unfold sumA aE;rw [if_pos hn,if_neg g9];grind
   refine cH (a:=e) (o:=o) (kvs:=kv2) (λ i σ H2=>i<=ks2.length/\∃ z3 z4 kvr,σ=[some (.ref d),some (.ref e),some (.ref r),z3,z4]/\H2 e=some (.frz o (.dK kv2))/\(∀ b ob,H b=some ob->b≠e->H2 b=some ob)/\KeepD H0 H2/\H2 r=some (.dK kvr)/\Tab (FrIs a) H2 kvr (cz ks1 (ks2.take i)) (sumA ks1 f1 (ks2.take i) f2))
    ⟨gR _,_,_,kv1,rfl,ae,(λ b ob e ne=>by rw [af ne];exact s0 _ _ e),KeepD.put he0,by rw [af ner.symm];exact hr0,base0.mono λ v x z=>z.keep (.put he0)⟩ (λ i σ H2 _ ⟨_,_,_,_,_,h,_⟩=>h) ?_ ?_
   ·rintro i kv t σ H2 hkv nt ⟨_,z3,z4,kvr,rfl,hf,k2,kp,hr2,tb2⟩;obtain ⟨n,en,e1,ev,p,ep,fp⟩:=t20.at_ n2 hkv;have hi:i<ks2.length:=(gH.mp en).1;have ekv:kV kv.1=.str n:=by rw [e1];rfl
    rw [ekv,ep];obtain ⟨H3,zq,s3,ht⟩:=uG (o:=.tup [.str n,.ref p]) nt;rw [zq];have kp3:=kp.trans (.of s3);obtain ⟨p',e',fp3⟩:=FrIs.keep ⟨p,rfl,fp⟩ kp3
    cases e';obtain ⟨tk,nk⟩:=bD n2 en;obtain ⟨sm1,sm2⟩:=sm n (gI en);refine ⟨t,[.str n,.ref p],rfl,SqT.of ht,rfl,.str n,[.ref p],rfl,⟨.ref p,[],rfl,⟨rfl,?_⟩⟩⟩
    have eA:aE (cz ks1 (ks2.take i)) (sumA ks1 f1 (ks2.take i) f2) n=aE ks1 f1 n:=by
     unfold aE sumA aE;rw [if_neg nk];by_cases h1:n∈ks1
     ·rw [if_pos (mem_bothK.mpr (.inl h1)),if_pos h1];grind
     ·rw [if_neg (λ z=>(mem_bothK.mp z).elim h1 nk),if_neg h1]
    refine ⟨_,rfl,_,rfl,r,kvr,_,_,n,rfl,.inl (s3 _ _ hr2),tb2.mono (λ v x z=>z.mono s3),λ q H4 s4 f4=>?_⟩;rw [eA] at f4;refine ⟨q,_,rfl,f4,_,rfl,q,p,_,_,rfl,f4,fp3.mono s4,sm1,sm2,True.intro,λ z H5 nz s5 f5=>?_⟩;have s35:=s3.trans (s4.trans s5);have ls:kvr.length<=900:=by rw [tb2.len];exact lb i
    refine ⟨_,rfl,_,rfl,r,_,rfl,DPut.k (k:=Sum.inr n) (s35 _ _ hr2) (aq (by omega)),?_⟩;have kp5:KeepD H5 (upd H5 r (.dK (bj kvr (Sum.inr n) (.ref z)))):=KeepD.put (s35 _ _ hr2);refine ⟨hi,_,_,_,rfl,by rw [af ner];exact s35 _ _ hf,(λ b ob e ne=>?_),(kp.trans (.of s35)).trans kp5,ae,?_⟩
    ·rw [af (aj e nr)];exact s35 _ _ (k2 _ _ e ne)
    ·rw [tk,bothK_snoc];refine (Tab.put (n:=n) (tb2.mono λ v x z=>(z.mono s35).keep kp5) (y:=aE ks1 f1 n+f2 n) (FrIs.keep ⟨z,rfl,f5⟩ kp5)).congr λ m _=>?_;unfold upf sumA;by_cases h:m=n
     ·subst h;rw [if_pos rfl];unfold aE;rw [if_pos (show m∈ks2.take i++[m] by simp)]
     ·rw [if_neg h]
      have:aE (ks2.take i++[n]) f2 m=aE (ks2.take i) f2 m:=by
       unfold aE;by_cases h2:m∈ks2.take i
       ·rw [if_pos h2,if_pos (gU _ h2)]
       ·rw [if_neg h2,if_neg (λ z=>(g7.mp z).elim h2 λ q=>h (gN.mp q))]
      rw [this]
   ·rintro σ H2 ⟨_,z3,z4,kvr,rfl,hf,k2,kp,hr2,tb2⟩;rw [t2.len,gP] at tb2;refine ⟨o,hf,_,_,kvr,rfl,(λ b ob x=>?_),by rw [af ner.symm];exact hr2,tb2.mono λ v x z=>z.keep (.frz hf)⟩;by_cases hb:b=e
    ·subst hb;rw [ae,<- he,x]
    ·rw [af hb];exact k2 _ _ x hb
  rintro zU hzU σ' H1 ⟨z3,z4,kvr,rfl,s1,hr1,tr⟩;have lb2:=lb ks2.length;subst hzU;rw [gP] at lb2;exact ⟨_,rfl,r,kvr,_,_,rfl,hr1,tr,nodup_fold n1,lb2,λ z H2 kvz nz s2 hz2 tz=>k z H2 kvz (s1.free nz) (s1.trans s2) hz2 tz⟩
end
end G
namespace G
open PySem L2
section
theorem ok_over (T:TX K mg a):MtB P w K mg base CX0 a.Fraction "over" 6 ["self","other"] (spR2 a.Fraction (λ x y=>x / y) (λ _ y=>y≠0)):=by
 refine T.m_Fraction_over.ok sc_Fraction_over (λ vs H Q E h=>?_) (λ f cdv A outer s H vs Q E hr h=>?_)
 ·obtain ⟨p,q,x,y,rfl,_⟩:=h;rfl
 ·obtain ⟨p,q,x,y,rfl,hp,hq,sx,sy,hy0,k⟩:=h
  refine ⟨_,(ab (aL (ar cR (bL T.fr (pv 1)) ag (av _)) (ah bn) aA)
   (ab (aL (ar eR (bL T.fr (pv 1)) ag (av _)) (ah (ap (bE T.fr (pv 0) (dJ T) hr ak (aa (ax (aX T) hr ak (aa (fH dk (bM T.fr (pv 1))) (aa (fH dk (bL T.fr (pv 1))) ad))) ad)))) aA)
   (ah (ap (bE T.fr (pv 0) (dJ T) hr ak (aa (ax (aX T) hr ak (aa (bM T.fr (pv 1)) (aa (bL T.fr (pv 1)) ad))) ad)))))),?_⟩
  try dsimp only [aI,Cx.nox,Cx.wish]
  walk_at "rd"
  refine ifV (λ h1=>?_) (λ h1=>?_)
  ·exact absurd (Rat.num_eq_zero.mp h1) hy0
  walk_at "rd"
  refine ifB (λ hn=>?_) (λ hn=>?_)
  ·obtain ⟨e1,e2⟩:=inv_neg_spec y hn;walk_at "rd"
   intro r dx H1 nr s1 h1;have f1:FrAt a.Fraction H1 r (y⁻¹):=⟨dx,by rw [h1,e1,e2]⟩;refine ⟨p,r,x,y⁻¹,rfl,hp.mono s1,f1,sx,⟨by rw [e1];exact sy.2.le (by omega),by rw [e2];exact sy.1.le (by omega)⟩,trivial,λ r' H2 nr' s2 f2=>?_⟩;exact k r' H2 (s1.free nr') (s1.trans s2) f2
  ·obtain ⟨e1,e2⟩:=inv_pos_spec y (by omega);walk_at "rd"
   intro r dx H1 nr s1 h1;have f1:FrAt a.Fraction H1 r (y⁻¹):=⟨dx,by rw [h1,e1,e2]⟩;refine ⟨p,r,x,y⁻¹,rfl,hp.mono s1,f1,sx,⟨by rw [e1];exact sy.2,by rw [e2];exact sy.1⟩,trivial,λ r' H2 nr' s2 f2=>?_⟩;exact k r' H2 (s1.free nr') (s1.trans s2) f2
end
end G
namespace G
open PySem L2
section
theorem cn {α:Type} {P:List α->Prop} (h0:P []) (h1:∀ xs x,P xs->P (xs++[x])) (xs:List α):P xs:=by
 rw [<- List.reverse_reverse xs]
 induction xs.reverse with
 | nil=>exact h0
 | cons x r ih=>rw [List.reverse_cons];exact h1 _ _ ih
theorem aW {xs ys:List Str} (nd:xs.Nodup) (h:∀ x∈xs,x∈ys):xs.length<=ys.length:=by
 induction xs generalizing ys with
 | nil=>exact gR _
 | cons x xs ih=>
  obtain ⟨h1,h2⟩:=iC.mp nd;have hx:=h x ie
  have:=ih (ys:=ys.erase x) h2 λ z hz=>by
   rw [List.mem_erase_of_ne (λ e=>h1 (by rw [<- e];exact hz))];exact h z (g6 _ hz)
  rw [List.length_erase_of_mem hx] at this
  have:=List.length_pos_of_mem hx
  rw [ia];omega
noncomputable def onw (ws:List WD) (p:Str):Option WD:=ws.foldl (λ o x=>if x.st=p then some x else o) none
theorem onw_snoc (ws:List WD) (x:WD) (p:Str):onw (ws++[x]) p=if x.st=p then some x else onw ws p:=by unfold onw;rw [iW];rfl
theorem onw_some {p:Str} {x:WD}:∀ {ws:List WD},onw ws p=some x->x∈ws/\x.st=p:=by
 refine λ {ws}=>cn (P:=λ ws=>onw ws p=some x->x∈ws/\x.st=p) (λ h=>by cases h) (λ us u ih h=>?_) ws;rw [onw_snoc] at h
 split at h
 ·rename_i e
  cases h;exact ⟨by simp,e⟩
 ·obtain ⟨h1,h2⟩:=ih h;exact ⟨gU _ h1,h2⟩
theorem onw_in {p:Str}:∀ {ws:List WD},p∈ws.map (·.st)->∃ x,onw ws p=some x:=by
 refine λ {ws}=>cn (P:=λ ws=>p∈ws.map (·.st)->∃ x,onw ws p=some x) (λ h=>by cases h) (λ us u ih h=>?_) ws;rw [onw_snoc];by_cases e:u.st=p
 ·exact ⟨u,if_pos e⟩
 ·rw [if_neg e];rw [gM,g7] at h;exact ih (h.resolve_right λ z=>e (gN.mp z).symm)
noncomputable def br (ws:List WD):List WD:=ws.filter λ x=>decide (x.go∈ws.map (·.st))
theorem mem_kept {ws:List WD} {x:WD}:x∈br ws↔x∈ws/\x.go∈ws.map (·.st):=by unfold br;rw [iZ,decide_eq_true_iff]
theorem kept_le (ws:List WD):(br ws).length<=ws.length:=iA _ _
theorem kept_all {ws:List WD} (h:¬ (br ws).length<ws.length):∀ x∈ws,x.go∈ws.map (·.st):=λ x hx=>by
 have e:(br ws).length=ws.length:=Nat.le_antisymm (kept_le ws) (by omega);unfold br at e;exact i5 (List.length_filter_eq_length_iff.mp e x hx)
noncomputable def Acyc (ws:List WD):Prop:=∃ rk:Str->Nat,∀ x∈ws,rk x.go<rk x.st
theorem Acyc.nil:Acyc []:=⟨λ _=>0,λ x h=>absurd h g9⟩
theorem Acyc.back {ws:List WD} (h:Acyc (br ws)):Acyc ws:=by
 obtain ⟨rk,k⟩:=h;refine ⟨λ p=>if p∈ws.map (·.st) then rk p+1 else 0,λ x hx=>?_⟩;have h1:x.st∈ws.map (·.st):=gL.mpr ⟨x,hx,rfl⟩;show (if x.go∈ws.map (·.st) then rk x.go+1 else 0)<if x.st∈ws.map (·.st) then rk x.st+1 else 0
 rw [if_pos h1];by_cases h2:x.go∈ws.map (·.st)
 ·rw [if_pos h2]
  have:=k x (mem_kept.mpr ⟨hx,h2⟩)
  omega
 ·rw [if_neg h2];omega
noncomputable def PthW:Str->List WD->Str->Prop
 | p,[],q=>p=q
 | p,x::r,q=>x.st=p/\PthW x.go r q
theorem PthW.snoc {x:WD}:∀ {l:List WD} {p q:Str},PthW p l q->x.st=q->PthW p (l++[x]) x.go
 | [],_,_,h,e=>⟨e.trans h.symm,rfl⟩
 | _::_,_,_,h,e=>⟨h.1,h.2.snoc e⟩
theorem PthW.split:∀ {l1 l2:List WD} {p q:Str},PthW p (l1++l2) q->∃ m,PthW p l1 m/\PthW m l2 q
 | [],_,p,_,h=>⟨p,rfl,h⟩
 | _::_,_,_,_,h=>by
  obtain ⟨m,h1,h2⟩:=PthW.split h.2;exact ⟨m,⟨h.1,h1⟩,h2⟩
theorem PthW.chain:∀ {l:List WD} {p q:Str},PthW p l q->Chain l
 | [],_,_,_=>λ i x y h=>by cases h
 | [x],_,_,_=>λ i u v h1 h2=>by
  cases i with
  | zero=>cases h2
  | succ i=>cases h1
 | x::y::r,_,_,h=>λ i u v h1 h2=>by
  cases i with
  | zero=>
   cases h1
   cases h2;exact h.2.1.symm
  | succ i=>exact (PthW.chain (l:=y::r) h.2) i u v (by simpa using h1) (by simpa using h2)
theorem PthW.last:∀ {l:List WD} {p q:Str},PthW p l q->∀ x,l.getLast?=some x->x.go=q
 | [x],_,_,h,y,e=>by
  cases e;exact h.2
 | x::y::r,_,_,h,z,e=>PthW.last (l:=y::r) h.2 z (by rw [<- e];rfl)
theorem PthW.head {l:List WD} {p q:Str} (h:PthW p l q):∀ x,l.head?=some x->x.st=p:=by
 cases l with
 | nil=>intro x e;cases e
 | cons y r=>intro x e;cases e;exact h.1
theorem PthW.down {rk:Str->Nat}:∀ {l:List WD} {p q:Str},PthW p l q->(∀ x∈l,rk x.go<rk x.st)->(∀ x∈l,rk x.go<rk p)/\(p::l.map (·.go)).Nodup
 | [],p,_,_,_=>⟨λ x h=>absurd h g9,by simp⟩
 | x::r,p,q,h,k=>by
  have kx:=k x ie;obtain ⟨h1,h2⟩:=PthW.down h.2 λ y hy=>k y (g6 _ hy);rw [h.1] at kx
  have all:∀ y∈x::r,rk y.go<rk p:=λ y hy=>by
   rcases hV.mp hy with rfl | hy
   ·exact kx
   ·exact Nat.lt_trans (h1 y hy) kx
  refine ⟨all,iC.mpr ⟨λ m=>?_,h2⟩⟩;obtain ⟨y,hy,e⟩:=gL.mp m
  have:=all y hy
  rw [e] at this;exact i4 _ this
structure RingW (ws l:List WD):Prop where
 ne:l≠[]
 sub:∀ x∈l,x∈ws
 nd:(l.map (·.st)).Nodup
 rd:∃ p,PthW p l p
theorem RingW.mono {us ws l:List WD} (h:RingW us l) (s:∀ x∈us,x∈ws):RingW ws l:=⟨h.ne,λ x hx=>s x (h.sub x hx),h.nd,h.rd⟩
theorem bU {ws l:List WD} (nd:(ws.map (·.nm)).Nodup) (sub:∀ x∈l,x∈ws) (h:(l.map (·.st)).Nodup):(l.map (·.nm)).Nodup:=by
 induction l with
 | nil=>exact jb
 | cons x r ih=>
  obtain ⟨h1,h2⟩:=iC.mp (show (x.st::r.map (·.st)).Nodup from h);refine iC.mpr ⟨λ m=>h1 ?_,ih (λ y hy=>sub y (g6 _ hy)) h2⟩;obtain ⟨y,hy,e⟩:=gL.mp m
  have:y=x:=by
   obtain ⟨i,hi⟩:=iz.mp (sub y (g6 _ hy));obtain ⟨j,hj⟩:=iz.mp (sub x ie);have g1:(ws.map (·.nm))[i]?=some y.nm:=by rw [gK,hi];rfl
   have g2:(ws.map (·.nm))[j]?=some y.nm:=by rw [gK,hj,iD,e]
   have ij:=(i6 (by rw [gG];exact (gH.mp hi).1) nd).mp (g1.trans g2.symm);subst ij;rw [hi] at hj;exact hZ hj
  exact gL.mpr ⟨y,hy,by rw [this]⟩
structure SeenW (f:Str->WD) (ks:List Str) (p0:Str) (l:List WD) (q:Str):Prop where
 path:PthW p0 l q
 nd:(l.map (·.st)).Nodup
 by_:∀ x∈l,x.st∈ks/\x=f x.st
 inn:q∈ks
theorem SeenW.next {f:Str->WD} {ks:List Str} {p0 q:Str} {l:List WD} (hf:∀ k∈ks,(f k).st=k/\(f k).go∈ks) (h:SeenW f ks p0 l q) (nq:¬ q∈l.map (·.st)):l.length<ks.length/\SeenW f ks p0 (l++[f q]) (f q).go:=by
 obtain ⟨e1,e2⟩:=hf q h.inn
 have nd2:((l++[f q]).map (·.st)).Nodup:=by
  rw [gM,List.map_singleton,e1];exact iy.mpr ⟨h.nd,by simp,λ x hx y hy e=>nq (by rw [gN.mp hy] at e;rw [<- e];exact hx)⟩
 refine ⟨?_,h.path.snoc e1,nd2,λ x hx=>?_,e2⟩
 ·have:=aW nd2 (ys:=ks) λ x hx=>by
   obtain ⟨y,hy,rfl⟩:=gL.mp hx;rcases g7.mp hy with z | z
   ·exact (h.by_ y z).1
   ·rw [gN.mp z,e1];exact h.inn
  rw [gG,hE,iX] at this;omega
 ·rcases g7.mp hx with z | z
  ·exact h.by_ x z
  ·rw [gN.mp z,e1];exact ⟨h.inn,rfl⟩
theorem SeenW.ring {f:Str->WD} {ks:List Str} {p0 q:Str} {l:List WD} {ws:List WD} (h:SeenW f ks p0 l q) (hw:∀ k∈ks,f k∈ws) {i:Nat} (hi:(l.map (·.st))[i]?=some q):RingW ws (l.drop i):=by
 rw [gK] at hi;obtain ⟨x,ex,e⟩:=Option.map_eq_some_iff.mp hi;have il:=(gH.mp ex).1;have dr:l.drop i=x::l.drop (i+1):=by rw [List.drop_eq_getElem_cons il,(gH.mp ex).2]
 refine ⟨by rw [dr];simp,λ y hy=>?_,by rw [List.map_drop];exact h.nd.sublist (List.drop_sublist _ _),q,?_⟩
 ·obtain ⟨h1,h2⟩:=h.by_ y (List.mem_of_mem_drop hy);rw [h2];exact hw _ h1
 ·have hp:=h.path;rw [<- List.take_append_drop i l] at hp;obtain ⟨m,_,h2⟩:=hp.split
  have:m=q:=by
   rw [dr] at h2;rw [<- h2.1];exact e
  rw [this] at h2;exact h2
end
end G
namespace G
open PySem L2
section
theorem cut_drop {xs:List V} (i:Nat):cutV xs (some (i:Int)) none=xs.drop i:=by
 unfold cutV;rw [HT.sIx_nat,HT.sIx_none];by_cases h:i<=xs.length
 ·rw [Nat.min_eq_left h,List.take_of_length_le (by rw [List.length_drop];omega)]
 ·rw [Nat.min_eq_right (by omega),List.drop_of_length_le (gJ _),List.take_nil,List.drop_of_length_le (by omega)]
noncomputable def IxIs (_:Hp) (v:V) (i:Nat):Prop:=v=.int (i:Int)
inductive IspAlong (a:Ad) (vs:List V) (H:Hp) (Q:VK):Prop
 | mk (d:Addr) (p0:Str) (kp:List (Key × V)) (ks:List Str) (f:Str->WD) (ws:List WD) (h1:vs=[.ref d,.str p0]) (h2:H d=some (.dK kp)) (h3:Tab (WayIs a) H kp ks f) (h4:(∀ k∈ks,(f k).st=k/\(f k).go∈ks)) (h5:(∀ k∈ks,f k∈ws)) (h6:p0∈ks) (h7:ks.length<=100) (h8:∀ l H' (ring:List WD),H l=none->Same H H'->H' l=some (.lst (ring.map λ x=>V.str x.nm))->RingW ws ring->Q (.ref l) H'):IspAlong a vs H Q
noncomputable def spAlong (a:Ad):Sp:=λ vs H Q _=>IspAlong a vs H Q
theorem ok_ring_along (T:TX K mg a):FnB P w K mg base CX0 "ring_along" 1 ["pointers","place"] (spAlong a):=by
 refine T.d_ring_along.ok sc_ring_along (λ vs H Q E h=>?_) (λ f cdv A outer s H vs Q E hr h=>?_)
 ·obtain ⟨_,_,_,_,_,_,rfl,_⟩:=h;rfl
 ·obtain ⟨d,p0,kp,ks,f,ws,rfl,hp,tp,hf,hw,hp0,ln,k⟩:=h
  refine ⟨_,(ab (al (i:=2) sc_ring_along.nd rfl (Or.inl rfl) bf)
   (aP (dG gW (dQ (dI (aH hr) (pv 1) (pv 2))) (ab (bo (aH hr) (pv 2) (pv 1) (aD call_lenD (by rfl) T.z_len im (aa (pv 2) ad)) rfl)
   (ah (al (i:=1) sc_ring_along.nd rfl (Or.inl rfl) (ay (aU (aH hr) (pv 0) (pv 1) (λ _ _=>rfl)) rfl)))))
   (ab (al (i:=3) sc_ring_along.nd rfl (Or.inl rfl) (pe_slice sl_list (bJ (b8 hr.hd) (by rfl) T.z_list iH (aa (pv 2) ad)) (po_some (aU (aH hr) (pv 2) (pv 1) (λ _ _=>rfl))) po_none))
   (ah (ap (b5 (xs:=["one"]) (rest:=["pointers"]) rfl (aZ (pv 3))
   (λ pins fp C' s' H'=>(au (i:=0) (show (["one","pointers"]:List Str).Nodup by decide +kernel) rfl (Or.inl rfl))) (λ pins fp C' s' H'=>c8)
   (λ pins fp C' s' H'=>(pe_fldK (K:=K) rfl (aU (aH hr) (pv 1) (pv 0) (λ _ _=>rfl)) rfl))
   (Clos.many (ys:=["pointers"]) rfl ⟨rfl,True.intro⟩ rfl (by decide +kernel)) (Reads.many (ys:=["pointers"]) (js:=[0]) ⟨⟨rfl,rfl,rfl⟩,True.intro⟩))))))),?_⟩
  try dsimp only [aI,Cx.nox,Cx.wish]
  have ptr:∀ H',Same H H'->∀ q∈ks,∃ p1,bu kp (Sum.inr q)=some (.ref p1)/\WayIs a H' (.ref p1) (f q):=λ H' s' q hq=>by
   obtain ⟨v,ev,W⟩:=tp.vals q hq;obtain ⟨p1,vh,vc,qx,rfl,_⟩:=id W;exact ⟨p1,ev,W.mono s'⟩
  intro e ne;obtain ⟨H1,zq,s1,he0⟩:=uG (o:=.dK []) ne;rw [zq];refine cZ (λ σ' H'=>∃ l q kvs,σ'=[some (.ref d),some (.str q),some (.ref e),none]/\Same H H'/\H' e=some (.dK kvs)/\Tab IxIs H' kvs (l.map WD.st) (λ n=>(l.map WD.st).idxOf n)/\SeenW f ks p0 l q/\q∈l.map WD.st) ?_ ?_
  ·refine ⟨λ m σ H2=>∃ l q kvs,m=ks.length-l.length/\σ=[some (.ref d),some (.str q),some (.ref e),none]/\Same H H2/\H2 e=some (.dK kvs)/\Tab IxIs H2 kvs (l.map WD.st) (λ n=>(l.map WD.st).idxOf n)/\SeenW f ks p0 l q,⟨_,[],p0,[],rfl,rfl,s1,he0,Tab.nil,⟨rfl,jb,λ x hx=>absurd hx g9,hp0⟩⟩,?_⟩;rintro m σ H2 ⟨l,q,kvs,rfl,rfl,s2,he2,tb,sn⟩;refine ⟨_,rfl,_,rfl,e,_,rfl,DGet.k (k:=Sum.inr q) he2,_,rfl,?_⟩;by_cases hq:q∈l.map WD.st
   ·obtain ⟨v,ev,_⟩:=tb.vals q hq;rw [ev];refine iteF ?_;exact ⟨l,q,kvs,rfl,s2,he2,tb,sn,hq⟩
   ·rw [tb.none hq];refine iteT ?_;obtain ⟨lt,sn2⟩:=sn.next hf hq
    have sx:=(hf q sn.inn).1;obtain ⟨p1,ep,W⟩:=ptr H2 s2 q sn.inn;generalize f q=x at sn2 sx W;have lk:kvs.length=l.length:=by rw [tb.len,gG]
    refine ⟨λ σ' H'=>∃ kvs',σ'=[some (.ref d),some (.str (x.go)),some (.ref e),none]/\Same H H'/\H' e=some (.dK kvs')/\Tab IxIs H' kvs' ((l++[x]).map WD.st) (λ n=>((l++[x]).map WD.st).idxOf n),λ σ' H' ⟨kvs',e1,e2,e3,e4⟩=>⟨ks.length-(l++[x]).length,by rw [hE,iX];omega,l++[x],_,kvs',rfl,e1,e2,e3,e4,sn2⟩,?_⟩;refine ⟨_,rfl,e,kvs,rfl,he2,_,rfl,_,rfl,e,_,rfl,DPut.k (k:=Sum.inr q) he2 (aq (by omega)),?_⟩;have stay:Stays a H2 (upd H2 e (.dK (bj kvs (Sum.inr q) (.int kvs.length)))):=.put he2 (λ _ _ _ z=>by cases z);have s3:Same H (upd H2 e (.dK (bj kvs (Sum.inr q) (.int kvs.length)))):=aC ne s2
    obtain ⟨vh,vc,qx,e0,W6,_⟩:∃ vh vc qx,V.ref p1=V.ref p1/\WayAt a (upd H2 e (.dK (bj kvs (Sum.inr q) (.int kvs.length)))) p1 x.kd x.nm x.st x.go vh vc qx x.x/\True:=by
     obtain ⟨p',vh,vc,qx,e0,W',_⟩:=W.keep stay
     cases e0;exact ⟨vh,vc,qx,rfl,W',trivial⟩
    obtain ⟨dx1,fs1,ho1,h51,_⟩:=id W6.ob;have c1:=bt T x.kd;refine ⟨_,rfl,_,rfl,d,.ref p1,rfl,.inl ⟨kp,Sum.inr q,.inl (s3 _ _ hp),rfl,ep.symm⟩,p1,_,dx1,fs1,_,rfl,ho1,c1.cl,c1.n3,h51.go,?_⟩;refine ⟨_,rfl,s3,ae,?_⟩;have em:(l++[x]).map WD.st=l.map WD.st++[q]:=by rw [gM,List.map_singleton,sx]
    have:=Tab.put (n:=q) (H:=upd H2 e (.dK (bj kvs (Sum.inr q) (.int kvs.length)))) (tb.mono λ v x z=>z) (v:=.int kvs.length) (y:=kvs.length) rfl
    rw [dN hq] at this;rw [em];refine this.congr λ n hn=>?_;unfold upf;by_cases en:n=q
    ·rw [if_pos en,en,List.idxOf_append,if_neg hq,lk,gG];simp
    ·rw [if_neg en];rcases g7.mp hn with z | z
     ·rw [List.idxOf_append,if_pos z]
     ·exact absurd (gN.mp z) en
  rintro zU hzU σ' H2 ⟨l,q,kvs,rfl,s2,he2,tb,sn,hq⟩;subst hzU;refine ⟨_,rfl,e,kvs,rfl,.inl he2,λ l1 nl1=>?_⟩
  have ek:(kvs.map λ kv=>kV kv.1)=(l.map WD.st).map V.str:=by
   have:=ix (List.map kV) tb.keys
   rw [iF,iF] at this;exact this
  rw [ek];obtain ⟨H3,zq,s3,h1⟩:=uG (o:=.lst ((l.map WD.st).map V.str)) nl1;rw [zq];obtain ⟨v,ev,iv⟩:=tb.vals q hq;obtain rfl:v=.int ((l.map WD.st).idxOf q:Nat):=iv;obtain ⟨i,hi⟩:∃ i,(l.map WD.st).idxOf q=i:=⟨_,rfl⟩;rw [hi] at ev;have il:i<(l.map WD.st).length:=by rw [<- hi];exact List.idxOf_lt_length_iff.mpr hq
  have iq:(l.map WD.st)[i]?=some q:=by rw [gX il];congr 1;subst hi;exact List.getElem_idxOf il
  have rg:=sn.ring hw iq;refine ⟨_,rfl,_,rfl,e,_,rfl,.inl ⟨kvs,Sum.inr q,.inl (s3 _ _ he2),rfl,ev.symm⟩,_,rfl,l1,_,rfl,SqL.of h1,λ l2 nl2=>?_⟩;rw [cut_drop,<- List.map_drop,<- List.map_drop];obtain ⟨H4,zq,s4,h2⟩:=uG (o:=.lst (((l.drop i).map WD.st).map V.str)) nl2;rw [zq];have s24:=s2.trans (s3.trans s4)
  have lr:(l.drop i).length<=100:=by
   have:=aW sn.nd (ys:=ks) λ x hx=>by
    obtain ⟨y,hy,rfl⟩:=gL.mp hx;exact (sn.by_ y hy).1
   rw [gG] at this;rw [List.length_drop];omega
  have allr:∀ x∈l.drop i,x.st∈ks/\x=f x.st:=λ x hx=>sn.by_ x (List.mem_of_mem_drop hx);generalize l.drop i=ring at rg h2 lr allr ⊢;refine ⟨_,rfl,l2,rfl,⟨_,SqL.of h2⟩,λ l3 nl3=>?_⟩;refine dW (K:=K) (a:=l2) (xs:=(ring.map WD.st).map V.str) (λ j H5=>j<=ring.length/\Same H4 H5/\H5 l3=some (.lst ((ring.take j).map λ x=>V.str x.nm))) ⟨gR _,aB nl3,ae⟩ (λ j H5 ⟨_,s5,_⟩=>SqL.of (s5 _ _ h2)) ?_ ?_
  ·rintro j y H5 hy ⟨_,s5,h5⟩;rw [iF,gK] at hy
   cases ez:ring[j]? with
   | none=>rw [ez] at hy;cases hy
   | some z=>
    rw [ez] at hy
    cases hy;have hj:=(gH.mp ez).1;have s25:=s24.trans s5;obtain ⟨zk,zf⟩:=allr z (gI ez);obtain ⟨p1,ep,W⟩:=ptr H5 s25 z.st zk;rw [<- zf] at W;obtain ⟨p',vh,vc,qx,e0,W',_⟩:=W
    cases e0;obtain ⟨dx1,fs1,ho1,h51,_⟩:=id W'.ob;have c1:=bt T z.kd;refine g1 ⟨⟨[_],rfl,rfl⟩,yes ?_⟩;refine ⟨_,rfl,_,rfl,d,.ref p1,rfl,.inl ⟨kp,Sum.inr z.st,.inl (s25 _ _ hp),rfl,ep.symm⟩,p1,_,dx1,fs1,_,rfl,ho1,c1.cl,c1.n1,h51.nm,?_⟩;refine ⟨_,h5,aq (by rw [gG,gS];omega),cy (by rw [gG,gG];exact hj) ⟨hj,aC nl3 s5,?_⟩⟩;rw [ae,gQ,ez,gY,gM];rfl
  ·rintro H5 ⟨_,s5,h5⟩;rw [gG,gG,gP] at h5;exact k l3 H5 ring (s24.free nl3) (s24.trans s5) h5 rg
inductive IspUnfit (a:Ad) (vs:List V) (H:Hp) (Q:VK):Prop
 | mk (p d:Addr) (ps:List (Str × Rat)) (ds:List WD) (kvs:List (Key × V)) (ks:List Str) (f:Str->Rat) (h1:vs=[.ref p,.ref d]) (h2:NetOff a H p d ps ds) (h3:(ds.map (·.nm)).Nodup) (h4:H d=some (.dK kvs)) (h5:Tab (FrIs a) H kvs ks f) (h6:ks.Nodup) (h7:(∀ n∈ks,n∈ds.map (·.nm)/\0<=(f n).num)) (h8:∀ H',Same H H'->Q .non H'):IspUnfit a vs H Q
noncomputable def spUnfit (a:Ad):Sp:=λ vs H Q _=>IspUnfit a vs H Q
theorem ok_refuse_unfit (T:TX K mg a):FnB P w K mg base CX0 "refuse_unfit" 2 ["net","plan"] (spUnfit a):=by
 refine T.d_refuse_unfit.ok sc_refuse_unfit (λ vs H Q E h=>?_) (λ f cdv A outer s H vs Q E hr h=>?_)
 ·obtain ⟨_,_,_,_,_,_,_,rfl,_⟩:=h;rfl
 ·obtain ⟨p,d,ps,ds,kvs,ks,f,rfl,off,nd,hd,tb,ndk,hin,k⟩:=h
  refine ⟨_,(ah (cB (aS gW rfl (cP (pv 1)) (eQ (n:=2) rfl (a7 (au (i:=2) sc_refuse_unfit.nd rfl (Or.inl rfl)) (a7 (au (i:=3) sc_refuse_unfit.nd rfl (Or.inl rfl)) dc))) (ab (aQ (bV (CX:=CX0) (pv 0) hr ak (aa (pv 2) ad)))
   (ah (aL (ar eR (cg T.fr (pv 3) (cj T) hr ak) ag (av _)) (ah bn) aA)))))),?_⟩
  try dsimp only [aI,Cx.nox,Cx.wish]
  refine ⟨d,.dK kvs,hd,(by intro o z e;cases e),_,rfl,d,kvs,rfl,hd,λ o=>?_⟩;refine cH (a:=d) (o:=o) (kvs:=kvs) (λ i σ H2=>∃ z2 z3,σ=[some (.ref p),some (.ref d),z2,z3]/\H2 d=some (.frz o (.dK kvs))/\∀ b ob,H b=some ob->b≠d->H2 b=some ob) ⟨_,_,rfl,ae,λ b ob e ne=>by rw [af ne];exact e⟩ (λ i σ H2 _ ⟨_,_,_,h,_⟩=>h) ?_ ?_
  ·rintro i kv t σ H2 hkv nt ⟨z2,z3,rfl,hf,k2⟩;obtain ⟨n,e0,e1,ev,q,eq,fq⟩:=tb.at_ ndk hkv;obtain ⟨hn1,hn2⟩:=hin n (gI e0);have ekv:kV kv.1=.str n:=by rw [e1];rfl
   rw [ekv,eq];have s3:=aB (o:=.tup [.str n,.ref q]) nt;have ht:upd H2 t (.tup [.str n,.ref q]) t=some (.tup [.str n,.ref q]):=ae;have k3:∀ b ob,H b=some ob->b≠d->upd H2 t (.tup [.str n,.ref q]) b=some ob:=λ b ob e ne=>s3 _ _ (k2 b ob e ne);have hf3:=s3 _ _ hf;generalize upd H2 t (.tup [.str n,.ref q])=H3 at s3 ht k3 hf3 ⊢;have off3:=off.but k3;have hn3:=off3.at_;obtain ⟨dx,dw,dy,hp,_,_⟩:=id hn3;have noc:=eX dw dy (m:="way") (by decide +kernel) (by decide +kernel);obtain ⟨x,hx,ex⟩:=gL.mp hn1;refine ⟨t,[.str n,.ref q],rfl,SqT.of ht,rfl,.str n,[.ref q],rfl,⟨.ref q,[],rfl,⟨rfl,?_⟩⟩⟩;refine ⟨_,rfl,p,a.Net,dx,_,1,["self","name"],cI a,rfl,hp,noc,T.cl_Net,by decide,ce T,_,rfl,p,ps,ds,x,by rw [ex];rfl,hn3,nd,hx,λ v _=>?_⟩;have fq3:FrAt a.Fraction H3 q (f n):=let ⟨dq,g⟩:=fq;⟨dq,k3 _ _ g (λ z=>by rw [z,hd] at g;cases g)⟩
   walk_at "rd"
   refine cE (gT (sgn_nn hn2)) ?_;exact ⟨_,_,rfl,hf3,k3⟩
  ·rintro σ H2 ⟨z2,z3,rfl,hf,k2⟩;refine ⟨o,hf,k _ λ b ob e=>?_⟩;by_cases hb:b=d
   ·subst hb;rw [ae,<- hd,e]
   ·rw [af hb];exact k2 _ _ e hb
inductive IspLeast (K:W.Frag) (a:Ad) (vs:List V) (H:Hp) (Q:VK):Prop
 | mk (l:Addr) (ts:List V) (xs:List Rat) (h1:vs=[.ref l]) (h2:SqL K H l ts) (h3:RowAt (FrIs a) H ts xs) (h4:xs≠[]) (h5:(∀ x∈xs,SmR x)) (h6:∀ q m,FrAt a.Fraction H q m->m∈xs->(∀ x∈xs,m<=x)->Q (.ref q) H):IspLeast K a vs H Q
noncomputable def spLeast (K:W.Frag) (a:Ad):Sp:=λ vs H Q _=>IspLeast K a vs H Q
theorem ok_least (T:TX K mg a):FnB P w K mg base CX0 "least" 5 ["numbers"] (spLeast K a):=by
 refine T.d_least.ok sc_least (λ vs H Q E h=>?_) (λ f cdv A outer s H vs Q E hr h=>?_)
 ·obtain ⟨_,_,_,rfl,_⟩:=h;rfl
 ·obtain ⟨l,ts,xs,rfl,hS,hr1,ne,sm,k⟩:=h
  refine ⟨_,(ab (al (i:=1) sc_least.nd rfl (Or.inl rfl) (aw aY (pv 0) ag (λ _ _=>rfl)))
   (ab (aS gW rfl (aZ (pv 0)) (au (i:=2) sc_least.nd rfl (Or.inl rfl)) (ah (aL (cv (bE T.fr (pv 2) (ok_under T) hr ak (aa (pv 1) ad))) (ah (al (i:=1) sc_least.nd rfl (Or.inl rfl) (pv 2))) aA)))
   (ah (ap (pv 1))))),?_⟩
  try dsimp only [aI,Cx.nox,Cx.wish]
  obtain ⟨x0,e0⟩:∃ x,xs[0]?=some x:=by cases xs with | nil=>exact absurd rfl ne | cons x r=>exact ⟨x,rfl⟩
  obtain ⟨t0,et,q0,rfl,f0⟩:=hr1.get' e0;refine ⟨_,rfl,l,_,_,_,rfl,rfl,hS,atI_nat (j:=0) et,?_⟩;refine ⟨_,rfl,l,rfl,⟨_,hS⟩,a9 (K:=K) (a:=l) (xs:=ts) (λ i σ H2=>H2=H/\∃ q m z2,σ=[some (.ref l),some (.ref q),z2]/\FrAt a.Fraction H q m/\m∈xs/\∀ x∈xs.take i,m<=x) ⟨rfl,q0,x0,_,rfl,f0,gI e0,λ x hx=>by rw [i7] at hx;cases hx⟩ (λ i σ H2 _ ⟨e,_⟩=>by rw [e];exact hS) ?_ ?_⟩
  ·rintro i t σ H2 ht ⟨rfl,q,m,z2,rfl,fm,hm,all⟩;obtain ⟨x,ex,q1,rfl,f1⟩:=hr1.get ht;have s1:=sm m hm;have s2:=sm x (gI ex);have tk:xs.take (i+1)=xs.take i++[x]:=by rw [gQ,ex];rfl
   refine ⟨_,rfl,q1,x,rfl,f1,_,rfl,q1,q,x,m,rfl,f1,fm,s2,s1,_,rfl,?_⟩;refine ifB (λ h=>?_) (λ h=>?_)
   ·refine ⟨_,rfl,rfl,q1,x,_,rfl,f1,gI ex,λ y hy=>?_⟩;rw [tk] at hy;rcases g7.mp hy with z | z
    ·have:=all y z
     grind
    ·rw [gN.mp z];exact Rat.le_refl
   ·refine ⟨rfl,q,m,_,rfl,fm,hm,λ y hy=>?_⟩;rw [tk] at hy;rcases g7.mp hy with z | z
    ·exact all y z
    ·rw [gN.mp z];grind
  ·rintro σ H2 ⟨rfl,q,m,z2,rfl,fm,hm,all⟩;rw [hr1.1,gP] at all;exact ⟨_,rfl,k q m fm hm all⟩
noncomputable def fOn (ws:List WD) (p:Str):WD:=(onw ws p).getD ⟨p,p,p,.way,0⟩
theorem fOn_at {ws:List WD} {p:Str} (h:p∈ws.map (·.st)):onw ws p=some (fOn ws p):=by
 obtain ⟨x,e⟩:=onw_in h;unfold fOn;rw [e];rfl
inductive IspByStart (K:W.Frag) (a:Ad) (vs:List V) (H:Hp) (Q:VK):Prop
 | mk (l:Addr) (ts:List V) (ws:List WD) (h1:vs=[.ref l]) (h2:SqL K H l ts) (h3:RowAt (WayIs a) H ts ws) (h4:ws.length<=100) (h5:∀ d H' kvs,H d=none->Same H H'->H' d=some (.dK kvs)->Tab (WayIs a) H' kvs (bb (ws.map (·.st))) (fOn ws)->Q (.ref d) H'):IspByStart K a vs H Q
noncomputable def spByStart (K:W.Frag) (a:Ad):Sp:=λ vs H Q _=>IspByStart K a vs H Q
theorem eT (T:TX K mg a):FnB P w K mg base CX0 "by_start" 1 ["ways"] (spByStart K a):=by
 refine T.d_by_start.ok sc_by_start (λ vs H Q E h=>?_) (λ f cdv A outer s H vs Q E hr h=>?_)
 ·obtain ⟨_,_,_,rfl,_⟩:=h;rfl
 ·obtain ⟨l,ts,ws,rfl,hS,hr1,lw,k⟩:=h
  refine ⟨_,(ab (al (i:=1) sc_by_start.nd rfl (Or.inl rfl) bf)
   (ab (aS gW rfl (aZ (pv 0)) (au (i:=2) sc_by_start.nd rfl (Or.inl rfl)) (ah (bo (aH hr) (pv 1) (ay (pv 2) rfl) (pv 2) rfl)))
   (ah (ap (pv 1))))),?_⟩
  try dsimp only [aI,Cx.nox,Cx.wish]
  intro d nd;have s1:=aB (o:=.dK []) nd;refine ⟨_,rfl,l,rfl,⟨_,s1.seq hS⟩,a9 (K:=K) (a:=l) (xs:=ts) (λ i σ H2=>i<=ws.length/\∃ z2 kvs,σ=[some (.ref l),some (.ref d),z2]/\Same H H2/\H2 d=some (.dK kvs)/\Tab (WayIs a) H2 kvs (bb ((ws.take i).map (·.st))) (fOn (ws.take i))) ⟨gR _,_,[],rfl,s1,ae,Tab.nil⟩ (λ i σ H2 _ ⟨_,_,_,_,s2,_⟩=>s2.seq hS) ?_ ?_⟩
  ·rintro i t σ H2 ht ⟨_,z2,kvs,rfl,s2,hd,tb⟩;obtain ⟨x,ex,hx⟩:=hr1.get ht;have hi:=(gH.mp ex).1;obtain ⟨p1,vh,vc,q,rfl,W,hk⟩:=hx.mono s2;obtain ⟨dx1,fs1,ho1,h51,_⟩:=id W.ob;have c1:=bt T x.kd
   have lk:kvs.length<=900:=by
    rw [tb.len]
    have:=cV ((ws.take i).map (·.st))
    rw [gG,gS] at this;omega
   refine ⟨_,rfl,_,rfl,_,rfl,p1,_,dx1,fs1,_,rfl,ho1,c1.cl,c1.n2,h51.st,d,_,rfl,DPut.k (k:=Sum.inr x.st) hd (aq (by omega)),?_⟩;have tk:ws.take (i+1)=ws.take i++[x]:=by rw [gQ,ex];rfl
   have wx:WayIs a H2 (.ref p1) x:=⟨p1,vh,vc,q,rfl,W,hk⟩;refine ⟨hi,_,_,rfl,aC nd s2,ae,?_⟩;rw [tk,gM,List.map_singleton,keysOf_snoc];refine (Tab.put (tb.mono λ v y z=>z.put hd) (wx.put hd)).congr λ m _=>?_;unfold upf fOn;rw [onw_snoc];by_cases e:m=x.st
   ·rw [if_pos e,if_pos e.symm];rfl
   ·rw [if_neg e,if_neg λ z=>e z.symm]
  ·rintro σ H2 ⟨_,z2,kvs,rfl,s2,hd,tb⟩;rw [hr1.1,gP] at tb;exact ⟨_,rfl,k d H2 kvs nd s2 hd tb⟩
end
end G
namespace G
open PySem L2
section
noncomputable def byN (ds:List WD) (n:Str):WD:=(ds.find? λ x=>decide (x.nm=n)).getD ⟨n,n,n,.way,0⟩
theorem byN_in {ds:List WD} {n:Str} (h:n∈ds.map (·.nm)):byN ds n∈ds/\(byN ds n).nm=n:=by
 unfold byN
 cases e:ds.find? λ x=>decide (x.nm=n) with
 | some x=>exact ⟨List.mem_of_find?_eq_some e,i5 (List.find?_some (p:=λ x:WD=>decide (x.nm=n)) e)⟩
 | none=>
  obtain ⟨x,hx,rfl⟩:=gL.mp h;exact absurd (hU rfl) (List.find?_eq_none.mp e x hx)
noncomputable def cc (ds:List WD) (ks:List Str):List WD:=ks.map (byN ds)
inductive IspRingIn (a:Ad) (vs:List V) (H:Hp) (Q:VK):Prop
 | mk (p d:Addr) (ps:List (Str × Rat)) (ds:List WD) (kvs:List (Key × V)) (ks:List Str) (f:Str->Rat) (h1:vs=[.ref p,.ref d]) (h2:NetOff a H p d ps ds) (h3:(ds.map (·.nm)).Nodup) (h4:H d=some (.dK kvs)) (h5:Tab (FrIs a) H kvs ks f) (h6:ks.Nodup) (h7:(∀ n∈ks,n∈ds.map (·.nm))) (h8:ks.length<=24) (h9:(∀ l H' (ring:List WD),H l=none->Same H H'->H' l=some (.lst (ring.map λ x=>V.str x.nm))->RingW (cc ds ks) ring->Q (.ref l) H')) (h10:(∀ l H',H l=none->Same H H'->H' l=some (.lst [])->Acyc (cc ds ks)->Q (.ref l) H')):IspRingIn a vs H Q
noncomputable def spRingIn (a:Ad):Sp:=λ vs H Q _=>IspRingIn a vs H Q
theorem ok_ring_in (T:TX K mg a):FnB P w K mg base CX0 "ring_in" 3 ["net","plan"] (spRingIn a):=by
 refine T.d_ring_in.ok sc_ring_in (λ vs H Q E h=>?_) (λ f cdv A outer s H vs Q E hr h=>?_)
 ·obtain ⟨_,_,_,_,_,_,_,rfl,_⟩:=h;rfl
 ·obtain ⟨p,d,ps,ds,kvs,ks,f,rfl,off,nd,hd,tb,ndk,hin,lks,k,k0⟩:=h
  refine ⟨_,(aP (cB (ps_compG (i:=2) (xs:=["name"]) (rest:=["net"]) sc_ring_in.nd rfl rfl rfl (c9 (pv 1))
   (λ pins fp C' s' H'=>(au (i:=0) (show (["name","net"]:List Str).Nodup by decide +kernel) rfl (Or.inl rfl))) (λ pins fp C' s' H'=>c8)
   (λ pins fp C' s' H'=>(pe_mtDK (CX:=CX0) (P:=P) (w:=w) (K:=K) (mg:=mg) (base:=base) rfl rfl rfl rfl rfl (pv 1) hr ak (aa (pv 0) ad)))
   (Clos.many (ys:=["net"]) rfl ⟨rfl,True.intro⟩ rfl (by decide +kernel)) (Reads.many (ys:=["net"]) (js:=[0]) ⟨⟨rfl,rfl,rfl⟩,True.intro⟩)))
   (ab (al (i:=3) sc_ring_in.nd rfl (Or.inr rfl) (ax (eT T) hr ak (aa (pv 2) ad)))
   (aP (ps_compG (i:=4) (xs:=["way"]) (rest:=["onward"]) sc_ring_in.nd rfl rfl rfl (aZ (pv 2))
   (λ pins fp C' s' H'=>(au (i:=0) (show (["way","onward"]:List Str).Nodup by decide +kernel) rfl (Or.inl rfl))) (λ pins fp C' s' H'=>(pts_one (dQ (pc_din (aH hr) (pe_fldK (K:=K) rfl (pv 0) rfl) (pv 1)))))
   (λ pins fp C' s' H'=>(pv 0))
   (Clos.many (ys:=["onward"]) rfl ⟨rfl,True.intro⟩ rfl (by decide +kernel)) (Reads.many (ys:=["onward"]) (js:=[3]) ⟨⟨rfl,rfl,rfl⟩,True.intro⟩))
   (aP (dG gW (ar eR (aD aO (by rfl) T.z_len im (aa (pv 4) ad)) (aD aO (by rfl) T.z_len im (aa (pv 2) ad)) (av _)) (ab (al (i:=2) sc_ring_in.nd rfl (Or.inl rfl) (pv 4))
   (ab (al (i:=3) sc_ring_in.nd rfl (Or.inr rfl) (ax (eT T) hr ak (aa (pv 2) ad)))
   (ah (ps_compG (i:=4) (xs:=["way"]) (rest:=["onward"]) sc_ring_in.nd rfl rfl rfl (aZ (pv 2))
   (λ pins fp C' s' H'=>(au (i:=0) (show (["way","onward"]:List Str).Nodup by decide +kernel) rfl (Or.inl rfl))) (λ pins fp C' s' H'=>(pts_one (dQ (pc_din (aH hr) (pe_fldK (K:=K) rfl (pv 0) rfl) (pv 1)))))
   (λ pins fp C' s' H'=>(pv 0))
   (Clos.many (ys:=["onward"]) rfl ⟨rfl,True.intro⟩ rfl (by decide +kernel)) (Reads.many (ys:=["onward"]) (js:=[3]) ⟨⟨rfl,rfl,rfl⟩,True.intro⟩))))))
   (ab (aL (ar (op_eqN hr.units0) (pv 2) (a6 ad) (av _)) (ah (ap (a6 ad))) aA)
   (ah (ap (ax (ok_ring_along T) hr ak (aa (pv 3) (aa (ay (aw aY (pv 2) ag (λ _ _=>rfl)) rfl) ad)))))))))),?_⟩
  try dsimp only [aI,Cx.nox,Cx.wish]
  refine cZ (λ σ' H'=>∃ lw tw,σ'=[some (.ref p),some (.ref d),some (.ref lw),none,none]/\Same H H'/\H' lw=some (.lst tw)/\RowAt (WayIs a) H' tw (cc ds ks)) ?_ ?_
  ·refine ⟨d,.dK kvs,hd,(by intro o z e;cases e),_,rfl,d,kvs,rfl,hd,λ o l nl=>?_⟩;have ndl:d≠l:=λ z=>by rw [z,ae] at nl;cases nl
   have nl':H l=none:=by rw [af ndl.symm] at nl;exact nl
   refine cX (a:=d) (o:=o) (kvs:=kvs) (λ i H2=>i<=ks.length/\H2 d=some (.frz o (.dK kvs))/\(∀ b ob,H b=some ob->b≠d->H2 b=some ob)/\∃ ts,H2 l=some (.lst ts)/\RowAt (WayIs a) H2 ts (cc ds (ks.take i)))
    ⟨gR _,by rw [af ndl,ae],(λ b ob e ne=>by rw [af (aj e nl'),af ne];exact e),[],ae,RowAt.nil⟩ (λ i H2 ⟨_,h,_⟩=>h) ?_ ?_
   ·rintro i kv H2 hkv ⟨_,hf,k2,ts,hl2,hv⟩;obtain ⟨n,en,e1,ev,_⟩:=tb.at_ ndk hkv;have hi:i<ks.length:=(gH.mp en).1;have ekv:kV kv.1=.str n:=by rw [e1];rfl
    rw [ekv];have hn2:=(off.but k2).at_;obtain ⟨dx,dw,dy,hp,_,_⟩:=id hn2;have noc:=eX dw dy (m:="way") (by decide +kernel) (by decide +kernel);obtain ⟨bi1,bi2⟩:=byN_in (hin n (gI en));refine g1 ⟨⟨[_],rfl,rfl⟩,yes ?_⟩;refine ⟨_,rfl,p,a.Net,dx,_,1,["self","name"],cI a,rfl,hp,noc,T.cl_Net,by decide,ce T,_,rfl,p,ps,ds,byN ds n,by rw [bi2];rfl,hn2,nd,bi1,λ v hx=>?_⟩;have lts:ts.length=i:=by rw [hv.1];unfold cc;rw [gG,gS];omega
    refine ⟨_,hl2,aq (by omega),cy (by rw [tb.len];exact hi) ⟨hi,by rw [af ndl];exact hf,(λ b ob e ne=>by rw [af (aj e nl')];exact k2 _ _ e ne),_,ae,?_⟩⟩;unfold cc;rw [gQ,en,gY,gM];exact RowAt.snoc (hv.mono λ v x z=>z.lst hl2) (hx.lst hl2)
   ·rintro H2 ⟨_,hf,k2,ts,hl2,hv⟩;rw [tb.len,gP] at hv;refine ⟨o,hf,l,ts,rfl,λ b ob e=>?_,by rw [af ndl.symm];exact hl2,hv.mono λ v x z=>z.keep λ b C dx' fs' _ e=>?_⟩
    ·by_cases hb:b=d
     ·subst hb;rw [ae,<- hd,e]
     ·rw [af hb];exact k2 _ _ e hb
    ·rw [af λ z=>by rw [z,hf] at e;cases e];exact e
  rintro zU hzU σ' H1 ⟨lw,tw,rfl,s1,hlw,hrw⟩;have lws:(cc ds ks).length=ks.length:=by unfold cc;rw [gG]
  subst hzU;generalize hk9:tCut _ _=k9
  revert k9
  refine keepG λ k9 hk9=>?_;generalize hws:cc ds ks=ws at hrw lws k k0;refine ⟨_,rfl,lw,tw,ws,rfl,SqL.of hlw,hrw,(by omega),λ on Hb kv non sb hon tbn=>?_⟩;have sb2:=s1.trans sb;have hlwb:=sb _ _ hlw;have hrb:=hrw.mono λ v x z=>z.mono sb;subst hk9;refine cZ (λ σ' H'=>∃ lw tw on kv lk tk us,σ'=[some (.ref p),some (.ref d),some (.ref lw),some (.ref on),some (.ref lk)]/\Same H H'/\H' lw=some (.lst tw)/\RowAt (WayIs a) H' tw us/\H' on=some (.dK kv)/\Tab (WayIs a) H' kv (bb (us.map (·.st))) (fOn us)/\H' lk=some (.lst tk)/\RowAt (WayIs a) H' tk (br us)/\(∀ x∈us,x∈cc ds ks)/\us.length<=24/\(Acyc us->Acyc (cc ds ks))) ?_ ?_
  ·refine ⟨_,rfl,lw,rfl,⟨_,SqL.of hlwb⟩,λ lk nlk=>?_⟩;refine dW (K:=K) (a:=lw) (xs:=tw) (λ j Hc=>j<=ws.length/\Same Hb Hc/\∃ tk,Hc lk=some (.lst tk)/\RowAt (WayIs a) Hc tk ((ws.take j).filter λ x=>decide (x.go∈ws.map (·.st)))) ⟨gR _,aB nlk,[],ae,RowAt.nil⟩ (λ j Hc ⟨_,sc,_⟩=>SqL.of (sc _ _ hlwb)) ?_ ?_
   ·rintro j v Hc hv ⟨_,sc,tk,hk,hrk⟩;obtain ⟨x,ex,hx⟩:=hrb.get hv;have hj:=(gH.mp ex).1;have hxc:=hx.mono sc;obtain ⟨p1,vh,vc,qx,rfl,W,hkd⟩:=id hxc;obtain ⟨dx1,fs1,ho1,h51,_⟩:=id W.ob;have c1:=bt T x.kd
    have ltk:tk.length<=100:=by
     rw [hrk.1];exact gZ (iA _ _) (by rw [gS];omega)
    have tkk:(ws.take (j+1)).filter (λ x=>decide (x.go∈ws.map (·.st)))=(ws.take j).filter (λ x=>decide (x.go∈ws.map (·.st)))++[x].filter (λ x=>decide (x.go∈ws.map (·.st))):=by rw [gQ,ex,gY,i3]
    refine g1 ⟨⟨[_],rfl,rfl⟩,?_⟩;refine ⟨_,rfl,p1,_,dx1,fs1,_,rfl,ho1,c1.cl,c1.n3,h51.go,_,rfl,on,_,rfl,DGet.k (k:=Sum.inr x.go) (sc _ _ hon),_,rfl,?_⟩;by_cases hin:x.go∈ws.map (·.st)
    ·obtain ⟨v',ev',_⟩:=tbn.vals x.go (mem_keysOf.mpr hin);rw [ev'];refine iteT ⟨_,rfl,_,hk,aq (by omega),cy (by rw [hrb.1];exact hj) ⟨hj,aC nlk sc,_,ae,?_⟩⟩;rw [tkk,iK (by exact hU hin)];exact RowAt.snoc (hrk.mono λ v x z=>z.lst hk) (hxc.lst hk)
    ·rw [tbn.none λ z=>hin (mem_keysOf.mp z)];refine iteF (cy (by rw [hrb.1];exact hj) ⟨hj,sc,tk,hk,?_⟩);rw [tkk,iL (by simpa using hin),List.filter_nil,iB];exact hrk
   ·rintro Hc ⟨_,sc,tk,hk,hrk⟩;rw [hrb.1,gP] at hrk;exact ⟨lw,tw,on,kv,lk,tk,ws,rfl,sb2.trans sc,sc _ _ hlwb,hrb.mono λ v x z=>z.mono sc,sc _ _ hon,tbn.mono λ v x z=>z.mono sc,hk,hrk,λ x hx=>by rw [hws];exact hx,by omega,λ h=>by rw [hws];exact h⟩
  rintro zU hzU σ' H2 ⟨lw2,tw2,on,kv,lk,tk,us,rfl,s2,hlw2,hrw2,hon,tbn,hlk,hrk,sub,lus,back⟩;subst hzU;refine cZ (λ σ' H'=>∃ lw tw on kv lk tk us,σ'=[some (.ref p),some (.ref d),some (.ref lw),some (.ref on),some (.ref lk)]/\Same H H'/\H' lw=some (.lst tw)/\RowAt (WayIs a) H' tw us/\H' on=some (.dK kv)/\Tab (WayIs a) H' kv (bb (us.map (·.st))) (fOn us)/\H' lk=some (.lst tk)/\RowAt (WayIs a) H' tk (br us)/\(∀ x∈us,x∈cc ds ks)/\us.length<=24/\(Acyc us->Acyc (cc ds ks))/\∀ x∈us,x.go∈us.map (·.st)) ?_ ?_
  ·refine ⟨λ m σ H3=>∃ lw tw on kv lk tk us,m=us.length/\σ=[some (.ref p),some (.ref d),some (.ref lw),some (.ref on),some (.ref lk)]/\Same H H3/\H3 lw=some (.lst tw)/\RowAt (WayIs a) H3 tw us/\H3 on=some (.dK kv)/\Tab (WayIs a) H3 kv (bb (us.map (·.st))) (fOn us)/\H3 lk=some (.lst tk)/\RowAt (WayIs a) H3 tk (br us)/\(∀ x∈us,x∈cc ds ks)/\us.length<=24/\(Acyc us->Acyc (cc ds ks)),⟨_,lw2,tw2,on,kv,lk,tk,us,rfl,rfl,s2,hlw2,hrw2,hon,tbn,hlk,hrk,sub,lus,back⟩,?_⟩;clear hlw2 hrw2 hon tbn hlk hrk sub lus back s2;rintro m σ H3 ⟨lw3,tw3,on3,kv3,lk3,tk3,vs,rfl,rfl,s3,hlw3,hrw3,hon3,tbn3,hlk3,hrk3,sub3,lus3,back3⟩;refine ⟨_,rfl,lk3,_,rfl,.inl (SqL.of hlk3),_,rfl,lw3,_,rfl,.inl (SqL.of hlw3),_,_,rfl,rfl,_,rfl,?_⟩;have e1:=hrk3.1;have e2:=hrw3.1;by_cases lt:(br vs).length<vs.length
   case neg=>exact cE (gT (by omega)) ⟨lw3,tw3,on3,kv3,lk3,tk3,vs,rfl,s3,hlw3,hrw3,hon3,tbn3,hlk3,hrk3,sub3,lus3,back3,kept_all lt⟩
   refine eW (hU (by omega)) ⟨λ σ' H'=>∃ lw tw on kv lk tk,σ'=[some (.ref p),some (.ref d),some (.ref lw),some (.ref on),some (.ref lk)]/\Same H H'/\H' lw=some (.lst tw)/\RowAt (WayIs a) H' tw (br vs)/\H' on=some (.dK kv)/\Tab (WayIs a) H' kv (bb ((br vs).map (·.st))) (fOn (br vs))/\H' lk=some (.lst tk)/\RowAt (WayIs a) H' tk (br (br vs)),λ σ' H' ⟨lw,tw,on,kv,lk,tk,e,s',h1,h2,h3,h4,h5,h6⟩=>⟨(br vs).length,lt,lw,tw,on,kv,lk,tk,br vs,rfl,e,s',h1,h2,h3,h4,h5,h6,λ x hx=>sub3 x (mem_kept.mp hx).1,by omega,λ h=>back3 h.back⟩,?_⟩;refine ⟨_,rfl,?_⟩;have lkv:(br vs).length<=100:=by omega
   refine ⟨_,rfl,lk3,tk3,(br vs),rfl,SqL.of hlk3,hrk3,lkv,λ on Hb kv non sb hon tbn=>?_⟩;have sb2:=s3.trans sb;have hlwb:=sb _ _ hlk3;have hrb:=hrk3.mono λ v x z=>z.mono sb;refine ⟨_,rfl,lk3,rfl,⟨_,SqL.of hlwb⟩,λ lk nlk=>?_⟩;refine dW (K:=K) (a:=lk3) (xs:=tk3) (λ j Hc=>j<=(br vs).length/\Same Hb Hc/\∃ tk,Hc lk=some (.lst tk)/\RowAt (WayIs a) Hc tk (((br vs).take j).filter λ x=>decide (x.go∈(br vs).map (·.st)))) ⟨gR _,aB nlk,[],ae,RowAt.nil⟩ (λ j Hc ⟨_,sc,_⟩=>SqL.of (sc _ _ hlwb)) ?_ ?_
   ·rintro j v Hc hv ⟨_,sc,tk,hk,hrk⟩;obtain ⟨x,ex,hx⟩:=hrb.get hv;have hj:=(gH.mp ex).1;have hxc:=hx.mono sc;obtain ⟨p1,vh,vc,qx,rfl,W,hkd⟩:=id hxc;obtain ⟨dx1,fs1,ho1,h51,_⟩:=id W.ob;have c1:=bt T x.kd
    have ltk:tk.length<=100:=by
     rw [hrk.1];exact gZ (iA _ _) (by rw [gS];omega)
    have tkk:((br vs).take (j+1)).filter (λ x=>decide (x.go∈(br vs).map (·.st)))=((br vs).take j).filter (λ x=>decide (x.go∈(br vs).map (·.st)))++[x].filter (λ x=>decide (x.go∈(br vs).map (·.st))):=by rw [gQ,ex,gY,i3]
    refine g1 ⟨⟨[_],rfl,rfl⟩,?_⟩;refine ⟨_,rfl,p1,_,dx1,fs1,_,rfl,ho1,c1.cl,c1.n3,h51.go,_,rfl,on,_,rfl,DGet.k (k:=Sum.inr x.go) (sc _ _ hon),_,rfl,?_⟩;by_cases hin:x.go∈(br vs).map (·.st)
    ·obtain ⟨v',ev',_⟩:=tbn.vals x.go (mem_keysOf.mpr hin);rw [ev'];refine iteT ⟨_,rfl,_,hk,aq (by omega),cy (by rw [hrb.1];exact hj) ⟨hj,aC nlk sc,_,ae,?_⟩⟩;rw [tkk,iK (by exact hU hin)];exact RowAt.snoc (hrk.mono λ v x z=>z.lst hk) (hxc.lst hk)
    ·rw [tbn.none λ z=>hin (mem_keysOf.mp z)];refine iteF (cy (by rw [hrb.1];exact hj) ⟨hj,sc,tk,hk,?_⟩);rw [tkk,iL (by simpa using hin),List.filter_nil,iB];exact hrk
   ·rintro Hc ⟨_,sc,tk,hk,hrk⟩;rw [hrb.1,gP] at hrk;exact ⟨lk3,tk3,on,kv,lk,tk,rfl,sb2.trans sc,sc _ _ hlwb,hrb.mono λ v x z=>z.mono sc,sc _ _ hon,tbn.mono λ v x z=>z.mono sc,hk,hrk⟩
  rintro zU hzU σ' H3 ⟨lw3,tw3,on3,kv3,lk3,tk3,vs,rfl,s3,hlw3,hrw3,hon3,tbn3,hlk3,hrk3,sub3,lus3,back3,all⟩;subst hzU;refine ⟨_,rfl,by decide,λ e0 ne0=>?_⟩;obtain ⟨H4,zq,s4,he⟩:=uG (o:=.lst []) ne0;rw [zq];have s34:=s3.trans s4;have hlw4:=s4 _ _ hlw3;refine ⟨lw3,e0,_,rfl,rfl,SqL.of hlw4,SqL.of he,_,rfl,?_⟩
  cases tw3 with
  | nil=>
   refine iteT ⟨by decide,λ l nl=>k0 l _ (s34.free nl) (s34.trans (aB nl)) ae ?_⟩
   have:vs=[]:=List.length_eq_zero_iff.mp hrw3.1.symm
   rw [this,hws] at back3;exact back3 Acyc.nil
  | cons t0 tr=>
   obtain ⟨x0,ex0,hx0⟩:=(hrw3.mono λ v x z=>z.mono s4).get (i:=0) (t:=t0) rfl;obtain ⟨p1,vh,vc,qx,rfl,W,hkd⟩:=id hx0;obtain ⟨dx1,fs1,ho1,h51,_⟩:=id W.ob;have c1:=bt T x0.kd;refine iteF ⟨_,rfl,_,rfl,lw3,_,_,_,rfl,rfl,SqL.of hlw4,atI_nat (j:=0) rfl,p1,_,dx1,fs1,_,rfl,ho1,c1.cl,c1.n2,h51.st,?_⟩;have kin:∀ {q:Str},q∈bb (vs.map (·.st))->onw vs q=some (fOn vs q):=λ hq=>fOn_at (mem_keysOf.mp hq);refine ⟨on3,x0.st,kv3,bb (vs.map (·.st)),fOn vs,ws,rfl,s4 _ _ hon3,tbn3.mono λ v x z=>z.mono s4,λ q hq=>?_,λ q hq=>?_,mem_keysOf.mpr (gL.mpr ⟨x0,gI ex0,rfl⟩),?_,λ l H5 ring nl s5 hl5 rg=>k l H5 ring (s34.free nl) (s34.trans s5) hl5 rg⟩
   ·obtain ⟨h1,h2⟩:=onw_some (kin hq);exact ⟨h2,mem_keysOf.mpr (all _ h1)⟩
   ·have:=sub3 _ (onw_some (kin hq)).1
    rw [hws] at this;exact this
   ·have:=cV (vs.map (·.st))
    rw [gG] at this;omega
end
end G
namespace G
open PySem L2
section
noncomputable def con (d:WD) (y:Rat) (s:Str):Rat:=if s=d.go then y*aG d.kd d.x else if s=d.st then -y else 0
theorem cm {A F:Str->Rat} {d:WD} (h:d.st≠d.go) (s:Str):sumStep A F d s=F s+con d (A d.nm) s:=by
 unfold sumStep con upf;by_cases h1:s=d.go
 ·rw [if_pos h1,if_pos h1,h1]
 ·rw [if_neg h1,if_neg h1];by_cases h2:s=d.st
  ·rw [if_pos h2,if_pos h2,h2];grind
  ·rw [if_neg h2,if_neg h2];grind
theorem con_add (d:WD) (y z:Rat) (s:Str):con d (y+z) s=con d y s+con d z s:=by
 unfold con
 split
 ·grind
 ·split <;> grind
theorem sumF_upd {A:Str->Rat} {n:Str} {g:Rat}:∀ ds:List WD,(∀ d∈ds,d.st≠d.go)->(ds.map (·.nm)).Nodup->∀ s,(¬ n∈ds.map (·.nm)->aM (λ m=>if m=n then A m+g else A m) ds s=aM A ds s)/\(∀ d∈ds,d.nm=n->aM (λ m=>if m=n then A m+g else A m) ds s=aM A ds s+con d g s):=by
 refine cn ?_ ?_
 ·intro _ _ s;exact ⟨λ _=>rfl,λ d hd=>absurd hd g9⟩
 ·intro ds d ih ne nd s;rw [gM] at nd;obtain ⟨nd1,_,nd2⟩:=iy.mp nd;obtain ⟨i1,i2⟩:=ih (λ z hz=>ne z (gU _ hz)) nd1 s;have hd:=ne d (by simp);rw [cF,cF,cm hd,cm hd];refine ⟨λ hn=>?_,λ e he en=>?_⟩
  ·rw [gM,g7] at hn;rw [i1 λ z=>hn (.inl z),if_neg λ z=>hn (.inr (by simp [z]))]
  ·rcases g7.mp he with h | h
   ·have hdn:d.nm≠n:=λ z=>nd2 e.nm (gL.mpr ⟨e,h,rfl⟩) d.nm (by simp) (by rw [en,z]);rw [i2 e h en,if_neg hdn];grind
   ·have:=gN.mp h
    subst this;have hnd:¬ n∈ds.map (·.nm):=λ z=>nd2 n z e.nm (by simp) en.symm;rw [i1 hnd,if_pos en,con_add];grind
noncomputable def fS (p q:Str) (x:Rat) (s:Str):Rat:=(if s=q then x else 0)-(if s=p then x else 0)
noncomputable def mns (A:Str->Rat) (l:List WD) (x:Rat) (n:Str):Rat:=A n-(if n∈l.map (·.nm) then x else 0)
theorem sumF_walk {ns:List WD} (ne:∀ d∈ns,d.st≠d.go) (nd:(ns.map (·.nm)).Nodup) (g1:∀ d∈ns,aG d.kd d.x=1) {q:Str} {x:Rat} {s:Str}:∀ (l:List WD) (A:Str->Rat) (p:Str),PthW p l q->(∀ d∈l,d∈ns)->(l.map (·.nm)).Nodup->aM (mns A l x) ns s=aM A ns s-fS p q x s
 | [],A,p,h,_,_=>by
  have e:mns A [] x=A:=funext λ n=>by
   unfold mns;rw [if_neg (by simp)];grind
  rw [e];have h:p=q:=h;unfold fS;rw [h];grind
 | d::r,A,p,h,sub,ndl=>by
  have hd:=sub d ie;obtain ⟨n1,n2⟩:=iC.mp (show (d.nm::r.map (·.nm)).Nodup from ndl)
  have e:mns A (d::r) x=mns (λ m=>if m=d.nm then A m + -x else A m) r x:=funext λ n=>by
   unfold mns;rw [iM];show A n-_=(if n=d.nm then A n + -x else A n)-_;by_cases c:n=d.nm
   ·rw [if_pos (by rw [c];exact ie),if_pos c,if_neg (by rw [c];exact n1)];grind
   ·rw [if_neg c];by_cases c2:n∈r.map (·.nm)
    ·rw [if_pos (g6 _ c2),if_pos c2]
    ·rw [if_neg c2,if_neg λ z=>(hV.mp z).elim c c2]
  rw [e,sumF_walk ne nd g1 r _ _ h.2 (λ y hy=>sub y (g6 _ hy)) n2,(sumF_upd ns ne nd s).2 d hd rfl,<- h.1]
  have:=ne d hd
  unfold con fS;rw [g1 d hd];by_cases c1:s=d.go
  ·rw [if_pos c1,if_pos c1,if_neg (c:=s=d.st) (λ z=>this (by rw [<- z,c1]))];grind
  ·rw [if_neg c1,if_neg c1];by_cases c2:s=d.st
   ·rw [if_pos c2,if_pos c2];grind
   ·rw [if_neg c2,if_neg c2];grind
theorem no_out {A:Str->Rat} {s:Str} (nn:∀ n,0<=A n):∀ ns:List WD,(∀ d∈ns,d.st≠d.go)->(∀ d∈ns,aG d.kd d.x=1)->(∀ d∈ns,d.st=s->A d.nm=0)->0<=aM A ns s/\∀ e∈ns,e.go=s->A e.nm<=aM A ns s:=by
 refine cn (λ _ _ _=>⟨Rat.le_refl,λ e he=>absurd he g9⟩) λ us d ih ne g1 no=>?_;obtain ⟨h1,h2⟩:=ih (λ z hz=>ne z (gU _ hz)) (λ z hz=>g1 z (gU _ hz)) λ z hz=>no z (gU _ hz);have dm:d∈us++[d]:=by simp
 have hc:0<=con d (A d.nm) s/\(d.go=s->con d (A d.nm) s=A d.nm):=by
  unfold con;rw [g1 d dm]
  have:=nn d.nm
  by_cases c1:s=d.go
  ·rw [if_pos c1];grind
  ·rw [if_neg c1];refine ⟨?_,λ z=>absurd z.symm c1⟩;by_cases c2:s=d.st
   ·rw [if_pos c2,no d dm c2.symm];grind
   ·rw [if_neg c2];exact Rat.le_refl
 rw [cF,cm (ne d dm)];refine ⟨by grind,λ e he hs=>?_⟩;rcases g7.mp he with z | z
 ·have:=h2 e z hs
  grind
 ·rw [gN.mp z] at hs ⊢
  have:=hc.2 hs
  grind
theorem no_in {A:Str->Rat} {s:Str} (nn:∀ n,0<=A n):∀ ns:List WD,(∀ d∈ns,d.st≠d.go)->(∀ d∈ns,aG d.kd d.x=1)->(∀ d∈ns,d.go=s->A d.nm=0)->aM A ns s<=0/\∀ e∈ns,e.st=s->aM A ns s<=- A e.nm:=by
 refine cn (λ _ _ _=>⟨Rat.le_refl,λ e he=>absurd he g9⟩) λ us d ih ne g1 no=>?_;obtain ⟨h1,h2⟩:=ih (λ z hz=>ne z (gU _ hz)) (λ z hz=>g1 z (gU _ hz)) λ z hz=>no z (gU _ hz);have dm:d∈us++[d]:=by simp
 have hc:con d (A d.nm) s<=0/\(d.st=s->con d (A d.nm) s = - A d.nm):=by
  unfold con;rw [g1 d dm]
  have:=nn d.nm
  by_cases c1:s=d.go
  ·rw [if_pos c1,no d dm c1.symm];exact ⟨by grind,λ z=>absurd (z.trans c1) (ne d dm)⟩
  ·rw [if_neg c1];by_cases c2:s=d.st
   ·rw [if_pos c2];grind
   ·rw [if_neg c2];exact ⟨Rat.le_refl,λ z=>absurd z.symm c2⟩
 rw [cF,cm (ne d dm)];refine ⟨by grind,λ e he hs=>?_⟩;rcases g7.mp he with z | z
 ·have:=h2 e z hs
  grind
 ·rw [gN.mp z] at hs ⊢
  have:=hc.2 hs
  grind
theorem goes_on {A:Str->Rat} {s:Str} {ns:List WD} (nn:∀ n,0<=A n) (ne:∀ d∈ns,d.st≠d.go) (g1:∀ d∈ns,aG d.kd d.x=1) (h:aM A ns s<0∨aM A ns s<=0/\∃ e∈ns,e.go=s/\A e.nm≠0):∃ d∈ns,d.st=s/\A d.nm≠0:=by
 refine hX λ z=>?_;obtain ⟨h1,h2⟩:=no_out nn ns ne g1 λ d hd hs=>hX λ q=>z ⟨d,hd,hs,q⟩;rcases h with h | ⟨h,e,he,hs,h3⟩
 ·grind
 ·have:=h2 e he hs
  have:=nn e.nm
  grind
theorem none_left {A:Str->Rat} {ns ws:List WD} (nn:∀ n,0<=A n) (ne:∀ d∈ns,d.st≠d.go) (g1:∀ d∈ns,aG d.kd d.x=1) (ac:Acyc ws) (sub:∀ d∈ns,A d.nm≠0->d∈ws) (ge:∀ d∈ns,0<=aM A ns d.st):∀ d∈ns,A d.nm=0:=by
 obtain ⟨rk,hr⟩:=ac
 obtain ⟨M,hM⟩:∃ M,∀ d∈ns,rk d.st<=M:=by
  clear ge sub ne g1
  induction ns with
  | nil=>exact ⟨0,λ d hd=>absurd hd g9⟩
  | cons x r ih=>
   obtain ⟨M,h⟩:=ih;refine ⟨max M (rk x.st),λ d hd=>?_⟩;rcases hV.mp hd with rfl | z
   ·exact Nat.le_max_right _ _
   ·exact gZ (h d z) (Nat.le_max_left _ _)
 have key:∀ k,∀ d∈ns,A d.nm≠0->M<rk d.st+k->False:=by
  intro k
  induction k with
  | zero=>exact λ d hd _ h=>absurd (hM d hd) (by omega)
  | succ k ih=>
   intro d hd h0 hk
   have:∃ e∈ns,e.go=d.st/\A e.nm≠0:=hX λ z=>by
    obtain ⟨_,h2⟩:=no_in nn ns ne g1 (s:=d.st) λ e he hs=>hX λ q=>z ⟨e,he,hs,q⟩
    have:=h2 d hd rfl
    have:=ge d hd
    have:=nn d.nm
    grind
   obtain ⟨e,he,hs,h3⟩:=this
   have:=hr e (sub e he h3)
   exact ih e he h3 (by rw [hs] at this;omega)
 exact λ d hd=>hX λ z=>key (M+1) d hd z (by omega)
noncomputable def Gz (N:Nat) (x:Rat):Prop:=∃ i:Int,i.natAbs<=N/\x*60=(i:Rat)
theorem Gz.mono {N M:Nat} {x:Rat} (h:Gz N x) (l:N<=M):Gz M x:=by
 obtain ⟨i,h1,h2⟩:=h
 exact ⟨i,gZ h1 l,h2⟩
theorem Gz.zero:Gz 0 0:=⟨0,gJ _,by rw [Rat.zero_mul];rfl⟩
theorem Gz.add {N M:Nat} {x y:Rat} (h:Gz N x) (k:Gz M y):Gz (N+M) (x+y):=by
 obtain ⟨i,h1,h2⟩:=h;obtain ⟨j,h3,h4⟩:=k;exact ⟨i+j,by omega,by rw [Rat.intCast_add];grind⟩
theorem Gz.neg {N:Nat} {x:Rat} (h:Gz N x):Gz N (-x):=by
 obtain ⟨i,h1,h2⟩:=h;exact ⟨-i,by omega,by rw [Rat.intCast_neg];grind⟩
theorem Gz.sub {N:Nat} {x y:Rat} (h:Gz N x) (k:Gz N y) (h0:0<=y) (hl:y<=x):Gz N (x-y):=by
 obtain ⟨i,h1,h2⟩:=h;obtain ⟨j,h3,h4⟩:=k;have a1:(0:Rat)<=((j:Int):Rat):=by grind
 have a2:((j:Int):Rat)<=((i:Int):Rat):=by grind
 have b1:0<=j:=by exact_mod_cast a1
 have b2:j<=i:=by exact_mod_cast a2
 exact ⟨i-j,by omega,by rw [Rat.intCast_sub];grind⟩
theorem Gz.bd {n N:Nat} {x:Rat} (h:Gz N x) (hN:N<=2 ^ n) (h6:6<=n):Bd n x:=by
 obtain ⟨i,h1,h2⟩:=h
 have e:x=Rat.divInt i 60:=by
  rw [Rat.divInt_eq_div];show x=(i:Rat) / ((60:Int):Rat);rw [<- h2];show x=x*60 / 60;grind
 rw [e];exact Bd.divInt (gZ h1 hN) (gZ (by decide) (pow_le h6))
theorem sumF_gz {A:Str->Rat} {N:Nat} (hA:∀ n,Gz N (A n)) {s:Str}:∀ ns:List WD,(∀ d∈ns,d.st≠d.go)->(∀ d∈ns,aG d.kd d.x=1)->Gz (ns.length*N) (aM A ns s):=by
 refine cn (λ _ _=>Gz.zero.mono (by simp)) λ us d ih ne g1=>?_;have dm:d∈us++[d]:=by simp
 have h1:=ih (λ z hz=>ne z (gU _ hz)) λ z hz=>g1 z (gU _ hz);rw [cF,cm (ne d dm),hE,iX,Nat.add_mul,Nat.one_mul];refine h1.add ?_;unfold con;rw [g1 d dm,Rat.mul_one]
 split
 ·exact hA _
 ·split
  ·exact (hA _).neg
  ·exact Gz.zero.mono (gR _)
noncomputable def nzc {α:Type} (p:α->Rat) (l:List α):Nat:=(l.filter λ x=>decide (p x≠0)).length
theorem bS {α:Type} (p:α->Rat) (x:α) (l:List α):nzc p (x::l)=(if p x=0 then 0 else 1)+nzc p l:=by
 unfold nzc;rw [List.filter_cons];by_cases h:p x=0
 ·rw [if_pos h,if_neg (by simp [h])];omega
 ·rw [if_neg h,if_pos (by simp [h]),ia];omega
theorem nzc_le {α:Type} {p q:α->Rat}:∀ {l:List α},(∀ x∈l,q x≠0->p x≠0)->nzc q l<=nzc p l
 | [],_=>gJ _
 | x::l,h=>by
  have:=nzc_le (l:=l) λ y hy=>h y (g6 _ hy)
  have hx:=h x ie;rw [bS,bS];by_cases h1:q x=0
  ·rw [if_pos h1];omega
  ·rw [if_neg h1,if_neg (hx h1)];omega
theorem nzc_lt {α:Type} {p q:α->Rat}:∀ {l:List α},(∀ x∈l,q x≠0->p x≠0)->(∃ x∈l,p x≠0/\q x=0)->nzc q l<nzc p l
 | [],_,h=>let ⟨_,h,_⟩:=h;absurd h g9
 | x::l,h,hx=>by
  obtain ⟨y,hy,h1,h2⟩:=hx;have le:=nzc_le (l:=l) λ y hy=>h y (g6 _ hy);rw [bS,bS];rcases hV.mp hy with rfl | z
  ·rw [if_pos h2,if_neg h1];omega
  ·have:=nzc_lt (l:=l) (λ y hy=>h y (g6 _ hy)) ⟨y,z,h1,h2⟩
   by_cases h3:q x=0
   ·rw [if_pos h3];omega
   ·rw [if_neg h3,if_neg (h x ie h3)];omega
noncomputable def cW (es:List (Str × Rat)) (s:Str):Rat:=es.foldr (λ e r=>(if e.1=s then e.2 else 0)+r) 0
theorem dM (e:Str × Rat) (es:List (Str × Rat)) (s:Str):cW (e::es) s=(if e.1=s then e.2 else 0)+cW es s:=rfl
theorem endS_set {x r:Rat} {p s:Str}:∀ {es:List (Str × Rat)} {i:Nat},es[i]?=some (p,r)->cW (es.set i (p,r-x)) s=cW es s-(if s=p then x else 0)
 | [],_,h=>by cases h
 | e::es,0,h=>by
  cases h;rw [List.set_cons_zero,dM,dM];by_cases c:p=s
  ·rw [if_pos c,if_pos c,if_pos c.symm];show r-x+cW es s=r+cW es s-x;grind
  ·rw [if_neg c,if_neg c,if_neg λ z=>c z.symm];grind
 | e::es,i+1,h=>by
  rw [List.set_cons_succ,dM,dM,endS_set (es:=es) (i:=i) (by simpa using h)];grind
theorem dU {s:Str}:∀ {es:List (Str × Rat)},(∀ e∈es,0<=e.2)->0<=cW es s/\(∀ e∈es,e.1=s->e.2<=cW es s)/\((∀ e∈es,e.1=s->e.2=0)->cW es s=0)
 | [],_=>⟨Rat.le_refl,λ e he=>absurd he g9,λ _=>rfl⟩
 | e::es,h=>by
  obtain ⟨h1,h2,h3⟩:=dU (s:=s) λ y hy=>h y (g6 _ hy);have he:=h e ie;rw [dM];by_cases c:e.1=s
  ·rw [if_pos c];refine ⟨by grind,λ f hf hs=>?_,λ z=>?_⟩
   ·rcases hV.mp hf with rfl | q
    ·grind
    ·have:=h2 f q hs
     grind
   ·rw [z e ie c,h3 λ f hf=>z f (g6 _ hf),Rat.add_zero]
  ·rw [if_neg c];refine ⟨by grind,λ f hf hs=>?_,λ z=>?_⟩
   ·rcases hV.mp hf with rfl | q
    ·exact absurd hs c
    ·have:=h2 f q hs
     grind
   ·rw [h3 λ f hf=>z f (g6 _ hf),Rat.add_zero]
theorem nzc_set {x r:Rat} {p:Str}:∀ {es:List (Str × Rat)} {i:Nat},es[i]?=some (p,r)->(r=0->x=0)->nzc (·.2) (es.set i (p,r-x))+(if r≠0/\r=x then 1 else 0)<=nzc (·.2) es
 | [],_,h,_=>by cases h
 | e::es,0,h,hz=>by
  cases h;rw [List.set_cons_zero,bS,bS];show (if r-x=0 then 0 else 1)+nzc (·.2) es+_<=(if r=0 then 0 else 1)+nzc (·.2) es;by_cases c:r=0
  ·rw [if_pos c,if_pos (by rw [c,hz c];decide +kernel),if_neg λ z=>z.1 c];omega
  ·rw [if_neg c];by_cases c2:r=x
   ·rw [if_pos (by grind),if_pos ⟨c,c2⟩];omega
   ·rw [if_neg (by grind),if_neg λ z=>c2 z.2];omega
 | e::es,i+1,h,hz=>by
  rw [List.set_cons_succ,bS,bS]
  have:=nzc_set (es:=es) (i:=i) (by simpa using h) hz
  omega
end
end G
namespace G
open PySem L2
section
structure WkS (n:Nat) (ds:List WD):Prop where
 b:∀ d∈ds,SmR d.x/\Bd n (aG d.kd d.x)
 l:ds.length*n<=800
 n:n<=800
 len:ds.length<=6
 nd:(ds.map (·.nm)).Nodup
theorem Bd.s9 {n:Nat} {x:Rat} (h:Bd n x) (hn:n<9000:=by decide):SmR x:=h.smr hn
noncomputable def sA (x:Rat) (ds:List WD) (n:Str):Rat:=(occ (bG x ds) n).sum
theorem going_mul (x:Rat) (ds:List WD):going x ds=x*fK ds:=by
 unfold going fK;generalize hy:(1:Rat)=y
 have h:∀ (ds:List WD) (x y z:Rat),x=z*y->ds.foldl (λ y d=>y*aG d.kd d.x) x=z*ds.foldl (λ y d=>y*aG d.kd d.x) y:=by
  intro ds
  induction ds with
  | nil=>intro x y z e;exact e
  | cons d r ih=>
   intro x y z e;rw [i8,i8];exact ih _ _ z (by rw [e,Rat.mul_assoc])
 exact h ds x y x (by rw [<- hy,Rat.mul_one])
theorem WkS.going {n m:Nat} {ds:List WD} (S:WkS n ds) {x:Rat} (hx:Bd m x) {i:Nat} (hi:i<=ds.length):Bd (m+800) (going x (ds.take i)):=by
 rw [going_mul]
 have:=gprod_bd ds (λ d hd=>(S.b d hd).2) i hi
 have h2:i*n<=800:=gZ (Nat.mul_le_mul_right _ hi) S.l;exact hx.mul (this.mono h2)
theorem WkS.occ {n m:Nat} {ds:List WD} (S:WkS n ds) {x:Rat} (hx:Bd m x) (nm:Str):∀ i,i<=ds.length->(nm ∉ (ds.take i).map (·.nm)->occ (bG x (ds.take i)) nm=[])/\(occ (bG x (ds.take i)) nm=[]∨∃ y,occ (bG x (ds.take i)) nm=[y]/\Bd (m+800) y)
 | 0,_=>⟨λ _=>rfl,.inl rfl⟩
 | i+1,h=>by
  obtain ⟨h1,h2⟩:=WkS.occ S hx nm i (by omega);have ed:=gX (l:=ds) (i:=i) (by omega);generalize hd:ds[i]'_=d at ed;have tk:ds.take (i+1)=ds.take i++[d]:=by rw [gQ,ed,gY]
  rw [tk,fM,occ_snoc,gM];by_cases e:d.nm=nm
  ·rw [if_pos e]
   have nin:nm ∉ (ds.take i).map (·.nm):=λ z=>by
    have nd:=S.nd;rw [<- List.take_append_drop (i+1) ds,tk,List.append_assoc,gM,gM] at nd;exact (iy.mp nd).2.2 nm z nm (by rw [<- e];simp) rfl
   rw [h1 nin];exact ⟨λ z=>absurd (g8 _ (by simp [e])) z,.inr ⟨_,rfl,S.going hx (by omega)⟩⟩
  ·rw [if_neg e];exact ⟨λ z=>h1 λ q=>z (gU _ q),h2⟩
theorem WkS.all {n m:Nat} {ds:List WD} (S:WkS n ds) {x:Rat} (hx:Bd m x) (nm:Str):(nm ∉ ds.map (·.nm)->G.occ (bG x ds) nm=[])/\(G.occ (bG x ds) nm=[]∨∃ y,G.occ (bG x ds) nm=[y]/\Bd (m+800) y):=by
 have:=S.occ hx nm ds.length (gJ _)
 rw [gP] at this;exact this
noncomputable def PlanA (a:Ad) (H:Hp) (r:Addr) (A:Str->Rat) (m:Nat):Prop:=∃ kvs ks,H r=some (.dK kvs)/\Tab (FrIs a) H kvs ks A/\ks.Nodup/\ks.length<=m/\∀ n,n∈ks↔A n≠0
theorem PlanA.mono {H H':Hp} {r:Addr} {A:Str->Rat} {m:Nat} (h:PlanA a H r A m) (s:Same H H'):PlanA a H' r A m:=by
 obtain ⟨kvs,ks,h1,h2,h3⟩:=h
 exact ⟨kvs,ks,s _ _ h1,h2.mono λ _ _ z=>z.mono s,h3⟩
theorem Tab.congr' {H:Hp} {kvs:List (Key × V)} {ks:List Str} {f g:Str->Rat} (h:Tab (FrIs a) H kvs ks f) (e:∀ n∈ks,f n=g n):Tab (FrIs a) H kvs ks g:=⟨h.keys,λ n hn=>by obtain ⟨v,e1,e2⟩:=h.vals n hn;exact ⟨v,e1,by rw [<- e n hn];exact e2⟩⟩
theorem fU (f:Str->Rat) (ks:List Str):(cx f ks).length<=ks.length:=iA _ _
theorem mem_some0 {f:Str->Rat} {ks:List Str} {n:Str}:n∈cx f ks↔n∈ks/\f n≠0:=by unfold cx;rw [iZ,decide_eq_true_eq]
theorem fT {f:Str->Rat} {ks:List Str} (h:ks.Nodup):(cx f ks).Nodup:=List.Pairwise.filter _ h
inductive IspSentA (K:W.Frag) (a:Ad) (vs:List V) (H:Hp) (Q:VK):Prop
 | mk (p l q:Addr) (ps:List (Str × Rat)) (ns ds:List WD) (x:Rat) (n m:Nat) (h1:vs=[.ref p,.ref l,.ref q]) (h2:OnNet K a H p l ps ns ds) (h3:FrAt a.Fraction H q x) (h4:WkS n ds) (h5:Bd m x) (h6:m<=3000) (h7:∀ r H',H r=none->Same H H'->PlanA a H' r (sA x ds) 6->Q (.ref r) H'):IspSentA K a vs H Q
noncomputable def spSentA (K:W.Frag) (a:Ad):Sp:=λ vs H Q _=>IspSentA K a vs H Q
theorem sentA (T:TX K mg a):FnB P w K mg base CX0 "sent" 9 ["net","walk","amount"] (spSentA K a):=by
 refine (ok_sent T).imp λ vs H Q E h=>?_;obtain ⟨p,l,q,ps,ns,ds,x,n,m,rfl,O,fq,S,hx,hm,k⟩:=h;refine ⟨p,l,q,ps,ns,ds,x,rfl,O,fq,λ d hd=>⟨(S.b d hd).1,(S.b d hd).2.smr (by have:=S.n;omega)⟩,λ i hi=>(S.going hx hi).smr (by omega),λ nm=>?_,λ r H1 kvs nr s1 h1 tb=>k r H1 nr s1 ⟨kvs,_,h1,tb,fT (gu _),?_,λ nm=>?_⟩⟩
 ·rcases (S.all hx nm).2 with e | ⟨y,e,h⟩
  ·rw [e];exact ⟨0,.nil,by decide⟩
  ·rw [e];exact ⟨0+(m+800+1),.snoc .nil h,by omega⟩
 ·have h1:=fU (λ n=>(occ (bG x ds) n).sum) (bb (ds.map (·.nm)));have h2:=cV (ds.map (·.nm));rw [gG] at h2
  have:=S.len
  omega
 ·rw [mem_some0];constructor
  ·exact λ z=>z.2
  ·intro z;refine ⟨mem_keysOf.mpr (hX λ q=>z ?_),z⟩;show (occ (bG x ds) nm).sum=0;rw [(S.all hx nm).1 q];rfl
inductive IspTogA (a:Ad) (vs:List V) (H:Hp) (Q:VK):Prop
 | mk (d e:Addr) (A B:Str->Rat) (m n b:Nat) (h1:vs=[.ref d,.ref e]) (h2:PlanA a H d A m) (h3:PlanA a H e B n) (h4:m+n<=900) (h5:(∀ x,Bd b (A x)/\Bd b (B x))) (h6:b<9000) (h7:∀ r H',H r=none->Same H H'->PlanA a H' r (λ x=>A x+B x) (m+n)->Q (.ref r) H'):IspTogA a vs H Q
noncomputable def spTogA (a:Ad):Sp:=λ vs H Q _=>IspTogA a vs H Q
theorem eY {ks:List Str} {A:Str->Rat} (h:∀ n,n∈ks↔A n≠0) (n:Str):aE ks A n=A n:=by
 unfold aE;by_cases e:n∈ks
 ·rw [if_pos e]
 ·rw [if_neg e];exact (hX λ z=>e ((h n).mpr λ q=>z q.symm))
theorem bothK_le (k1 k2:List Str):(cz k1 k2).length<=k1.length+k2.length:=by
 unfold cz
 induction k2 generalizing k1 with
 | nil=>exact gJ _
 | cons x r ih=>
  have:=ih (addK k1 x)
  have h2:(addK k1 x).length<=k1.length+1:=by unfold addK;split;omega;rw [hE];exact gJ _
  rw [i8,ia];omega
theorem bothK_nd {k1 k2:List Str} (h:k1.Nodup):(cz k1 k2).Nodup:=by
 unfold cz
 induction k2 generalizing k1 with
 | nil=>exact h
 | cons x r ih=>rw [i8];exact ih (dR h)
theorem togA (T:TX K mg a):FnB P w K mg base CX0 "together" 6 ["one","other"] (spTogA a):=by
 refine (ok_together T).imp λ vs H Q E h=>?_;obtain ⟨d,e,A,B,m,n,b,rfl,⟨kv1,ks1,h1,t1,nd1,l1,i1⟩,⟨kv2,ks2,h2,t2,nd2,l2,i2⟩,mn,bd,b9,k⟩:=h;refine ⟨d,e,kv1,kv2,ks1,ks2,A,B,rfl,h1,t1,nd1,h2,t2,nd2,by omega,λ x _=>⟨by rw [eY i1];exact (bd x).1.smr b9,(bd x).2.smr b9⟩,λ r H1 kvs nr s1 hr tb=>k r H1 nr s1 ⟨kvs,cx (sumA ks1 A ks2 B) (cz ks1 ks2),hr,?_,fT (bothK_nd nd1),?_,λ x=>?_⟩⟩
 ·exact tb.congr' λ x _=>by unfold sumA;rw [eY i1,eY i2]
 ·have:=fU (sumA ks1 A ks2 B) (cz ks1 ks2)
  have:=bothK_le ks1 ks2
  omega
 ·rw [mem_some0,mem_bothK];unfold sumA;rw [eY i1,eY i2];constructor
  ·exact λ z=>z.2
  ·intro z;refine ⟨?_,z⟩;by_cases e:A x=0
   ·refine .inr ((i2 x).mpr λ q=>z ?_);show A x+B x=0;rw [e,q,Rat.add_zero]
   ·exact .inl ((i1 x).mpr e)
theorem going_one {ds:List WD} (g1:∀ d∈ds,aG d.kd d.x=1):going 1 ds=1:=by
 revert g1
 refine cn (P:=λ ds=>(∀ d∈ds,aG d.kd d.x=1)->going 1 ds=1) (λ _=>rfl) (λ us u ih h=>?_) ds;rw [going_snoc,ih λ d hd=>h d (gU _ hd),h u (by simp),Rat.mul_one]
theorem sA_one {ds:List WD} (g1:∀ d∈ds,aG d.kd d.x=1) (nd:(ds.map (·.nm)).Nodup) (n:Str):sA 1 ds n=if n∈ds.map (·.nm) then 1 else 0:=by
 revert g1 nd
 refine cn (P:=λ ds=>(∀ d∈ds,aG d.kd d.x=1)->(ds.map (·.nm)).Nodup->sA 1 ds n=if n∈ds.map (·.nm) then 1 else 0) (λ _ _=>rfl) (λ us u ih g1 nd=>?_) ds;have g2:∀ d∈us,aG d.kd d.x=1:=λ d hd=>g1 d (gU _ hd);rw [gM] at nd;obtain ⟨n1,_,n2⟩:=iy.mp nd;have hi:=ih g2 n1;unfold sA at hi ⊢;rw [fM,occ_snoc,going_one g2,gM,List.map_singleton];by_cases h:u.nm=n
 ·have nin:¬ n∈us.map (·.nm):=λ z=>n2 n z u.nm (by simp) h.symm;rw [if_neg nin] at hi;rw [if_pos h,sum_snoc,hi,if_pos (g8 _ (by simp [h])),Rat.zero_add]
 ·rw [if_neg h,hi];by_cases h2:n∈us.map (·.nm)
  ·rw [if_pos h2,if_pos (gU _ h2)]
  ·rw [if_neg h2,if_neg λ z=>(g7.mp z).elim h2 λ q=>h (gN.mp q).symm]
theorem unitP {H:Hp} {r:Addr} {ds:List WD} (g1:∀ d∈ds,aG d.kd d.x=1) (nd:(ds.map (·.nm)).Nodup) (h:PlanA a H r (sA 1 ds) 6):∃ kve us,H r=some (.dK kve)/\Tab (FrIs a) H kve us (λ _=>1)/\us.Nodup/\us.length<=6/\∀ n,n∈us↔n∈ds.map (·.nm):=by
 obtain ⟨kvs,ks,h1,h2,h3,h4,h5⟩:=h
 have e:∀ n,n∈ks↔n∈ds.map (·.nm):=λ n=>by
  rw [h5,sA_one g1 nd];by_cases c:n∈ds.map (·.nm)
  ·rw [if_pos c];exact ⟨λ _=>c,λ _=>by decide +kernel⟩
  ·rw [if_neg c];exact ⟨λ z=>absurd rfl z,λ z=>absurd z c⟩
 refine ⟨kvs,ks,h1,h2.congr' λ n hn=>?_,h3,h4,e⟩;rw [sA_one g1 nd,if_pos ((e n).mp hn)]
inductive IspMost (a:Ad) (vs:List V) (H:Hp) (Q:VK):Prop
 | mk (d e:Addr) (kvd kve:List (Key × V)) (ks us:List Str) (A:Str->Rat) (h1:vs=[.ref d,.ref e]) (h2:H d=some (.dK kvd)) (h3:Tab (FrIs a) H kvd ks A) (h4:H e=some (.dK kve)) (h5:Tab (FrIs a) H kve us (λ _=>1)) (h6:us.Nodup) (h7:us≠[]) (h8:us.length<=100) (h9:(∀ n∈us,n∈ks/\SmR (A n))) (h10:d≠e) (h11:∀ q H' m,Same H H'->FrAt a.Fraction H' q m->(∃ n∈us,A n=m)->(∀ n∈us,m<=A n)->Q (.ref q) H'):IspMost a vs H Q
noncomputable def spMost (a:Ad):Sp:=λ vs H Q _=>IspMost a vs H Q
theorem fJ (T:TX K mg a):FnB P w K mg base CX0 "most_along" 7 ["plan","unit"] (spMost a):=by
 refine T.d_most_along.ok sc_most_along (λ vs H Q E h=>?_) (λ f cdv A outer s H vs Q E hr h=>?_)
 ·obtain ⟨_,_,_,_,_,_,_,rfl,_⟩:=h;rfl
 ·obtain ⟨d,e,kvd,kve,ks,us,A,rfl,hd,td,he,te,ndu,une,ul,hin,nde,k⟩:=h
  refine ⟨_,(ah (ap (ax (ok_least T) hr ak (aa (gj (b5 (xs:=["name","part"]) (rest:=["plan"]) rfl (cP (pv 1))
   (λ pins fp C' s' H'=>by exact (pg_tupK (K:=K) (n:=2) rfl rfl (a7 (au (i:=0) (show (["name","part","plan"]:List Str).Nodup by decide +kernel) rfl (Or.inl rfl)) (a7 (au (i:=1) (show (["name","part","plan"]:List Str).Nodup by decide +kernel) rfl (Or.inl rfl)) dc)))) (λ pins fp C' s' H'=>by exact c8)
   (λ pins fp C' s' H'=>by exact (bE T.fr (aU (aH hr) (pv 2) (pv 0) (λ _ _=>rfl)) (ok_over T) hr ak (aa (pv 1) ad)))
   (Clos.many (ys:=["plan"]) rfl ⟨rfl,True.intro⟩ rfl (by decide +kernel)) (Reads.many (ys:=["plan"]) (js:=[0]) ⟨⟨rfl,rfl,rfl⟩,True.intro⟩))) ad)))),?_⟩
  try dsimp only [aI,Cx.nox,Cx.wish]
  refine ⟨e,.dK kve,he,(by intro o z q;cases q),_,rfl,e,kve,rfl,he,λ o l nl=>?_⟩;have nel:e≠l:=λ z=>by rw [z,ae] at nl;cases nl
  have nl':H l=none:=by rw [af nel.symm] at nl;exact nl
  refine compG_items (a:=e) (o:=o) (kvs:=kve) (λ i H2=>i<=us.length/\H2 e=some (.frz o (.dK kve))/\(∀ b ob,H b=some ob->b≠e->H2 b=some ob)/\∃ ts,H2 l=some (.lst ts)/\RowAt (FrIs a) H2 ts ((us.take i).map A))
   ⟨gR _,by rw [af nel,ae],(λ b ob g ne=>by rw [af (aj g nl'),af ne];exact g),[],ae,RowAt.nil⟩ (λ i H2 ⟨_,h,_⟩=>h) ?_ ?_
  ·rintro i kv t H2 hkv nt ⟨_,hf,k2,ts,hl2,hv⟩ zs hz;obtain ⟨n,en,e1,ev,q,eq,fq⟩:=te.at_ ndu hkv;have hi:i<us.length:=(gH.mp en).1;have ekv:kV kv.1=.str n:=by rw [e1];rfl
   rw [ekv,eq];obtain ⟨H3,zq,s3,ht⟩:=uG (o:=.tup [.str n,.ref q]) nt;rw [zq]
   match zs,hz with
   | [z1,z2],_=>
    obtain ⟨nk,sA⟩:=hin n (gI en);have k3:∀ b ob,H b=some ob->b≠e->H3 b=some ob:=λ b ob g ne=>s3 _ _ (k2 b ob g ne)
    have fq3:FrAt a.Fraction H3 q 1:=by
     obtain ⟨dq,g⟩:=fq;exact ⟨dq,k3 _ _ g (aF g he (by intro z;cases z))⟩
    obtain ⟨v,ev2,qa,rfl,fa⟩:=td.vals n nk
    have fa3:FrAt a.Fraction H3 qa (A n):=by
     obtain ⟨dq,g⟩:=fa;exact ⟨dq,k3 _ _ g (aF g he (by intro z;cases z))⟩
    refine ⟨t,[.str n,.ref q],rfl,SqT.of ht,rfl,.str n,[.ref q],rfl,⟨.ref q,[],rfl,⟨rfl,⟨[_,_],rfl,rfl⟩,yes ?_⟩⟩⟩;refine ⟨_,rfl,_,rfl,d,.ref qa,rfl,.inl ⟨kvd,Sum.inr n,.inl (k3 _ _ hd nde),rfl,ev2.symm⟩,?_⟩;refine ⟨qa,_,rfl,fa3,_,rfl,qa,q,_,_,rfl,fa3,fq3,sA,Bd.one.smr (by decide),(show (1:Rat)≠0 by decide +kernel),λ r H4 nr s4 f4=>?_⟩;have s34:=s3.trans s4;have hl4:=s34 _ _ hl2;have lts:ts.length=i:=by rw [hv.1,gG,gS];omega
    refine ⟨_,hl4,aq (by omega),cy (by rw [te.len];exact hi) ⟨hi,by rw [af nel];exact s34 _ _ hf,(λ b ob g ne=>by rw [af (aj g nl')];exact s34 _ _ (k2 _ _ g ne)),_,ae,?_⟩⟩;rw [gQ,en,gY,gM];have ko:∀ v x,FrIs a H4 v x->FrIs a (upd H4 l (.lst (ts++[.ref r]))) v x:=λ v x ⟨q,e,dq,g⟩=>⟨q,e,dq,by rw [af (aF g hl4 (by intro z;cases z))];exact g⟩
    have f4:FrAt a.Fraction H4 r (A n):=by
     rw [show A n=A n / 1 by grind];exact f4
    exact RowAt.snoc (hv.mono λ v x z=>ko v x (z.mono s34)) (ko _ _ ⟨r,rfl,f4⟩)
  ·rintro H2 ⟨_,hf,k2,ts,hl2,hv⟩;rw [te.len,gP] at hv
   have s2:Same H (upd H2 e (.dK kve)):=λ b ob g=>by
    by_cases hb:b=e
    ·subst hb;rw [ae,<- he,g]
    ·rw [af hb];exact k2 _ _ g hb
   refine ⟨o,hf,l,ts,_,rfl,SqL.of (show upd H2 e (.dK kve) l=some (.lst ts) by rw [af nel.symm];exact hl2),hv.mono λ v x z=>z.keep (.frz hf),?_,?_,λ q m fq hm all=>k q _ m s2 fq ?_ λ n hn=>all _ (gL.mpr ⟨n,hn,rfl⟩)⟩
   ·cases us with
    | nil=>exact absurd rfl une
    | cons x r=>exact λ z=>by cases z
   ·rintro x hx;obtain ⟨n,hn,rfl⟩:=gL.mp hx;exact (hin n hn).2
   ·obtain ⟨n,hn,e1⟩:=gL.mp hm;exact ⟨n,hn,e1⟩
inductive IspLess (a:Ad) (vs:List V) (H:Hp) (Q:VK):Prop
 | mk (d e q:Addr) (A:Str->Rat) (m:Nat) (kve:List (Key × V)) (us:List Str) (x:Rat) (h1:vs=[.ref d,.ref e,.ref q]) (h2:PlanA a H d A m) (h3:H e=some (.dK kve)) (h4:Tab (FrIs a) H kve us (λ _=>1)) (h5:us.Nodup) (h6:us.length<=100) (h7:m<=100) (h8:FrAt a.Fraction H q x) (h9:Bd 200 x) (h10:(∀ n,Bd 200 (A n))) (h11:∀ r H',H r=none->Same H H'->PlanA a H' r (λ n=>A n-(if n∈us then x else 0)) (m+us.length)->Q (.ref r) H'):IspLess a vs H Q
noncomputable def spLess (a:Ad):Sp:=λ vs H Q _=>IspLess a vs H Q
theorem ok_less (T:TX K mg a):FnB P w K mg base CX0 "less" 7 ["plan","unit","amount"] (spLess a):=by
 refine T.d_less.ok sc_less (λ vs H Q E h=>?_) (λ f cdv A outer s H vs Q E hr h=>?_)
 ·obtain ⟨_,_,_,_,_,_,_,_,rfl,_⟩:=h;rfl
 ·obtain ⟨d,e,q,A,m,kve,us,x,rfl,pd,he,te,ndu,lu,lm,fq,bx,bA,k⟩:=h;refine ⟨_,(ah (ap (ax (togA T) hr ak (aa (pv 0) (aa (ax (ok_scaled T) hr ak (aa (pv 1) (aa (bE T.fr (bp (mk1 T) hr T.mg_Fraction ak (aa ag ad)) (cS T) hr ak (aa (pv 2) ad)) ad))) ad))))),?_⟩;try dsimp only [aI,Cx.nox,Cx.wish]
  refine ⟨_,rfl,_,rfl,0,1,rfl,by decide,sm1,λ z H1 nz s1 fz=>?_⟩;rw [show Rat.divInt 0 1=0 from rfl] at fz;refine ⟨z,_,rfl,fz,_,rfl,z,q,_,_,rfl,fz,fq.mono s1,Bd.zero.smr (by decide),bx.smr (by decide),True.intro,λ y H2 ny s2 fy=>?_⟩;have s12:=s1.trans s2;have by_:Bd 201 (0-x):=Bd.zero.sub bx;refine ⟨e,y,kve,us,_,_,rfl,s12 _ _ he,te.mono (λ v x z=>z.mono s12),ndu,by omega,fy,by_.smr (by decide),λ _ _=>Bd.one.smr (by decide),λ r H3 kvr nr s3 hr3 tr=>?_⟩;have s13:=s12.trans s3;refine ⟨d,r,A,(λ n=>if n∈us then 0-x else 0),m,us.length,201,rfl,pd.mono s13,⟨kvr,_,hr3,tr.congr' λ n hn=>?_,fT ndu,fU _ _,λ n=>?_⟩,by omega,λ n=>⟨(bA n).mono (by decide),?_⟩,by decide,λ r' H4 nr' s4 pl=>k r' H4 (s13.free nr') (s13.trans s4) ?_⟩
  ·rw [if_pos (mem_some0.mp hn).1];grind
  ·rw [mem_some0];show n∈us/\1*(0-x)≠0↔(if n∈us then 0-x else 0)≠0;by_cases h:n∈us
   ·rw [if_pos h];grind
   ·rw [if_neg h];grind
  ·split
   ·exact by_
   ·exact Bd.zero.mono (by decide)
  ·have ef:(λ n=>A n-(if n∈us then x else 0))=λ n=>A n+(if n∈us then 0-x else 0):=funext λ n=>by
    by_cases h:n∈us
    ·rw [if_pos h,if_pos h];grind
    ·rw [if_neg h,if_neg h];grind
   rw [ef];exact pl
end
end G
namespace G
open PySem L2
section
structure SD where
 rg:List WD
 pa:List WD
 am:Rat
noncomputable def fsE (s:Str) (lr q:Addr):List (Str × V):=[("place",.str s),("ring",.ref lr),("rest",.ref q)]
noncomputable def fsT (p d ls lo li:Addr):List (Str × V):=[("on",.ref p),("rest",.ref d),("strands",.ref ls),("sources",.ref lo),("sinks",.ref li)]
theorem bz {f g:Str} {v x:V} {r:List (Str × V)} (h:g≠f):aR f v ((g,x)::r)=(g,x)::aR f v r:=if_neg h
theorem putF_eq {f:Str} {v x:V} {r:List (Str × V)}:aR f v ((f,x)::r)=(f,v)::r:=if_pos rfl
theorem fsE_new (s:Str) (lr q:Addr):aR "rest" (.ref q) (aR "ring" (.ref lr) (aR "place" (.str s) []))=fsE s lr q:=by
 show aR "rest" (.ref q) (aR "ring" (.ref lr) [(("place":Str),V.str s)])=_;rw [bz (by decide +kernel)];show aR "rest" (.ref q) [(("place":Str),V.str s),(("ring":Str),V.ref lr)]=_;rw [bz (by decide +kernel),bz (by decide +kernel)];rfl
theorem fsE_put (s:Str) (lr q q':Addr):aR "rest" (.ref q') (fsE s lr q)=fsE s lr q':=by
 unfold fsE;rw [bz (by decide +kernel),bz (by decide +kernel),putF_eq]
theorem fsE_s (s:Str) (lr q:Addr):(fsE s lr q).lookup ("place":Str)=some (.str s):=rfl
theorem fsE_r (s:Str) (lr q:Addr):(fsE s lr q).lookup ("ring":Str)=some (.ref lr):=by
 unfold fsE;rw [hG,show (("ring":Str) == "place")=false by decide +kernel];rfl
theorem fsE_q (s:Str) (lr q:Addr):(fsE s lr q).lookup ("rest":Str)=some (.ref q):=by
 unfold fsE;rw [hG,show (("rest":Str) == "place")=false by decide +kernel,hG,show (("rest":Str) == "ring")=false by decide +kernel];rfl
theorem fsT_put (p d d' ls lo li:Addr):aR "rest" (.ref d') (fsT p d ls lo li)=fsT p d' ls lo li:=by
 unfold fsT;rw [bz (by decide +kernel),putF_eq]
theorem fsT_on (p d ls lo li:Addr):(fsT p d ls lo li).lookup ("on":Str)=some (.ref p):=rfl
theorem fsT_d (p d ls lo li:Addr):(fsT p d ls lo li).lookup ("rest":Str)=some (.ref d):=by
 unfold fsT;rw [hG,show (("rest":Str) == "on")=false by decide +kernel];rfl
theorem fsT_s (p d ls lo li:Addr):(fsT p d ls lo li).lookup ("strands":Str)=some (.ref ls):=by
 unfold fsT;rw [hG,show (("strands":Str) == "on")=false by decide +kernel,hG,show (("strands":Str) == "rest")=false by decide +kernel];rfl
theorem fsT_o (p d ls lo li:Addr):(fsT p d ls lo li).lookup ("sources":Str)=some (.ref lo):=by
 unfold fsT;rw [hG,show (("sources":Str) == "on")=false by decide +kernel,hG,show (("sources":Str) == "rest")=false by decide +kernel,hG,show (("sources":Str) == "strands")=false by decide +kernel];rfl
theorem fsT_i (p d ls lo li:Addr):(fsT p d ls lo li).lookup ("sinks":Str)=some (.ref li):=by
 unfold fsT;rw [hG,show (("sinks":Str) == "on")=false by decide +kernel,hG,show (("sinks":Str) == "rest")=false by decide +kernel,hG,show (("sinks":Str) == "strands")=false by decide +kernel,hG,show (("sinks":Str) == "sources")=false by decide +kernel];rfl
theorem fQ (p d ls lo li:Addr) {m:Str} (h:(m == "on" || m == "rest" || m == "strands" || m == "sources" || m == "sinks")=false):(fsT p d ls lo li).lookup m=none:=by
 simp only [Bool.or_eq_false_iff] at h;unfold fsT;rw [hG,h.1.1.1.1,hG,h.1.1.1.2,hG,h.1.1.2,hG,h.1.2,hG,h.2];rfl
noncomputable def Plain (o:HO):Prop:=(∀ C dx s lr q,o≠.ins C dx (fsE s lr q))/\∀ C dx p d ls lo li,o≠.ins C dx (fsT p d ls lo li)
theorem ffE {x y:Int} {s:Str} {lr q:Addr}:ff x y≠fsE s lr q:=λ z=>absurd (ix (λ l=>(l.map Prod.fst)[0]?) z) (by show ¬ some ("top":Str)=some ("place":Str);decide +kernel)
theorem ffT {x y:Int} {p d ls lo li:Addr}:ff x y≠fsT p d ls lo li:=λ z=>absurd (ix (λ l=>(l.map Prod.fst)[0]?) z) (by show ¬ some ("top":Str)=some ("on":Str);decide +kernel)
theorem Plain.fr {C dx:Addr} {x y:Int}:Plain (.ins C dx (ff x y)):=⟨λ _ _ _ _ _ z=>(by injection z with _ _ z;exact ffE z),λ _ _ _ _ _ _ _ z=>(by injection z with _ _ z;exact ffT z)⟩
theorem Plain.lst {ts:List V}:Plain (.lst ts):=⟨λ _ _ _ _ _ z=>(by cases z),λ _ _ _ _ _ _ _ z=>(by cases z)⟩
theorem Plain.tup {ts:List V}:Plain (.tup ts):=⟨λ _ _ _ _ _ z=>(by cases z),λ _ _ _ _ _ _ _ z=>(by cases z)⟩
theorem Plain.dK {ts:List (Key × V)}:Plain (.dK ts):=⟨λ _ _ _ _ _ z=>(by cases z),λ _ _ _ _ _ _ _ z=>(by cases z)⟩
noncomputable def Mv (X:List Addr) (H H':Hp):Prop:=∀ b o,H b=some o->¬ b∈X->Plain o->H' b=some o
theorem Mv.of {X:List Addr} {H H':Hp} (s:Same H H'):Mv X H H':=λ b o e _ _=>s b o e
theorem Mv.put {X:List Addr} {b:Addr} {H:Hp} {o o':HO} (h:H b=some o) (np:¬ Plain o):Mv X H (upd H b o'):=λ c oc e _ p=>by
 rw [af λ z=>np (by rw [z,h] at e;cases e;exact p)];exact e
theorem Mv.app {X:List Addr} {l:Addr} {H:Hp} {o':HO} (hx:l∈X):Mv X H (upd H l o'):=λ c oc e n _=>by rw [af λ z=>n (by rw [z];exact hx)];exact e
theorem cT {C dx:Addr} {s:Str} {lr q:Addr}:¬ Plain (.ins C dx (fsE s lr q)):=λ z=>z.1 _ _ _ _ _ rfl
theorem fO {C dx p d ls lo li:Addr}:¬ Plain (.ins C dx (fsT p d ls lo li)):=λ z=>z.2 _ _ _ _ _ _ _ rfl
noncomputable def Lsts (X:List Addr) (H:Hp):Prop:=∀ b∈X,∃ ts,H b=some (.lst ts)
theorem Lsts.no {X:List Addr} {H:Hp} (h:Lsts X H) {b:Addr} {o:HO} (e:H b=some o) (n:∀ ts,o≠.lst ts):¬ b∈X:=λ z=>by
 obtain ⟨ts,el⟩:=h b z;rw [el] at e
 cases e;exact n ts rfl
theorem Mv.fr {X:List Addr} {q C:Addr} {H H':Hp} {x:Rat} (m:Mv X H H') (hl:Lsts X H) (h:FrAt C H q x):FrAt C H' q x:=by
 obtain ⟨dx,e⟩:=h;exact ⟨dx,m _ _ e (hl.no e λ _ z=>by cases z) Plain.fr⟩
theorem Mv.plan {X:List Addr} {d:Addr} {H H':Hp} {A:Str->Rat} {m:Nat} (k:Mv X H H') (hl:Lsts X H) (h:PlanA a H d A m):PlanA a H' d A m:=by
 obtain ⟨kvs,ks,h1,h2,h3⟩:=h;exact ⟨kvs,ks,k _ _ h1 (hl.no h1 λ _ z=>by cases z) Plain.dK,h2.mono λ _ _ ⟨q,e,f⟩=>⟨q,e,k.fr hl f⟩,h3⟩
noncomputable def EndIs (a:Ad) (X:List Addr) (H:Hp) (v:V) (x:Str × Rat):Prop:=∃ e dx lr q,v=.ref e/\H e=some (.ins a.End dx (fsE x.1 lr q))/\H lr=some (.lst [])/\¬ lr∈X/\FrAt a.Fraction H q x.2
theorem EndIs.mv {X:List Addr} {H H':Hp} {e:Addr} {x:Str × Rat} (h:EndIs a X H (.ref e) x) (k:Mv X H H') (hl:Lsts X H) (he:H' e=H e):EndIs a X H' (.ref e) x:=by
 obtain ⟨e',dx,lr,q,z,h1,h2,h3,h4⟩:=h
 cases z;exact ⟨e,dx,lr,q,rfl,by rw [he];exact h1,k _ _ h2 h3 Plain.lst,h3,k.fr hl h4⟩
noncomputable def nmV (l:List WD):List V:=l.map λ x=>V.str x.nm
noncomputable def StIs (a:Ad) (X:List Addr) (H:Hp) (v:V) (s:SD):Prop:=∃ u l1 l2 l3 q,v=.ref u/\H u=some (.tup [.ref l1,.ref l2,.ref l3,.ref q])/\H l1=some (.lst (nmV s.rg))/\H l2=some (.lst (nmV s.pa))/\H l3=some (.lst [])/\¬ l1∈X/\¬ l2∈X/\¬ l3∈X/\FrAt a.Fraction H q s.am
theorem StIs.mv {X:List Addr} {H H':Hp} {v:V} {s:SD} (h:StIs a X H v s) (k:Mv X H H') (hl:Lsts X H):StIs a X H' v s:=by
 obtain ⟨u,l1,l2,l3,q,z,h1,h2,h3,h4,n1,n2,n3,h5⟩:=h;exact ⟨u,l1,l2,l3,q,z,k _ _ h1 (hl.no h1 λ _ z=>by cases z) Plain.tup,k _ _ h2 n1 Plain.lst,k _ _ h3 n2 Plain.lst,k _ _ h4 n3 Plain.lst,n1,n2,n3,k.fr hl h5⟩
structure TkAt (a:Ad) (H0 H:Hp) (t p d ls lo li:Addr) (es fs:List Addr) (A:Str->Rat) (ss:List SD) (sr sk:List (Str × Rat)):Prop where
 sm:Same H0 H
 nt:H0 t=none
 ns:H0 ls=none
 nd:H0 d=none
 ne:∀ e∈es++fs,H0 e=none
 un:(es++fs).Nodup
 ob:∃ dx,H t=some (.ins a.Taking dx (fsT p d ls lo li))
 pl:PlanA a H d A 24
 st:∃ ts,H ls=some (.lst ts)/\RowAt (StIs a [ls,lo,li]) H ts ss
 so:H lo=some (.lst (es.map .ref))
 si:H li=some (.lst (fs.map .ref))
 ro:RowAt (EndIs a [ls,lo,li]) H (es.map .ref) sr
 ri:RowAt (EndIs a [ls,lo,li]) H (fs.map .ref) sk
 no:lo≠ls
 ni:li≠ls
 oi:lo≠li
theorem TkAt.ls3 {H0 H:Hp} {t p d ls lo li:Addr} {es fs:List Addr} {A:Str->Rat} {ss:List SD} {sr sk:List (Str × Rat)} (h:TkAt a H0 H t p d ls lo li es fs A ss sr sk):Lsts [ls,lo,li] H:=λ b hb=>by
 obtain ⟨ts,e,_⟩:=h.st;simp only [hV,g9,or_false] at hb;rcases hb with rfl | rfl | rfl
 ·exact ⟨ts,e⟩
 ·exact ⟨_,h.so⟩
 ·exact ⟨_,h.si⟩
inductive IspEndI (a:Ad) (vs:List V) (H:Hp) (Q:VK):Prop
 | mk (p dx lr q:Addr) (s:Str) (h1:vs=[.ref p,.str s,.ref lr,.ref q]) (h2:H p=some (.ins a.End dx [])) (h3:Q .non (upd H p (.ins a.End dx (fsE s lr q)))):IspEndI a vs H Q
noncomputable def spEndI (a:Ad):Sp:=λ vs H Q _=>IspEndI a vs H Q
theorem mk_End (T:TX K mg a):MkB P w K mg base CX0 a.End 1 ["self","place","ring","rest"] [] (spEndI a):=by
 refine T.i_End.ok sc_End_init (λ vs H Q E h=>?_) (λ f cdv A outer s H vs Q E hr h=>?_) _ (by simp)
 ·obtain ⟨_,_,_,_,_,rfl,_⟩:=h;rfl
 ·obtain ⟨p,dx,lr,q,s,rfl,hp,k⟩:=h
  refine ⟨_,(ab (a5 (pv 0) (pv 1) rfl)
   (ab (a5 (pv 0) (pv 2) rfl)
   (ah (a5 (pv 0) (pv 3) rfl)))),?_⟩
  try dsimp only [aI,Cx.nox,Cx.wish]
  refine ⟨_,rfl,_,rfl,p,a.End,dx,[],rfl,hp,T.cl_End,T.na_End_place,by decide,?_⟩;refine ⟨_,rfl,_,rfl,p,a.End,dx,_,rfl,ae,T.cl_End,T.na_End_ring,ig (aT (gJ 0)) (by decide),?_⟩;rw [e7];refine ⟨_,rfl,_,rfl,p,a.End,dx,_,rfl,ae,T.cl_End,T.na_End_rest,ig (aT (aT (gJ 0))) (by decide),?_⟩;rw [e7,fsE_new];exact k
end
end G
namespace G
open PySem L2
section
theorem sgn_lt (x:Rat):sgn x<0↔x<0:=by
 unfold sgn;have h:x<0↔x.num<0:=by rw [<- Rat.not_le,<- Rat.num_nonneg];omega
 rw [h]
 split
 ·constructor <;> intro <;> omega
 ·split
  ·constructor <;> intro <;> omega
  ·constructor <;> intro <;> omega
theorem fN (x:Rat):sgn x > 0↔0<x:=by
 have h1:=sgn_lt x;have h2:=sgn_zero (x:=x);constructor
 ·intro h;have n1:¬ x<0:=λ z=>by have:=h1.mpr z;omega
  have n2:¬ x=0:=λ z=>by have:=h2.mpr z;omega
  grind
 ·intro h;have n1:¬ sgn x<0:=λ z=>by have:=h1.mp z;grind
  have n2:¬ sgn x=0:=λ z=>by have:=h2.mp z;grind
  omega
noncomputable def NewEnd (a:Ad) (H H':Hp) (e:Addr) (s:Str) (lr:Addr) (x:Rat):Prop:=H e=none/\Same H H'/\∃ dx q,H' e=some (.ins a.End dx (fsE s lr q))/\FrAt a.Fraction H' q x
theorem newE {H:Hp} {s:Str} {lr q p dx:Addr} {x:Rat} (fq:FrAt a.Fraction H q x) (h1:H p=none) (h2:H dx=none):NewEnd a H (upd (upd (upd H dx (.own p)) p (.ins a.End dx [])) p (.ins a.End dx (fsE s lr q))) p s lr x:=by
 have ss:Same H (upd (upd (upd H dx (.own p)) p (.ins a.End dx [])) p (.ins a.End dx (fsE s lr q))):=by
  rw [e7]
  exact dz (C:=a.End) h1 h2 λ b o e n=>by
   rw [af n];rw [af n] at e;exact e
 exact ⟨h1,ss,dx,q,ae,fq.mono ss⟩
inductive IspAddE (a:Ad) (vs:List V) (H:Hp) (Q:VK):Prop
 | mk (t dx p d ls lo li lr q:Addr) (s:Str) (x:Rat) (to ti:List V) (h1:vs=[.ref t,.str s,.ref lr,.ref q]) (h2:H t=some (.ins a.Taking dx (fsT p d ls lo li))) (h3:FrAt a.Fraction H q x) (h4:SmR x) (h5:H lo=some (.lst to)) (h6:H li=some (.lst ti)) (h7:to.length<=100) (h8:ti.length<=100) (h9:(x<0->∀ e H',NewEnd a H H' e s lr (-x)->Q .non (upd H' lo (.lst (to++[.ref e]))))) (h10:(0<x->∀ e H',NewEnd a H H' e s lr x->Q .non (upd H' li (.lst (ti++[.ref e]))))) (h11:(x=0->Q .non H)):IspAddE a vs H Q
noncomputable def spAddE (a:Ad):Sp:=λ vs H Q _=>IspAddE a vs H Q
theorem df (T:TX K mg a):MtB P w K mg base CX0 a.Taking "add_end" 7 ["self","place","ring","come"] (spAddE a):=by
 refine T.m_Taking_add_end.ok fV (λ vs H Q E h=>?_) (λ f cdv A outer s H vs Q E hr h=>?_)
 ·obtain ⟨_,_,_,_,_,_,_,_,_,_,_,_,_,rfl,_⟩:=h;rfl
 ·obtain ⟨t,dx,p,d,ls,lo,li,lr,q,s,x,to,ti,rfl,ht,fq,sx,ho,hi,lo1,li1,k1,k2,k3⟩:=h
  refine ⟨_,(aP (aL (ar eR (cg T.fr (pv 3) (cj T) hr ak) ag (av _)) (ah (aQ (pe_bm iS iO iP bW (ay (pv 0) rfl) (aa (pe_mk (mk_End T) hr T.mg_End ak (aa (pv 1) (aa (pv 2) (aa (bE T.fr (bp (mk1 T) hr T.mg_Fraction ak (aa ag ad)) (cS T) hr ak (aa (pv 3) ad)) ad)))) ad)))) aA)
   (ah (aL (ar gm (cg T.fr (pv 3) (cj T) hr ak) ag (av _)) (ah (aQ (pe_bm iS iO iP bW (ay (pv 0) rfl) (aa (pe_mk (mk_End T) hr T.mg_End ak (aa (pv 1) (aa (pv 2) (aa (pv 3) ad)))) ad)))) aA))),?_⟩
  try dsimp only [aI,Cx.nox,Cx.wish]
  refine cZ (λ σ' H'=>σ'=[some (.ref t),some (.str s),some (.ref lr),some (.ref q)]/\FrAt a.Fraction H' q x/\(x<0/\Q .non H'∨¬ x<0/\H'=H)) ?_ ?_
  ·walk_at "rd"
   by_cases c:x<0
   ·refine eW (hU ((sgn_lt x).mpr c)) ?_;refine ⟨_,rfl,t,_,dx,_,_,rfl,ht,T.cl_Taking,T.na_Taking_sources,fsT_o _ _ _ _ _,?_⟩;refine ⟨.inl ⟨rfl,_,SqL.of ho⟩,?_⟩;refine ⟨_,rfl,_,rfl,0,1,rfl,by decide,sm1,λ z H1 nz s1 fz=>?_⟩;rw [show Rat.divInt 0 1=0 from rfl] at fz;refine ⟨z,_,rfl,fz,_,rfl,z,q,_,_,rfl,fz,fq.mono s1,Bd.zero.smr (by decide),sx,True.intro,λ y H2 ny s2 fy=>?_⟩;have s12:=s1.trans s2;intro e dx' h1 h2 _;refine ⟨e,dx',lr,y,s,rfl,ae,rfl,?_⟩;have ne:=newE (s:=s) (lr:=lr) fy h1 h2;generalize upd (upd (upd H2 dx' (.own e)) e (.ins a.End dx' [])) e (.ins a.End dx' (fsE s lr y))=H3 at ne ⊢;obtain ⟨n1,s3,dx3,q3,he3,fq3⟩:=ne;have s13:=s12.trans s3;refine ⟨lo,_,_,rfl,rfl,s13 _ _ ho,aq (by omega),rfl,?_,.inl ⟨c,k1 c e H3 ⟨s12.free n1,s13,dx3,q3,he3,?_⟩⟩⟩
    ·obtain ⟨dq,g⟩:=fq.mono s13;exact ⟨dq,by rw [af (aF g (s13 _ _ ho) (by intro z;cases z))];exact g⟩
    ·rw [show -x=0-x by grind];exact fq3
   ·refine cE (gT λ z=>c ((sgn_lt x).mp z)) ?_;exact ⟨rfl,fq,.inr ⟨c,rfl⟩⟩
  rintro zU hzU σ' H1 ⟨rfl,fq1,alt⟩;subst hzU;walk_at "rd"
  rcases alt with ⟨c,hq⟩ | ⟨c,rfl⟩
  ·refine cE (gT λ z=>?_) hq
   have:=(fN x).mp z
   grind
  ·by_cases c2:0<x
   ·refine eW (hU ((fN x).mpr c2)) ?_;refine ⟨_,rfl,t,_,dx,_,_,rfl,ht,T.cl_Taking,T.na_Taking_sinks,fsT_i _ _ _ _ _,?_⟩;refine ⟨.inl ⟨rfl,_,SqL.of hi⟩,?_⟩;refine ⟨_,rfl,_,rfl,_,rfl,?_⟩;intro e dx' h1 h2 _;refine ⟨e,dx',lr,q,s,rfl,ae,rfl,?_⟩;have ne:=newE (s:=s) (lr:=lr) fq1 h1 h2;generalize upd (upd (upd H1 dx' (.own e)) e (.ins a.End dx' [])) e (.ins a.End dx' (fsE s lr q))=H3 at ne ⊢;exact ⟨li,_,_,rfl,rfl,ne.2.1 _ _ hi,aq (by omega),k2 c2 e H3 ne⟩
   ·refine cE (gT λ z=>c2 ((fN x).mp z)) (k3 ?_);grind
inductive IspSink (a:Ad) (vs:List V) (H:Hp) (Q:VK):Prop
 | mk (H0:Hp) (t p d ls lo li:Addr) (es fs:List Addr) (A:Str->Rat) (ss:List SD) (sr sk:List (Str × Rat)) (s:Str) (h1:vs=[.ref t,.str s]) (h2:TkAt a H0 H t p d ls lo li es fs A ss sr sk) (h3:(∀ (i:Nat) (e:Addr) (r:Rat),fs[i]?=some e->sk[i]?=some (s,r)->0<r->Q (.ref e) H)) (h4:((∀ r:Rat,(s,r)∈sk->¬ 0<r)->Q .non H)):IspSink a vs H Q
noncomputable def spSink (a:Ad):Sp:=λ vs H Q _=>IspSink a vs H Q
theorem de (T:TX K mg a):MtB P w K mg base CX0 a.Taking "sink_at" 2 ["self","place"] (spSink a):=by
 refine T.m_Taking_sink_at.ok sc_Taking_sink_at (λ vs H Q E h=>?_) (λ f cdv A outer s H vs Q E hr h=>?_)
 ·obtain ⟨_,_,_,_,_,_,_,_,_,_,_,_,_,_,rfl,_⟩:=h;rfl
 ·obtain ⟨H0,t,p,d,ls,lo,li,es,fs,A,ss,sr,sk,s,rfl,D,k1,k2⟩:=h
  refine ⟨_,(ab (aS gW rfl (aZ (ay (pv 0) rfl)) (au (i:=2) sc_Taking_sink_at.nd rfl (Or.inl rfl)) (ah (aL (PW.pt (pw_and (ar cR (ay (pv 2) rfl) (pv 1) (av _)) (e9 (ar gm (cg T.fr (ay (pv 2) rfl) (cj T) hr ak) ag (av _))))) (ah (ap (pv 2))) aA)))
   (ah (ap pe_non))),?_⟩
  try dsimp only [aI,Cx.nox,Cx.wish]
  obtain ⟨dx,ht⟩:=D.ob;refine ⟨_,rfl,t,_,dx,_,_,rfl,ht,T.cl_Taking,T.na_Taking_sinks,fsT_i _ _ _ _ _,li,rfl,⟨_,SqL.of D.si⟩,?_⟩;refine a9 (K:=K) (a:=li) (xs:=fs.map .ref) (λ i σ H2=>H2=H/\∃ z2,σ=[some (.ref t),some (.str s),z2]/\∀ r,(s,r)∈sk.take i->¬ 0<r) ⟨rfl,_,rfl,λ r hr=>by rw [i7] at hr;cases hr⟩ (λ i σ H2 _ ⟨e,_⟩=>by rw [e];exact SqL.of D.si) ?_ ?_
  ·rintro i v σ H2 hv ⟨rfl,z2,rfl,no⟩;obtain ⟨x,ex,e,dxe,lr,q,rfl,he,hlr,nlr,fq⟩:=D.ri.get hv;obtain ⟨s',r⟩:=x;have tk:sk.take (i+1)=sk.take i++[(s',r)]:=by rw [gQ,ex];rfl
   have en:fs[i]?=some e:=by
    rw [gK] at hv
    cases ef:fs[i]? with
    | none=>rw [ef] at hv;cases hv
    | some e'=>rw [ef] at hv;cases hv;rfl
   refine ⟨_,rfl,e,_,dxe,_,_,rfl,he,T.cl_End,T.na_End_place,fsE_s _ _ _,_,rfl,rfl,_,rfl,?_⟩;by_cases hs:s'=s
   ·subst hs;refine eW (hU rfl) ?_;refine ⟨_,rfl,e,_,dxe,_,_,rfl,he,T.cl_End,T.na_End_rest,fsE_q _ _ _,?_⟩;walk_at "rd"
    by_cases hp:0<r
    ·refine eW (hU ((fN r).mpr hp)) ?_;exact ⟨_,rfl,k1 i e r en ex hp⟩
    ·refine cE (gT λ z=>hp ((fN r).mp z)) ⟨rfl,_,rfl,λ r' hr'=>?_⟩;rw [tk] at hr';rcases g7.mp hr' with z | z
     ·exact no r' z
     ·cases gN.mp z;exact hp
   ·refine cE (gT λ z=>hs (V.str.inj z)) ?_;refine ⟨rfl,_,rfl,λ r' hr'=>?_⟩;rw [tk] at hr';rcases g7.mp hr' with z | z
    ·exact no r' z
    ·cases gN.mp z;exact absurd rfl hs
  ·rintro σ H2 ⟨rfl,z2,rfl,no⟩
   have:=D.ri.1
   rw [this,gP] at no;exact k2 no
end
end G
namespace G
open PySem L2
section
theorem EndIs.mv' {X:List Addr} {H H':Hp} {v:V} {x:Str × Rat} (h:EndIs a X H v x) (k:Mv X H H') (hl:Lsts X H) (he:∀ e dx s lr q,H e=some (.ins a.End dx (fsE s lr q))->v=.ref e->H' e=H e):EndIs a X H' v x:=by
 obtain ⟨e,dx,lr,q,rfl,h1,h2,h3,h4⟩:=h;exact ⟨e,dx,lr,q,rfl,by rw [he e dx _ lr q h1 rfl];exact h1,k _ _ h2 h3 Plain.lst,h3,k.fr hl h4⟩
section
variable {H0 H H':Hp} {t p d ls lo li:Addr} {es fs:List Addr} {A:Str->Rat} {ss:List SD} {sr sk:List (Str × Rat)}
theorem TkAt.mono (h:TkAt a H0 H t p d ls lo li es fs A ss sr sk) (s:Same H H'):TkAt a H0 H' t p d ls lo li es fs A ss sr sk:=by
 obtain ⟨dx,ho⟩:=h.ob;obtain ⟨ts,hs,rs⟩:=h.st;have he:∀ (v:V) (e dx:Addr) (s':Str) (lr q:Addr),H e=some (.ins a.End dx (fsE s' lr q))->v=.ref e->H' e=H e:=λ v e dx s' lr q z _=>by rw [z];exact s _ _ z
 exact ⟨h.sm.trans s,h.nt,h.ns,h.nd,h.ne,h.un,⟨dx,s _ _ ho⟩,h.pl.mono s,⟨ts,s _ _ hs,rs.mono λ v x z=>z.mv (.of s) h.ls3⟩,s _ _ h.so,s _ _ h.si,h.ro.mono λ v x z=>z.mv' (.of s) h.ls3 (he v),h.ri.mono λ v x z=>z.mv' (.of s) h.ls3 (he v),h.no,h.ni,h.oi⟩
theorem TkAt.setd {A':Str->Rat} {d' dx:Addr} (h:TkAt a H0 H t p d ls lo li es fs A ss sr sk) (ho:H t=some (.ins a.Taking dx (fsT p d ls lo li))) (nd:H0 d'=none) (pl:PlanA a H d' A' 24):TkAt a H0 (upd H t (.ins a.Taking dx (fsT p d' ls lo li))) t p d' ls lo li es fs A' ss sr sk:=by
 obtain ⟨ts,hs,rs⟩:=h.st;have k:Mv [ls,lo,li] H (upd H t (.ins a.Taking dx (fsT p d' ls lo li))):=.put ho fO
 have he:∀ (v:V) (e dx':Addr) (s':Str) (lr q:Addr),H e=some (.ins a.End dx' (fsE s' lr q))->v=.ref e->upd H t (.ins a.Taking dx (fsT p d' ls lo li)) e=H e:=λ v e dx' s' lr q z _=>by
  refine af λ z2=>?_;rw [z2,ho] at z;injection z with z
  injection z with _ _ z
  exact absurd (ix (λ l=>(l.map Prod.fst)[0]?) z) (by show ¬ some ("on":Str)=some ("place":Str);decide +kernel)
 have nl:∀ {b:Addr} {zs:List V},H b=some (.lst zs)->upd H t (.ins a.Taking dx (fsT p d' ls lo li)) b=some (.lst zs):=λ {b} {zs} z=>by rw [af (aF z ho (by intro q;cases q))];exact z
 exact ⟨λ b o e=>by rw [af (aj e h.nt)];exact h.sm _ _ e,h.nt,h.ns,nd,h.ne,h.un,⟨dx,ae⟩,k.plan h.ls3 pl,⟨ts,nl hs,rs.mono λ v x z=>z.mv k h.ls3⟩,nl h.so,nl h.si,h.ro.mono λ v x z=>z.mv' k h.ls3 (he v),h.ri.mono λ v x z=>z.mv' k h.ls3 (he v),h.no,h.ni,h.oi⟩
theorem TkAt.app {ts:List V} {v:V} {s:SD} (h:TkAt a H0 H t p d ls lo li es fs A ss sr sk) (hs:H ls=some (.lst ts)) (sv:StIs a [ls,lo,li] H v s):TkAt a H0 (upd H ls (.lst (ts++[v]))) t p d ls lo li es fs A (ss++[s]) sr sk:=by
 obtain ⟨ts',hs',rs⟩:=h.st;obtain ⟨dx,ho⟩:=h.ob;rw [hs] at hs'
 cases hs';have k:Mv [ls,lo,li] H (upd H ls (.lst (ts++[v]))):=.app (by simp);have he:∀ (v':V) (e dx':Addr) (s':Str) (lr q:Addr),H e=some (.ins a.End dx' (fsE s' lr q))->v'=.ref e->upd H ls (.lst (ts++[v])) e=H e:=λ v' e dx' s' lr q z _=>af (aF z hs (by intro q;cases q));exact ⟨λ b o e=>by rw [af (aj e h.ns)];exact h.sm _ _ e,h.nt,h.ns,h.nd,h.ne,h.un,⟨dx,by rw [af (aF ho hs (by intro q;cases q))];exact ho⟩,k.plan h.ls3 h.pl,⟨_,ae,RowAt.snoc (rs.mono λ v x z=>z.mv k h.ls3) (sv.mv k h.ls3)⟩,by rw [af h.no];exact h.so,by rw [af h.ni];exact h.si,h.ro.mono λ v x z=>z.mv' k h.ls3 (he v),h.ri.mono λ v x z=>z.mv' k h.ls3 (he v),h.no,h.ni,h.oi⟩
theorem E_inj {C dx dx':Addr} {s s':Str} {lr lr' q q':Addr} (h:HO.ins C dx (fsE s lr q)=.ins C dx' (fsE s' lr' q')):dx=dx'/\s=s'/\lr=lr'/\q=q':=by
 injection h with _ h1 h2
 unfold fsE at h2;simp only [List.cons.injEq,Prod.mk.injEq,V.str.injEq,V.ref.injEq,true_and,and_true] at h2;exact ⟨h1,h2.1,h2.2.1,h2.2.2⟩
theorem ends_set {X es:List Addr} {xs:List (Str × Rat)} {e dx lr q q':Addr} {s:Str} {r r':Rat} {i:Nat} (nd:es.Nodup) (hl:Lsts X H) (h:RowAt (EndIs a X) H (es.map .ref) xs) (hi:es[i]?=some e) (hx:xs[i]?=some (s,r)) (he:H e=some (.ins a.End dx (fsE s lr q))) (fq:FrAt a.Fraction H q' r'):RowAt (EndIs a X) (upd H e (.ins a.End dx (fsE s lr q'))) (es.map .ref) (xs.set i (s,r')):=by
 have k:Mv X H (upd H e (.ins a.End dx (fsE s lr q'))):=.put he cT;refine ⟨by rw [List.length_set];exact h.1,λ j v x hv hj=>?_⟩;rw [gK] at hv
 cases ej:es[j]? with
 | none=>rw [ej] at hv;cases hv
 | some e'=>
  rw [ej] at hv
  cases hv;by_cases c:j=i
  ·subst c;rw [hi] at ej
   cases ej;rw [List.getElem?_set_self (gH.mp hx).1] at hj
   cases hj;obtain ⟨e2,dx2,lr2,q2,z,h1,h2,h3,h4⟩:=h.2 j (.ref e) (s,r) (by rw [gK,hi];rfl) hx
   cases z;rw [he] at h1;obtain ⟨_,_,rfl,_⟩:=E_inj (hZ h1);exact ⟨e,dx,lr,q',rfl,ae,k _ _ h2 h3 Plain.lst,h3,k.fr hl fq⟩
  ·rw [List.getElem?_set_ne λ z=>c z.symm] at hj;have ne:e'≠e:=λ z=>c ((i6 (gH.mp ej).1 nd).mp (by rw [ej,hi,z]));exact (h.2 j (.ref e') x (by rw [gK,ej];rfl) hj).mv k hl (af ne)
theorem ends_keep {X es:List Addr} {xs:List (Str × Rat)} {e dx lr q q':Addr} {s:Str} (ni:¬ e∈es) (hl:Lsts X H) (h:RowAt (EndIs a X) H (es.map .ref) xs) (he:H e=some (.ins a.End dx (fsE s lr q))):RowAt (EndIs a X) (upd H e (.ins a.End dx (fsE s lr q'))) (es.map .ref) xs:=by
 have k:Mv X H (upd H e (.ins a.End dx (fsE s lr q'))):=.put he cT;refine ⟨h.1,λ j v x hv hj=>?_⟩;have hv':=hv;rw [gK] at hv
 cases ej:es[j]? with
 | none=>rw [ej] at hv;cases hv
 | some e'=>
  rw [ej] at hv
  cases hv;exact (h.2 j _ x hv' hj).mv k hl (af λ z=>ni (by rw [<- z];exact gI ej))
theorem TkAt.oth {e dx lr q q':Addr} {s:Str} (h:TkAt a H0 H t p d ls lo li es fs A ss sr sk) (hm:e∈es++fs) (he:H e=some (.ins a.End dx (fsE s lr q))):Same H0 (upd H e (.ins a.End dx (fsE s lr q')))/\(∃ dx',upd H e (.ins a.End dx (fsE s lr q')) t=some (.ins a.Taking dx' (fsT p d ls lo li)))/\PlanA a (upd H e (.ins a.End dx (fsE s lr q'))) d A 24/\(∃ ts,upd H e (.ins a.End dx (fsE s lr q')) ls=some (.lst ts)/\RowAt (StIs a [ls,lo,li]) (upd H e (.ins a.End dx (fsE s lr q'))) ts ss)/\upd H e (.ins a.End dx (fsE s lr q')) lo=some (.lst (es.map .ref))/\upd H e (.ins a.End dx (fsE s lr q')) li=some (.lst (fs.map .ref)):=by
 have k:Mv [ls,lo,li] H (upd H e (.ins a.End dx (fsE s lr q'))):=.put he cT;obtain ⟨dx',ho⟩:=h.ob;obtain ⟨ts,hs,rs⟩:=h.st;have nl:∀ {b:Addr} {zs:List V},H b=some (.lst zs)->upd H e (.ins a.End dx (fsE s lr q')) b=some (.lst zs):=λ {b} {zs} z=>by rw [af (aF z he (by intro q;cases q))];exact z
 refine ⟨λ b o g=>by rw [af (aj g (h.ne e hm))];exact h.sm _ _ g,⟨dx',?_⟩,k.plan h.ls3 h.pl,⟨ts,nl hs,rs.mono λ v x z=>z.mv k h.ls3⟩,nl h.so,nl h.si⟩;rw [af λ z=>?_]
 ·exact ho
 ·rw [z,he] at ho;injection ho with ho
  injection ho with _ _ ho
  exact absurd (ix (λ l=>(l.map Prod.fst)[0]?) ho) (by show ¬ some ("place":Str)=some ("on":Str);decide +kernel)
theorem TkAt.setS {e dx lr q q':Addr} {s:Str} {r r':Rat} {i:Nat} (h:TkAt a H0 H t p d ls lo li es fs A ss sr sk) (hi:es[i]?=some e) (hx:sr[i]?=some (s,r)) (he:H e=some (.ins a.End dx (fsE s lr q))) (fq:FrAt a.Fraction H q' r'):TkAt a H0 (upd H e (.ins a.End dx (fsE s lr q'))) t p d ls lo li es fs A ss (sr.set i (s,r')) sk:=by
 have hm:e∈es++fs:=gU _ (gI hi);obtain ⟨h1,h2,h3,h4,h5,h6⟩:=h.oth (q':=q') hm he;obtain ⟨u1,_,u3⟩:=iy.mp h.un;exact ⟨h1,h.nt,h.ns,h.nd,h.ne,h.un,h2,h3,h4,h5,h6,ends_set u1 h.ls3 h.ro hi hx he fq,ends_keep (λ z=>u3 e (gI hi) e z rfl) h.ls3 h.ri he,h.no,h.ni,h.oi⟩
theorem TkAt.setK {e dx lr q q':Addr} {s:Str} {r r':Rat} {i:Nat} (h:TkAt a H0 H t p d ls lo li es fs A ss sr sk) (hi:fs[i]?=some e) (hx:sk[i]?=some (s,r)) (he:H e=some (.ins a.End dx (fsE s lr q))) (fq:FrAt a.Fraction H q' r'):TkAt a H0 (upd H e (.ins a.End dx (fsE s lr q'))) t p d ls lo li es fs A ss sr (sk.set i (s,r')):=by
 have hm:e∈es++fs:=g8 _ (gI hi);obtain ⟨h1,h2,h3,h4,h5,h6⟩:=h.oth (q':=q') hm he;obtain ⟨_,u2,u3⟩:=iy.mp h.un;exact ⟨h1,h.nt,h.ns,h.nd,h.ne,h.un,h2,h3,h4,h5,h6,ends_keep (λ z=>u3 e z e (gI hi) rfl) h.ls3 h.ro he,ends_set u2 h.ls3 h.ri hi hx he fq,h.no,h.ni,h.oi⟩
end
inductive IspTakeR (a:Ad) (vs:List V) (H:Hp) (Q:VK):Prop
 | mk (H0:Hp) (t p d ls lo li l:Addr) (es fs:List Addr) (A:Str->Rat) (ss:List SD) (sr sk:List (Str × Rat)) (ps:List (Str × Rat)) (ns ring:List WD) (h1:vs=[.ref t,.ref l]) (h2:TkAt a H0 H t p d ls lo li es fs A ss sr sk) (h3:NetAt a H0 p ps ns) (h4:(ns.map (·.nm)).Nodup) (h5:(∀ d∈ns,aG d.kd d.x=1/\SmR d.x)) (h6:ns.length<=24) (h7:H l=some (.lst (nmV ring))) (h8:¬ l∈[ls,lo,li]) (h9:RingW ns ring) (h10:ring.length<=6) (h11:(∀ d∈ring,A d.nm≠0)) (h12:(∀ n,0<=A n/\Bd 200 (A n))) (h13:(∀ n,A n≠0->n∈ns.map (·.nm))) (h14:ss.length<=100) (h15:es.length<=100) (h16:fs.length<=100) (h17:∀ H' d' x,TkAt a H0 H' t p d' ls lo li es fs (mns A ring x) (ss++[⟨ring,[],x⟩]) sr sk->0<x->(∀ d∈ring,x<=A d.nm)->(∃ d∈ring,A d.nm=x)->Q .non H'):IspTakeR a vs H Q
noncomputable def spTakeR (a:Ad):Sp:=λ vs H Q _=>IspTakeR a vs H Q
theorem fi (T:TX K mg a):MtB P w K mg base CX0 a.Taking "take_ring" 10 ["self","ring"] (spTakeR a):=by
 refine T.m_Taking_take_ring.ok sc_Taking_take_ring (λ vs H Q E h=>?_) (λ f cdv A outer s H vs Q E hr h=>?_)
 ·obtain ⟨_,_,_,_,_,_,_,_,_,_,_,_,_,_,_,_,_,rfl,_⟩:=h;rfl
 ·obtain ⟨H0,t,p,d,ls,lo,li,l,es,fs,A,ss,sr,sk,ps,ns,ring,rfl,D,hn,ndn,gn,ln,hl,nlx,rg,lr,hA,bA,sub,lss,les,lfs,k⟩:=h
  refine ⟨_,(ab (al (i:=2) sc_Taking_take_ring.nd rfl (Or.inl rfl) (ax (sentA T) hr ak (aa (ay (pv 0) rfl) (aa (pv 1) (aa (bp (mk1 T) hr T.mg_Fraction ak (aa ag ad)) ad)))))
   (ab (al (i:=3) sc_Taking_take_ring.nd rfl (Or.inl rfl) (ax (fJ T) hr ak (aa (ay (pv 0) rfl) (aa (pv 2) ad))))
   (ab (a5 (pv 0) (ax (ok_less T) hr ak (aa (ay (pv 0) rfl) (aa (pv 2) (aa (pv 3) ad)))) rfl)
   (ab (al (i:=4) sc_Taking_take_ring.nd rfl (Or.inl rfl) (bE T.fr (bE T.fr (bp (mk1 T) hr T.mg_Fraction ak (aa ag ad)) (cS T) hr ak (aa (ax (ok_gain_of T) hr ak (aa (ay (pv 0) rfl) (aa (pv 1) ad))) ad)) (dJ T) hr ak (aa (pv 3) ad)))
   (ab (aL (ar cR (cg T.fr (pv 4) (cj T) hr ak) ag (av _)) (ah (aQ (pe_bm iS iO iP bW (ay (pv 0) rfl) (aa (bK (aa (pv 1) (aa (a6 ad) (aa (a6 ad) (aa (pv 3) ad))))) ad)))) aA)
   (ah (aQ (bV (CX:=CX0) (pv 0) hr ak (aa (ay (bV (CX:=CX0) (ay (pv 0) rfl) hr ak (aa (aw aY (pv 1) ag (λ _ _=>rfl)) ad)) rfl) (aa (pv 1) (aa (pv 4) ad))))))))))),?_⟩
  try dsimp only [aI,Cx.nox,Cx.wish]
  obtain ⟨dx,ho⟩:=D.ob;have g1:∀ d∈ring,aG d.kd d.x=1:=λ d hd=>(gn d (rg.sub d hd)).1;have ndr:(ring.map (·.nm)).Nodup:=bU ndn rg.sub rg.nd;obtain ⟨pp,pth⟩:=rg.rd;have S:WkS 0 ring:=⟨λ d hd=>⟨(gn d (rg.sub d hd)).2,by rw [g1 d hd];exact Bd.one⟩,by omega,by decide,lr,ndr⟩;have O:OnNet K a H p l ps ns ring:=⟨hn.mono D.sm,ndn,SqL.of hl,rg.sub,pth.chain,by omega⟩;refine ⟨_,rfl,t,_,dx,_,_,rfl,ho,T.cl_Taking,T.na_Taking_on,fsT_on _ _ _ _ _,_,rfl,1,1,rfl,by decide,sm1,λ o H1 no s1 fo=>?_⟩;rw [show Rat.divInt 1 1=1 from rfl] at fo;refine ⟨p,l,o,ps,ns,ring,1,0,0,rfl,O.mono s1,fo,S,Bd.one,by decide,λ r H2 nr s2 pr=>?_⟩;have s12:=s1.trans s2;have D2:=D.mono s12;obtain ⟨kve,us,he,te,ndu,lu,iu⟩:=unitP g1 ndr pr;obtain ⟨kvd,ks,hd,td,ndk,lk,ik⟩:=id D2.pl
  have une:us≠[]:=λ z=>by
   obtain ⟨y,hy⟩:=List.exists_mem_of_ne_nil _ rg.ne
   have:=(iu y.nm).mpr (gL.mpr ⟨y,hy,rfl⟩)
   rw [z] at this
   cases this
  have dne:d≠r:=by
   obtain ⟨kv0,_,h0,_⟩:=id (D.mono s1).pl;exact aj h0 nr
  have inu:∀ n,n∈us->∃ y∈ring,y.nm=n:=λ n hn=>gL.mp ((iu n).mp hn);refine ⟨_,rfl,t,_,dx,_,_,rfl,s12 _ _ ho,T.cl_Taking,T.na_Taking_rest,fsT_d _ _ _ _ _,_,rfl,d,r,kvd,kve,ks,us,A,rfl,hd,td,he,te,ndu,une,by omega,λ n hn=>?_,dne,λ q H3 x s3 fx hx1 hx2=>?_⟩
  ·obtain ⟨y,hy,rfl⟩:=inu n hn;exact ⟨(ik _).mpr (hA y hy),(bA _).2.smr (by decide)⟩
  have s13:=s12.trans s3;obtain ⟨n0,hn0,en0⟩:=hx1;have bx:Bd 200 x:=by rw [<- en0];exact (bA n0).2
  have x0:0<x:=by
   obtain ⟨y,hy,rfl⟩:=inu n0 hn0
   have:=hA y hy
   have:=(bA y.nm).1
   grind
  have hmin:∀ d∈ring,x<=A d.nm:=λ y hy=>hx2 _ ((iu _).mpr (gL.mpr ⟨y,hy,rfl⟩))
  have hat:∃ d∈ring,A d.nm=x:=by
   obtain ⟨y,hy,e⟩:=inu n0 hn0;exact ⟨y,hy,by rw [e];exact en0⟩
  have D3:=D2.mono s3;refine ⟨_,rfl,t,_,dx,_,_,rfl,s13 _ _ ho,T.cl_Taking,T.na_Taking_rest,fsT_d _ _ _ _ _,_,rfl,_,rfl,d,r,q,A,24,kve,us,x,rfl,D3.pl,s3 _ _ he,te.mono (λ v x z=>z.mono s3),ndu,by omega,by decide,fx,bx,λ n=>(bA n).2,λ r' H4 nr' s4 pl4=>?_⟩;have s14:=s13.trans s4;have ho4:=s14 _ _ ho
  have ef:(λ n=>A n-(if n∈us then x else 0))=mns A ring x:=funext λ n=>by
   unfold mns;by_cases c:n∈us
   ·rw [if_pos c,if_pos ((iu n).mp c)]
   ·rw [if_neg c,if_neg λ z=>c ((iu n).mpr z)]
  rw [ef] at pl4
  have pl5:PlanA a H4 r' (mns A ring x) 24:=by
   obtain ⟨kv5,ks5,h51,h52,h53,_,h55⟩:=pl4;refine ⟨kv5,ks5,h51,h52,h53,?_,h55⟩
   have:=aW h53 (ys:=ns.map (·.nm)) λ n hn=>?_
   ·rw [gG] at this;omega
   ·have:=(h55 n).mp hn
    by_cases c:n∈ring.map (·.nm)
    ·obtain ⟨y,hy,rfl⟩:=gL.mp c;exact gL.mpr ⟨y,rg.sub y hy,rfl⟩
    ·refine sub n λ z=>this ?_;unfold mns;rw [if_neg c,z];decide +kernel
  have D5:=(D.mono s14).setd ho4 ((D.sm.trans s13).free nr') pl5;have kp:Mv [ls,lo,li] H4 (upd H4 t (.ins a.Taking dx (fsT p r' ls lo li))):=.put ho4 fO;have fx5:=kp.fr (D.mono s14).ls3 (fx.mono s4);have hl5:=kp _ _ (s14 _ _ hl) nlx Plain.lst;have ho5:upd H4 t (.ins a.Taking dx (fsT p r' ls lo li)) t=some (.ins a.Taking dx (fsT p r' ls lo li)):=ae;refine ⟨_,rfl,t,a.Taking,dx,_,rfl,ho4,T.cl_Taking,T.na_Taking_rest,by show 5<1000;decide,?_⟩;rw [fsT_put];generalize upd H4 t (.ins a.Taking dx (fsT p r' ls lo li))=H5 at D5 kp fx5 hl5 ho5 ⊢;have O5:OnNet K a H5 p l ps ns ring:=⟨hn.mono D5.sm,ndn,SqL.of hl5,rg.sub,pth.chain,by omega⟩;refine ⟨1,1,rfl,by decide,sm1,λ o2 H6 no2 s6 fo2=>?_⟩;rw [show Rat.divInt 1 1=1 from rfl] at fo2;refine ⟨o2,_,rfl,fo2,_,rfl,t,_,dx,_,_,rfl,s6 _ _ ho5,T.cl_Taking,T.na_Taking_on,fsT_on _ _ _ _ _,_,rfl,p,l,ps,ns,ring,0,rfl,O5.mono s6,S.b,by decide,by omega,λ g H7 s7 fg=>?_⟩;rw [show fK ring=1 from going_one g1] at fg;refine ⟨o2,g,_,_,rfl,fo2.mono s7,fg,Bd.one.s9,Bd.one.s9,True.intro,λ y H8 ny s8 fy=>?_⟩;have s58:=s6.trans (s7.trans s8);refine ⟨y,_,rfl,fy,_,rfl,y,q,_,_,rfl,fy,fx5.mono s58,(Bd.one.sub Bd.one).s9,bx.s9,True.intro,λ ev H9 nev s9 fev=>?_⟩;have s59:=s58.trans s9
  have fev:FrAt a.Fraction H9 ev 0:=by
   rw [show (0:Rat)=(1-1)*x by grind];exact fev
  have D9:=D5.mono s59;have fx9:=fx5.mono s59;have hl9:=s59 _ _ hl5;have ho9:=s59 _ _ ho5;clear fy fg fo2 fo s58 s59;walk_at "rd"
  obtain ⟨ts,hs9,rs9⟩:=id D9.st;refine ⟨t,_,dx,_,_,rfl,ho9,T.cl_Taking,T.na_Taking_strands,fsT_s _ _ _ _ _,?_⟩;refine ⟨.inl ⟨rfl,_,SqL.of hs9⟩,?_⟩;refine ⟨_,rfl,by decide,λ l2 nl2=>?_⟩;obtain ⟨H10,zq,s10,h10⟩:=uG (o:=.lst []) nl2;rw [zq];refine ⟨by decide,λ l3 nl3=>?_⟩;obtain ⟨H11,zq,s11,h11⟩:=uG (o:=.lst []) nl3;rw [zq];refine ⟨_,rfl,(show 4<=PySem.sizeLine by decide),λ u nu=>?_⟩;obtain ⟨H12,zq,s12',hu⟩:=uG (o:=.tup [.ref l,.ref l2,.ref l3,.ref q]) nu;rw [zq];have s912:=s10.trans (s11.trans s12');have D12:=D9.mono s912
  have n2:¬ l2∈[ls,lo,li]:=λ z=>by
   obtain ⟨zs,e⟩:=D9.ls3 _ z;rw [nl2] at e
   cases e
  have n3:¬ l3∈[ls,lo,li]:=λ z=>by
   obtain ⟨zs,e⟩:=(D9.mono s10).ls3 _ z;rw [nl3] at e
   cases e
  have hs12:=s912 _ _ hs9;have D13:=D12.app hs12 (s:=⟨ring,[],x⟩) ⟨u,l,l2,l3,q,rfl,hu,s912 _ _ hl9,s11.trans s12' _ _ h10,s12' _ _ h11,nlx,n2,n3,fx9.mono s912⟩
  have hl13:upd H12 ls (.lst (ts++[.ref u])) l=some (.lst (nmV ring)):=by
   rw [af λ z=>nlx (by rw [z];simp)];exact s912 _ _ hl9
  have fe13:FrAt a.Fraction (upd H12 ls (.lst (ts++[.ref u]))) ev 0:=(Mv.app (X:=[ls,lo,li]) (by simp)).fr D12.ls3 (fev.mono s912);have lts:ts.length<=100:=by rw [rs9.1];exact lss
  refine ⟨ls,_,_,rfl,rfl,hs12,aq (by omega),?_⟩;generalize upd H12 ls (.lst (ts++[.ref u]))=H13 at D13 hl13 fe13 ⊢;obtain ⟨dx13,ho13⟩:=D13.ob;obtain ⟨yw,hy⟩:=List.exists_mem_of_ne_nil _ rg.ne;obtain ⟨y0,e0⟩:∃ y0,ring[0]?=some y0:=by cases hring:ring with | nil=>exact absurd hring rg.ne | cons z zs=>exact ⟨z,rfl⟩
  have hy0:=rg.sub y0 (gI e0);have hn13:=hn.mono D13.sm;obtain ⟨dxn,dw,dy,hp,_,_⟩:=id hn13;have noc:=eX dw dy (m:="way") (by decide +kernel) (by decide +kernel);have i0:(nmV ring)[0]?=some (.str y0.nm):=by unfold nmV;rw [gK,e0];rfl
  refine ⟨_,rfl,t,a.Taking,dx13,_,7,["self","place","ring","come"],spAddE a,rfl,ho13,fQ _ _ _ _ _ (by decide +kernel),T.cl_Taking,by decide,df T,?_⟩;refine ⟨_,rfl,t,_,dx13,_,_,rfl,ho13,T.cl_Taking,T.na_Taking_on,fsT_on _ _ _ _ _,p,a.Net,dxn,_,1,["self","name"],cI a,rfl,hp,noc,T.cl_Net,by decide,ce T,?_⟩;refine ⟨_,rfl,l,_,_,_,rfl,rfl,SqL.of hl13,atI_nat (j:=0) i0,p,ps,ns,y0,rfl,hn13,ndn,hy0,λ v hx=>?_⟩;obtain ⟨p1,vh,vc,qx,rfl,W,hkd⟩:=id hx;obtain ⟨dx1,fs1,ho1,h51,_⟩:=id W.ob;have c1:=bt T y0.kd;refine ⟨p1,_,dx1,fs1,_,rfl,ho1,c1.cl,c1.n2,h51.st,_,rfl,_,rfl,?_⟩;exact ⟨t,dx13,p,r',ls,lo,li,l,ev,y0.st,0,_,_,rfl,ho13,fe13,Bd.zero.s9,D13.so,D13.si,by rw [gG];exact les,by rw [gG];exact lfs,λ z=>absurd z (by decide +kernel),λ z=>absurd z (by decide +kernel),λ _=>k _ r' x D13 x0 hmin hat⟩
end
end G
namespace G
open PySem L2
section
theorem TkAt.eS {H0 H:Hp} {t p d ls lo li e:Addr} {es fs:List Addr} {A:Str->Rat} {ss:List SD} {sr sk:List (Str × Rat)} {i:Nat} {s:Str} {r:Rat} (h:TkAt a H0 H t p d ls lo li es fs A ss sr sk) (hi:es[i]?=some e) (hx:sr[i]?=some (s,r)):∃ dxe lre qe,H e=some (.ins a.End dxe (fsE s lre qe))/\H lre=some (.lst [])/\¬ lre∈[ls,lo,li]/\FrAt a.Fraction H qe r:=by
 obtain ⟨e',dx',lr',q',z,z1,z2,z3,z4⟩:=h.ro.2 i (.ref e) (s,r) (by rw [gK,hi];rfl) hx
 cases z;exact ⟨dx',lr',q',z1,z2,z3,z4⟩
theorem TkAt.eK {H0 H:Hp} {t p d ls lo li e:Addr} {es fs:List Addr} {A:Str->Rat} {ss:List SD} {sr sk:List (Str × Rat)} {i:Nat} {s:Str} {r:Rat} (h:TkAt a H0 H t p d ls lo li es fs A ss sr sk) (hi:fs[i]?=some e) (hx:sk[i]?=some (s,r)):∃ dxe lre qe,H e=some (.ins a.End dxe (fsE s lre qe))/\H lre=some (.lst [])/\¬ lre∈[ls,lo,li]/\FrAt a.Fraction H qe r:=by
 obtain ⟨e',dx',lr',q',z,z1,z2,z3,z4⟩:=h.ri.2 i (.ref e) (s,r) (by rw [gK,hi];rfl) hx
 cases z;exact ⟨dx',lr',q',z1,z2,z3,z4⟩
inductive IspTakeP (a:Ad) (vs:List V) (H:Hp) (Q:VK):Prop
 | mk (H0:Hp) (t p d ls lo li l e f:Addr) (es fs:List Addr) (A:Str->Rat) (ss:List SD) (sr sk:List (Str × Rat)) (ps:List (Str × Rat)) (ns path:List WD) (i j:Nat) (s1 s2:Str) (r1 r2:Rat) (h1:vs=[.ref t,.ref e,.ref l,.ref f]) (h2:TkAt a H0 H t p d ls lo li es fs A ss sr sk) (h3:NetAt a H0 p ps ns) (h4:(ns.map (·.nm)).Nodup) (h5:(∀ d∈ns,aG d.kd d.x=1/\SmR d.x)) (h6:ns.length<=24) (h7:H l=some (.lst (nmV path))) (h8:¬ l∈[ls,lo,li]) (h9:path≠[]) (h10:(∀ x∈path,x∈ns)) (h11:(path.map (·.nm)).Nodup) (h12:Chain path) (h13:path.length<=6) (h14:(∀ d∈path,A d.nm≠0)) (h15:(∀ n,0<=A n/\Bd 200 (A n))) (h16:(∀ n,A n≠0->n∈ns.map (·.nm))) (h17:ss.length<=100) (h18:es[i]?=some e) (h19:sr[i]?=some (s1,r1)) (h20:fs[j]?=some f) (h21:sk[j]?=some (s2,r2)) (h22:0<r1) (h23:0<r2) (h24:Bd 200 r1) (h25:Bd 200 r2) (h26:∀ H' d' x,TkAt a H0 H' t p d' ls lo li es fs (mns A path x) (ss++[⟨[],path,x⟩]) (sr.set i (s1,r1-x)) (sk.set j (s2,r2-x))->0<x->x<=r1->x<=r2->(∀ d∈path,x<=A d.nm)->(x=r1∨x=r2∨∃ d∈path,A d.nm=x)->Q .non H'):IspTakeP a vs H Q
noncomputable def spTakeP (a:Ad):Sp:=λ vs H Q _=>IspTakeP a vs H Q
theorem fj (T:TX K mg a):MtB P w K mg base CX0 a.Taking "take_path" 10 ["self","source","path","sink"] (spTakeP a):=by
 refine T.m_Taking_take_path.ok sc_Taking_take_path (λ vs H Q E h=>?_) (λ f cdv A outer s H vs Q E hr h=>?_)
 ·obtain ⟨_,_,_,_,_,_,_,_,_,_,_,_,_,_,_,_,_,_,_,_,_,_,_,_,_,rfl,_⟩:=h;rfl
 ·obtain ⟨H0,t,p,d,ls,lo,li,l,e,f,es,fs,A,ss,sr,sk,ps,ns,path,i,j,s1,s2,r1,r2,rfl,D,hn,ndn,gn,ln,hl,nlx,pne,psub,ndr,pch,lr,hA,bA,sub,lss,hi,hx,hj,hy,p1,p2,b1,b2,k⟩:=h
  refine ⟨_,(ab (al (i:=4) sc_Taking_take_path.nd rfl (Or.inl rfl) (ax (sentA T) hr ak (aa (ay (pv 0) rfl) (aa (pv 2) (aa (bp (mk1 T) hr T.mg_Fraction ak (aa ag ad)) ad)))))
   (ab (al (i:=5) sc_Taking_take_path.nd rfl (Or.inl rfl) (ax (ok_gain_of T) hr ak (aa (ay (pv 0) rfl) (aa (pv 2) ad))))
   (ab (al (i:=6) sc_Taking_take_path.nd rfl (Or.inl rfl) (ax (ok_least T) hr ak (aa (a6 (aa (ay (pv 1) rfl) (aa (bE T.fr (ay (pv 3) rfl) (ok_over T) hr ak (aa (pv 5) ad)) ad))) ad)))
   (ab (aL (ar (op_neN hr.units0) (pv 2) (a6 ad) (av _)) (ah (al (i:=6) sc_Taking_take_path.nd rfl (Or.inl rfl) (ax (ok_least T) hr ak (aa (a6 (aa (pv 6) (aa (ax (fJ T) hr ak (aa (ay (pv 0) rfl) (aa (pv 4) ad))) ad))) ad)))) aA)
   (ab (a5 (pv 0) (ax (ok_less T) hr ak (aa (ay (pv 0) rfl) (aa (pv 4) (aa (pv 6) ad)))) rfl)
   (ab (a5 (pv 1) (bE T.fr (ay (pv 1) rfl) (cS T) hr ak (aa (pv 6) ad)) rfl)
   (ab (a5 (pv 3) (bE T.fr (ay (pv 3) rfl) (cS T) hr ak (aa (bE T.fr (pv 6) (dJ T) hr ak (aa (pv 5) ad)) ad)) rfl)
   (ah (aQ (pe_bm iS iO iP bW (ay (pv 0) rfl) (aa (bK (aa (bJ gE (by rfl) T.z_list iH (aa (ay (pv 1) rfl) ad)) (aa (pv 2) (aa (bJ gE (by rfl) T.z_list iH (aa (ay (pv 3) rfl) ad)) (aa (pv 6) ad))))) ad))))))))))),?_⟩
  try dsimp only [aI,Cx.nox,Cx.wish]
  obtain ⟨dx,ho⟩:=D.ob;have g1:∀ d∈path,aG d.kd d.x=1:=λ d hd=>(gn d (psub d hd)).1;have S:WkS 0 path:=⟨λ d hd=>⟨(gn d (psub d hd)).2,by rw [g1 d hd];exact Bd.one⟩,by omega,by decide,lr,ndr⟩;have O:OnNet K a H p l ps ns path:=⟨hn.mono D.sm,ndn,SqL.of hl,psub,pch,by omega⟩;refine ⟨_,rfl,t,_,dx,_,_,rfl,ho,T.cl_Taking,T.na_Taking_on,fsT_on _ _ _ _ _,_,rfl,1,1,rfl,by decide,sm1,λ o H1 no s1' fo=>?_⟩;rw [show Rat.divInt 1 1=1 from rfl] at fo;refine ⟨p,l,o,ps,ns,path,1,0,0,rfl,O.mono s1',fo,S,Bd.one,by decide,λ r H2 nr s2' pr=>?_⟩;have s12:=s1'.trans s2';have D2:=D.mono s12;obtain ⟨kve,us,he,te,ndu,lu,iu⟩:=unitP g1 ndr pr;refine ⟨_,rfl,t,_,dx,_,_,rfl,s12 _ _ ho,T.cl_Taking,T.na_Taking_on,fsT_on _ _ _ _ _,_,rfl,p,l,ps,ns,path,0,rfl,O.mono s12,S.b,by decide,by omega,λ g H3 s3 fg=>?_⟩;rw [show fK path=1 from going_one g1] at fg;have s13:=s12.trans s3;have D3:=D2.mono s3
  obtain ⟨dxe,lre,qe,hee,hlre,nlre,fqe⟩:∃ dxe lre qe,H3 e=some (.ins a.End dxe (fsE s1 lre qe))/\H3 lre=some (.lst [])/\¬ lre∈[ls,lo,li]/\FrAt a.Fraction H3 qe r1:=by
   obtain ⟨e',dx',lr',q',z,z1,z2,z3,z4⟩:=D3.ro.2 i (.ref e) (s1,r1) (by rw [gK,hi];rfl) hx
   cases z;exact ⟨dx',lr',q',z1,z2,z3,z4⟩
  obtain ⟨dxf,lrf,qf,hef,hlrf,nlrf,fqf⟩:∃ dxe lre qe,H3 f=some (.ins a.End dxe (fsE s2 lre qe))/\H3 lre=some (.lst [])/\¬ lre∈[ls,lo,li]/\FrAt a.Fraction H3 qe r2:=by
   obtain ⟨e',dx',lr',q',z,z1,z2,z3,z4⟩:=D3.ri.2 j (.ref f) (s2,r2) (by rw [gK,hj];rfl) hy
   cases z;exact ⟨dx',lr',q',z1,z2,z3,z4⟩
  have nef:e≠f:=λ z=>(iy.mp D.un).2.2 e (gI hi) f (gI hj) z;refine ⟨_,rfl,e,_,dxe,_,_,rfl,hee,T.cl_End,T.na_End_rest,fsE_q _ _ _,?_⟩;refine ⟨_,rfl,f,_,dxf,_,_,rfl,hef,T.cl_End,T.na_End_rest,fsE_q _ _ _,qf,r2,rfl,fqf,_,rfl,qf,g,_,_,rfl,fqf,fg,b2.s9,Bd.one.s9,(show (1:Rat)≠0 by decide +kernel),λ qo H4 nqo s4 fo4=>?_⟩
  have fo4:FrAt a.Fraction H4 qo r2:=by
   rw [show r2=r2 / 1 by grind];exact fo4
  refine ⟨(show 2<=PySem.sizeLine by decide),λ lm nlm=>?_⟩;obtain ⟨H5,zq,s5,h5⟩:=uG (o:=.lst [.ref qe,.ref qo]) nlm;rw [zq];have s35:=s4.trans s5;have rw5:RowAt (FrIs a) H5 [.ref qe,.ref qo] [r1,r2]:=RowAt.snoc (RowAt.snoc RowAt.nil ⟨qe,rfl,fqe.mono s35⟩) ⟨qo,rfl,fo4.mono s5⟩;refine ⟨lm,_,[r1,r2],rfl,SqL.of h5,rw5,by simp,λ x hx=>?_,λ qm m fm hm all=>?_⟩
  ·simp only [hV,g9,or_false] at hx;rcases hx with rfl | rfl
   ·exact b1.s9
   ·exact b2.s9
  have m1:m<=r1:=all r1 (by simp);have m2:m<=r2:=all r2 (by simp);have m3:m=r1∨m=r2:=by simpa using hm
  clear hm all;refine ⟨_,rfl,by decide,λ e0 ne0=>?_⟩;obtain ⟨H6,zq,s6,h6⟩:=uG (o:=.lst []) ne0;rw [zq];have s36:=s35.trans s6;have s16:=s13.trans s36;have D6:=D.mono s16;obtain ⟨yw,hyw⟩:=List.exists_mem_of_ne_nil _ pne
  obtain ⟨v0,vr,ev0⟩:∃ v0 vr,nmV path=v0::vr:=by
   cases hpp:path with
   | nil=>exact absurd hpp pne
   | cons z zs=>exact ⟨_,_,rfl⟩
  have hl6:=s16 _ _ hl;rw [ev0] at hl6;refine ⟨l,e0,_,rfl,rfl,SqL.of hl6,SqL.of h6,_,rfl,iteT ?_⟩;obtain ⟨kvd,ks,hd,td,ndk,lk,ik⟩:=id D6.pl
  have une:us≠[]:=λ z=>by
   have:=(iu yw.nm).mpr (gL.mpr ⟨yw,hyw,rfl⟩)
   rw [z] at this
   cases this
  have dne:d≠r:=by
   obtain ⟨kv0,_,h0,_⟩:=id (D.mono s1').pl;exact aj h0 nr
  have inu:∀ n,n∈us->∃ y∈path,y.nm=n:=λ n hn=>gL.mp ((iu n).mp hn);have s26:=s3.trans s36;refine ⟨_,rfl,_,rfl,t,_,dx,_,_,rfl,s16 _ _ ho,T.cl_Taking,T.na_Taking_rest,fsT_d _ _ _ _ _,_,rfl,d,r,kvd,kve,ks,us,A,rfl,hd,td,s26 _ _ he,te.mono (λ v x z=>z.mono s26),ndu,une,by omega,λ n hn=>?_,dne,λ q H7 x s7 fx hx1 hx2=>?_⟩
  ·obtain ⟨y,hy,rfl⟩:=inu n hn;exact ⟨(ik _).mpr (hA y hy),(bA _).2.smr (by decide)⟩
  obtain ⟨n0,hn0,en0⟩:=hx1;have bx:Bd 200 x:=by rw [<- en0];exact (bA n0).2
  have bm:Bd 200 m:=by rcases m3 with rfl | rfl;exact b1;exact b2
  refine ⟨(show 2<=PySem.sizeLine by decide),λ lq nlq=>?_⟩;obtain ⟨H8,zq,s8,h8⟩:=uG (o:=.lst [.ref qm,.ref q]) nlq;rw [zq];have rw8:RowAt (FrIs a) H8 [.ref qm,.ref q] [m,x]:=RowAt.snoc (RowAt.snoc RowAt.nil ⟨qm,rfl,fm.mono (s6.trans (s7.trans s8))⟩) ⟨q,rfl,fx.mono s8⟩;refine ⟨lq,_,[m,x],rfl,SqL.of h8,rw8,by simp,λ z hz=>?_,λ qa am fam hm all=>?_⟩
  ·simp only [hV,g9,or_false] at hz;rcases hz with rfl | rfl
   ·exact bm.s9
   ·exact bx.s9
  have a1:am<=m:=all m (by simp);have a2:am<=x:=all x (by simp);have a3:am=m∨am=x:=by simpa using hm
  clear hm all
  have ham:am=r1∨am=r2∨am=x:=by
   rcases a3 with rfl | rfl
   ·exact m3.elim .inl λ z=>.inr (.inl z)
   ·exact .inr (.inr rfl)
  have bam:Bd 200 am:=by
   rcases ham with rfl | rfl | rfl
   ·exact b1
   ·exact b2
   ·exact bx
  have xp:0<x:=by
   obtain ⟨y,hy,rfl⟩:=inu n0 hn0
   have:=hA y hy
   have:=(bA y.nm).1
   grind
  have am0:0<am:=by
   rcases ham with rfl | rfl | rfl
   ·exact p1
   ·exact p2
   ·exact xp
  have hmin:∀ d∈path,am<=A d.nm:=λ y hy=>Rat.le_trans a2 (hx2 _ ((iu _).mpr (gL.mpr ⟨y,hy,rfl⟩)))
  have hat:am=r1∨am=r2∨∃ d∈path,A d.nm=am:=by
   rcases ham with z | z | z
   ·exact .inl z
   ·exact .inr (.inl z)
   ·obtain ⟨y,hy,e⟩:=inu n0 hn0;exact .inr (.inr ⟨y,hy,by rw [e,z];exact en0⟩)
  have am1:am<=r1:=Rat.le_trans a1 m1;have am2:am<=r2:=Rat.le_trans a1 m2;have s78:=s7.trans s8;have s18:=s16.trans s78;have s28:=s26.trans s78;have D8:=D.mono s18;refine ⟨_,rfl,t,_,dx,_,_,rfl,s18 _ _ ho,T.cl_Taking,T.na_Taking_rest,fsT_d _ _ _ _ _,_,rfl,_,rfl,d,r,qa,A,24,kve,us,am,rfl,D8.pl,s28 _ _ he,te.mono (λ v x z=>z.mono s28),ndu,by omega,by decide,fam,bam,λ n=>(bA n).2,λ r' H9 nr' s9 pl9=>?_⟩;have s19:=s18.trans s9;have ho9:=s19 _ _ ho
  have ef:(λ n=>A n-(if n∈us then am else 0))=mns A path am:=funext λ n=>by
   unfold mns;by_cases c:n∈us
   ·rw [if_pos c,if_pos ((iu n).mp c)]
   ·rw [if_neg c,if_neg λ z=>c ((iu n).mpr z)]
  rw [ef] at pl9
  have pl10:PlanA a H9 r' (mns A path am) 24:=by
   obtain ⟨kv5,ks5,h51,h52,h53,_,h55⟩:=pl9;refine ⟨kv5,ks5,h51,h52,h53,?_,h55⟩
   have:=aW h53 (ys:=ns.map (·.nm)) λ n hn=>?_
   ·rw [gG] at this;omega
   ·have:=(h55 n).mp hn
    by_cases c:n∈path.map (·.nm)
    ·obtain ⟨y,hy,rfl⟩:=gL.mp c;exact gL.mpr ⟨y,psub y hy,rfl⟩
    ·refine sub n λ z=>this ?_;unfold mns;rw [if_neg c,z];decide +kernel
  have D10:=(D.mono s19).setd ho9 ((D.sm.trans s18).free nr') pl10;have kp:Mv [ls,lo,li] H9 (upd H9 t (.ins a.Taking dx (fsT p r' ls lo li))):=.put ho9 fO;have fam10:=kp.fr (D.mono s19).ls3 (fam.mono s9);have fg10:=kp.fr (D.mono s19).ls3 (fg.mono (s36.trans (s78.trans s9)));have hl10:=kp _ _ (s19 _ _ hl) nlx Plain.lst;refine ⟨_,rfl,t,a.Taking,dx,_,rfl,ho9,T.cl_Taking,T.na_Taking_rest,by show 5<1000;decide,?_⟩;rw [fsT_put];generalize upd H9 t (.ins a.Taking dx (fsT p r' ls lo li))=H10 at D10 kp fam10 fg10 hl10 ⊢;obtain ⟨dx1,lr1,q1,he1,_,_,fq1⟩:=D10.eS hi hx;refine ⟨_,rfl,e,_,dx1,_,_,rfl,he1,T.cl_End,T.na_End_rest,fsE_q _ _ _,q1,r1,rfl,fq1,_,rfl,q1,qa,_,_,rfl,fq1,fam10,b1.s9,bam.s9,True.intro,λ qn H11 nqn s11 fn=>?_⟩;have D11:=D10.mono s11;have D12:=D11.setS hi hx (s11 _ _ he1) fn;have kp2:Mv [ls,lo,li] H11 (upd H11 e (.ins a.End dx1 (fsE s1 lr1 qn))):=.put (s11 _ _ he1) cT;have fam12:=kp2.fr D11.ls3 (fam10.mono s11);have fg12:=kp2.fr D11.ls3 (fg10.mono s11);have hl12:=kp2 _ _ (s11 _ _ hl10) nlx Plain.lst;refine ⟨_,rfl,e,a.End,dx1,_,rfl,s11 _ _ he1,T.cl_End,T.na_End_rest,by show 3<1000;decide,?_⟩;rw [fsE_put];generalize upd H11 e (.ins a.End dx1 (fsE s1 lr1 qn))=H12 at D12 kp2 fam12 fg12 hl12 ⊢;obtain ⟨dx2,lr2,q2,he2,_,_,fq2⟩:=D12.eK hj hy;refine ⟨_,rfl,f,_,dx2,_,_,rfl,he2,T.cl_End,T.na_End_rest,fsE_q _ _ _,q2,r2,rfl,fq2,_,rfl,qa,am,rfl,fam12,_,rfl,qa,g,_,_,rfl,fam12,fg12,bam.s9,Bd.one.s9,True.intro,λ qt H13 nqt s13' ft=>?_⟩
  have ft:FrAt a.Fraction H13 qt am:=by
   rw [show am=am*1 by grind];exact ft
  refine ⟨q2,qt,_,_,rfl,fq2.mono s13',ft,b2.s9,bam.s9,True.intro,λ qz H14 nqz s14 fz=>?_⟩;have s24:=s13'.trans s14;have D14:=D12.mono s24;have D15:=D14.setK hj hy (s24 _ _ he2) fz;have kp3:Mv [ls,lo,li] H14 (upd H14 f (.ins a.End dx2 (fsE s2 lr2 qz))):=.put (s24 _ _ he2) cT;have fam15:=kp3.fr D14.ls3 (fam12.mono s24);have hl15:=kp3 _ _ (s24 _ _ hl12) nlx Plain.lst;refine ⟨_,rfl,f,a.End,dx2,_,rfl,s24 _ _ he2,T.cl_End,T.na_End_rest,by show 3<1000;decide,?_⟩;rw [fsE_put];generalize upd H14 f (.ins a.End dx2 (fsE s2 lr2 qz))=H15 at D15 kp3 fam15 hl15 ⊢;obtain ⟨dx15,ho15⟩:=D15.ob;obtain ⟨ts,hs15,rs15⟩:=id D15.st;refine ⟨_,rfl,t,_,dx15,_,_,rfl,ho15,T.cl_Taking,T.na_Taking_strands,fsT_s _ _ _ _ _,?_⟩;refine ⟨.inl ⟨rfl,_,SqL.of hs15⟩,?_⟩;obtain ⟨dxE,lrE,qE,heE,hlE,_,_⟩:=D15.eS (s:=s1) (r:=r1-am) hi (List.getElem?_set_self (gH.mp hx).1);obtain ⟨dxF,lrF,qF,heF,hlF,_,_⟩:=D15.eK (s:=s2) (r:=r2-am) hj (List.getElem?_set_self (gH.mp hy).1);refine ⟨_,rfl,e,_,dxE,_,_,rfl,heE,T.cl_End,T.na_End_ring,fsE_r _ _ _,lrE,[],rfl,.inl (SqL.of hlE),λ l2 nl2=>?_⟩;obtain ⟨H16,zq,s16',h16⟩:=uG (o:=.lst []) nl2;rw [zq];refine ⟨_,rfl,_,rfl,f,_,dxF,_,_,rfl,s16' _ _ heF,T.cl_End,T.na_End_ring,fsE_r _ _ _,lrF,[],rfl,.inl (SqL.of (s16' _ _ hlF)),λ l3 nl3=>?_⟩;obtain ⟨H17,zq,s17,h17⟩:=uG (o:=.lst []) nl3;rw [zq];refine ⟨_,rfl,(show 4<=PySem.sizeLine by decide),λ u nu=>?_⟩;obtain ⟨H18,zq,su,hu⟩:=uG (o:=.tup [.ref l2,.ref l,.ref l3,.ref qa]) nu;rw [zq];have s58:=s16'.trans (s17.trans su)
  have n2:¬ l2∈[ls,lo,li]:=λ z=>by
   obtain ⟨zs,e⟩:=D15.ls3 _ z;rw [nl2] at e
   cases e
  have n3:¬ l3∈[ls,lo,li]:=λ z=>by
   obtain ⟨zs,e⟩:=(D15.mono s16').ls3 _ z;rw [nl3] at e
   cases e
  have lts:ts.length<=100:=by rw [rs15.1];exact lss
  have hs18:=s58 _ _ hs15;have D19:=(D15.mono s58).app hs18 (s:=⟨[],path,am⟩) ⟨u,l2,l,l3,qa,rfl,hu,s17.trans su _ _ h16,s58 _ _ hl15,su _ _ h17,n2,nlx,n3,fam15.mono s58⟩;exact ⟨ls,_,_,rfl,rfl,hs18,aq (by omega),k _ r' am D19 am0 am1 am2 hmin hat⟩
end
end G
namespace G
open PySem L2
section
structure RoadW (A:Str->Rat) (ns:List WD) (p:Str) (l:List WD) (q:Str):Prop where
 sub:∀ x∈l,x∈ns/\A x.nm≠0
 path:PthW p l q
theorem RoadW.nil {A:Str->Rat} {ns:List WD} {p:Str}:RoadW A ns p [] p:=⟨λ x h=>absurd h g9,rfl⟩
theorem RoadW.snoc {A:Str->Rat} {ns l:List WD} {p q:Str} {x:WD} (h:RoadW A ns p l q) (hx:x∈ns) (h0:A x.nm≠0) (e:x.st=q):RoadW A ns p (l++[x]) x.go:=⟨λ y hy=>by
 rcases g7.mp hy with z | z
 ·exact h.sub y z
 ·rw [gN.mp z];exact ⟨hx,h0⟩,h.path.snoc e⟩
theorem RoadW.on {A:Str->Rat} {ns l:List WD} {p q:Str} (h:RoadW A ns p l q) (nn:∀ n,0<=A n) (ne:∀ d∈ns,d.st≠d.go) (g1:∀ d∈ns,aG d.kd d.x=1) (h1:aM A ns p<0) (h2:aM A ns q<=0):∃ d∈ns,d.st=q/\A d.nm≠0:=by
 refine goes_on nn ne g1 ?_
 cases e:l.getLast? with
 | none=>
  rw [List.getLast?_eq_none_iff] at e;subst e
  have:=h.path
  have:p=q:=this
  rw [<- this];exact .inl h1
 | some x=>
  have hx:=h.sub x (List.mem_of_getLast? e);exact .inr ⟨h2,x,hx.1,h.path.last x e,hx.2⟩
theorem RoadW.places {A:Str->Rat} {ns ws l:List WD} {p q:Str} (h:RoadW A ns p l q) (ac:Acyc ws) (sub:∀ d∈ns,A d.nm≠0->d∈ws):(p::l.map (·.go)).Nodup:=by
 obtain ⟨rk,hr⟩:=ac;exact (h.path.down (rk:=rk) λ x hx=>hr x (sub x (h.sub x hx).1 (h.sub x hx).2)).2
theorem starts_of {l:List WD}:∀ {p q:Str},PthW p l q->∀ x∈l,x.st∈p::l.map (·.go):=by
 induction l with
 | nil=>exact λ _ x hx=>absurd hx g9
 | cons y r ih=>
  intro p q h x hx;rcases hV.mp hx with rfl | z
  ·rw [h.1];exact ie
  ·exact g6 _ (ih h.2 x z)
theorem RoadW.starts {ws:List WD}:∀ {l:List WD} {p q:Str},PthW p l q->(p::l.map (·.go)).Nodup->(l.map (·.st)).Nodup
 | [],_,_,_,_=>jb
 | x::r,p,q,h,nd=>by
  obtain ⟨n1,n2⟩:=iC.mp nd;refine iC.mpr ⟨λ z=>n1 ?_,RoadW.starts (ws:=ws) h.2 n2⟩;obtain ⟨y,hy,e⟩:=gL.mp z;have e:y.st=p:=e.trans h.1;rw [<- e];exact starts_of h.2 y hy
end
end G
namespace G
open PySem L2
section
theorem nm_inj {ws:List WD} (nd:(ws.map (·.nm)).Nodup) {x y:WD} (hx:x∈ws) (hy:y∈ws) (e:x.nm=y.nm):x=y:=by
 obtain ⟨i,hi⟩:=iz.mp hx;obtain ⟨j,hj⟩:=iz.mp hy;have g1:(ws.map (·.nm))[i]?=some y.nm:=by rw [gK,hi,iD,e]
 have g2:(ws.map (·.nm))[j]?=some y.nm:=by rw [gK,hj];rfl
 have ij:=(i6 (by rw [gG];exact (gH.mp hi).1) nd).mp (g1.trans g2.symm);subst ij;rw [hi] at hj;exact hZ hj
theorem wsOf_in {ns:List WD} {ks:List Str} (hin:∀ n∈ks,n∈ns.map (·.nm)) {x:WD} (h:x∈cc ns ks):x∈ns/\x.nm∈ks:=by
 obtain ⟨n,hn,rfl⟩:=gL.mp h;obtain ⟨h1,h2⟩:=byN_in (hin n hn);exact ⟨h1,by rw [h2];exact hn⟩
theorem in_wsOf {ns:List WD} {ks:List Str} (nd:(ns.map (·.nm)).Nodup) {x:WD} (h:x∈ns) (hk:x.nm∈ks):x∈cc ns ks:=by
 obtain ⟨h1,h2⟩:=byN_in (ds:=ns) (gL.mpr ⟨x,h,rfl⟩);exact gL.mpr ⟨x.nm,hk,nm_inj nd h1 h h2⟩
theorem RoadW.goal {A:Str->Rat} {ns l:List WD} {ps:List (Str × Rat)} {p q:Str} (h:RoadW A ns p l q) (io:∀ d∈ns,d.st∈ps.map (·.1)/\d.go∈ps.map (·.1)) (hp:p∈ps.map (·.1)):q∈ps.map (·.1):=by
 cases e:l.getLast? with
 | none=>
  rw [List.getLast?_eq_none_iff] at e;subst e
  have:p=q:=h.path
  rw [<- this];exact hp
 | some x=>
  rw [<- h.path.last x e];exact (io x (h.sub x (List.mem_of_getLast? e)).1).2
inductive IspRoad (a:Ad) (vs:List V) (H:Hp) (Q:VK):Prop
 | mk (H0:Hp) (t p d ls lo li e:Addr) (es fs:List Addr) (A:Str->Rat) (ss:List SD) (sr sk:List (Str × Rat)) (ps:List (Str × Rat)) (ns ws:List WD) (i:Nat) (s1:Str) (r1:Rat) (h1:vs=[.ref t,.ref e]) (h2:TkAt a H0 H t p d ls lo li es fs A ss sr sk) (h3:NetAt a H0 p ps ns) (h4:(ns.map (·.nm)).Nodup) (h5:(∀ d∈ns,aG d.kd d.x=1/\SmR d.x)) (h6:ns.length<=24) (h7:(∀ d∈ns,d.st≠d.go)) (h8:(∀ d∈ns,d.st∈ps.map (·.1)/\d.go∈ps.map (·.1))) (h9:ps.length<=6) (h10:(∀ n,0<=A n/\Bd 200 (A n))) (h11:(∀ n,A n≠0->n∈ns.map (·.nm))) (h12:ss.length<=100) (h13:Acyc ws) (h14:(∀ d∈ns,A d.nm≠0->d∈ws)) (h15:s1∈ps.map (·.1)) (h16:es[i]?=some e) (h17:sr[i]?=some (s1,r1)) (h18:0<r1) (h19:(∀ x∈sr,0<=x.2/\Bd 200 x.2)) (h20:(∀ x∈sk,0<=x.2/\Bd 200 x.2)) (h21:(∀ x∈sk,x.1≠s1)) (h22:(∀ s∈ps.map (·.1),aM A ns s=cW sk s-cW sr s)) (h23:∀ H' d' x path j s2 r2,TkAt a H0 H' t p d' ls lo li es fs (mns A path x) (ss++[⟨[],path,x⟩]) (sr.set i (s1,r1-x)) (sk.set j (s2,r2-x))->sk[j]?=some (s2,r2)->RoadW A ns s1 path s2->path≠[]->0<x->x<=r1->x<=r2->(∀ d∈path,x<=A d.nm)->(x=r1∨x=r2∨∃ d∈path,A d.nm=x)->Q .non H'):IspRoad a vs H Q
noncomputable def spRoad (a:Ad):Sp:=λ vs H Q _=>IspRoad a vs H Q
theorem fh (T:TX K mg a):MtB P w K mg base CX0 a.Taking "take_road" 11 ["self","source"] (spRoad a):=by
 refine T.m_Taking_take_road.ok sc_Taking_take_road (λ vs H Q E h=>?_) (λ f cdv A outer s H vs Q E hr h=>?_)
 ·obtain ⟨_,_,_,_,_,_,_,_,_,_,_,_,_,_,_,_,_,_,_,_,rfl,_⟩:=h;rfl
 ·obtain ⟨H0,t,p,d,ls,lo,li,e,es,fs,A,ss,sr,sk,ps,ns,ws,i,s1,r1,rfl,D,hn,ndn,gn,ln,ne,io,lp,bA,sub,lss,ac,acs,hs1,hi,hx,p1,bs,bk,dis,bal,k⟩:=h
  refine ⟨_,(aP (al (i:=2) sc_Taking_take_road.nd rfl (Or.inl rfl) (ax (eT T) hr ak (aa (gj (b5 (xs:=["name"]) (rest:=["self"]) rfl (c9 (ay (pv 0) rfl))
   (λ pins fp C' s' H'=>(au (i:=0) (show (["name","self"]:List Str).Nodup by decide +kernel) rfl (Or.inl rfl))) (λ pins fp C' s' H'=>c8)
   (λ pins fp C' s' H'=>(pe_mtDK (CX:=CX0) (P:=P) (w:=w) (K:=K) (mg:=mg) (base:=base) rfl rfl rfl rfl rfl (pe_fldK (K:=K) rfl (pv 1) rfl) hr ak (aa (pv 0) ad)))
   (Clos.many (ys:=["self"]) rfl ⟨rfl,True.intro⟩ rfl (by decide +kernel)) (Reads.many (ys:=["self"]) (js:=[0]) ⟨⟨rfl,rfl,rfl⟩,True.intro⟩))) ad)))
   (ab (al (i:=3) sc_Taking_take_road.nd rfl (Or.inl rfl) (a6 ad))
   (ab (al (i:=4) sc_Taking_take_road.nd rfl (Or.inl rfl) (ay (pv 1) rfl))
   (aP (dG gW (ar op_isN (bV (CX:=CX0) (pv 0) hr ak (aa (pv 4) ad)) pe_non (av _)) (ab (aQ (pe_bm iS iO iP bW (pv 3) (aa (ay (aU (aH hr) (pv 2) (pv 4) (λ _ _=>rfl)) rfl) ad)))
   (ah (al (i:=4) sc_Taking_take_road.nd rfl (Or.inl rfl) (ay (aU (aH hr) (pv 2) (pv 4) (λ _ _=>rfl)) rfl)))))
   (ah (aQ (bV (CX:=CX0) (pv 0) hr ak (aa (pv 1) (aa (pv 3) (aa (bV (CX:=CX0) (pv 0) hr ak (aa (pv 4) ad)) ad)))))))))),?_⟩
  try dsimp only [aI,Cx.nox,Cx.wish]
  generalize hk9:tCut _ _=k9
  revert k9
  refine keepG λ k9 hk9=>?_;obtain ⟨dx,ho⟩:=D.ob;obtain ⟨kvs,ks,hd,tb,ndk,lks,ik⟩:=id D.pl;have hin:∀ n∈ks,n∈ns.map (·.nm):=λ n hn=>sub n ((ik n).mp hn);have off:NetOff a H p d ps ns:=⟨H0,hn,D.sm,D.nd⟩;subst hk9;refine cZ (λ σ' H'=>∃ on kv,σ'=[some (.ref t),some (.ref e),some (.ref on),none,none]/\Same H H'/\H' on=some (.dK kv)/\Tab (WayIs a) H' kv (bb ((cc ns ks).map (·.st))) (fOn (cc ns ks))) ?_ ?_
  ·refine ⟨d,.dK kvs,hd,(by intro o z e;cases e),_,rfl,t,_,dx,_,_,rfl,ho,T.cl_Taking,T.na_Taking_rest,fsT_d _ _ _ _ _,d,kvs,rfl,hd,λ o l nl=>?_⟩;have ndl:d≠l:=λ z=>by rw [z,ae] at nl;cases nl
   have nl':H l=none:=by rw [af ndl.symm] at nl;exact nl
   have ntd:t≠d:=aF ho hd (by intro z;cases z)
   refine cX (a:=d) (o:=o) (kvs:=kvs) (λ i H2=>i<=ks.length/\H2 d=some (.frz o (.dK kvs))/\(∀ b ob,H b=some ob->b≠d->H2 b=some ob)/\∃ ts,H2 l=some (.lst ts)/\RowAt (WayIs a) H2 ts (cc ns (ks.take i)))
    ⟨gR _,by rw [af ndl,ae],(λ b ob e ne=>by rw [af (aj e nl'),af ne];exact e),[],ae,RowAt.nil⟩ (λ i H2 ⟨_,h,_⟩=>h) ?_ ?_
   ·rintro i kv H2 hkv ⟨_,hf,k2,ts,hl2,hv⟩;obtain ⟨n,en,e1,ev,_⟩:=tb.at_ ndk hkv;have hi:i<ks.length:=(gH.mp en).1;have ekv:kV kv.1=.str n:=by rw [e1];rfl
    rw [ekv];have hn2:=(off.but k2).at_;obtain ⟨dxn,dw,dy,hp,_,_⟩:=id hn2;have noc:=eX dw dy (m:="way") (by decide +kernel) (by decide +kernel);obtain ⟨bi1,bi2⟩:=byN_in (hin n (gI en));refine g1 ⟨⟨[_],rfl,rfl⟩,yes ?_⟩;refine ⟨_,rfl,t,_,dx,_,_,rfl,k2 _ _ ho ntd,T.cl_Taking,T.na_Taking_on,fsT_on _ _ _ _ _,p,a.Net,dxn,_,1,["self","name"],cI a,rfl,hp,noc,T.cl_Net,by decide,ce T,_,rfl,p,ps,ns,byN ns n,by rw [bi2];rfl,hn2,ndn,bi1,λ v hx=>?_⟩;have lts:ts.length=i:=by rw [hv.1];unfold cc;rw [gG,gS];omega
    refine ⟨_,hl2,aq (by omega),cy (by rw [tb.len];exact hi) ⟨hi,by rw [af ndl];exact hf,(λ b ob e ne=>by rw [af (aj e nl')];exact k2 _ _ e ne),_,ae,?_⟩⟩;unfold cc;rw [gQ,en,gY,gM];exact RowAt.snoc (hv.mono λ v x z=>z.lst hl2) (hx.lst hl2)
   ·rintro H2 ⟨_,hf,k2,ts,hl2,hv⟩;rw [tb.len,gP] at hv
    have sa:Same H (upd H2 d (.dK kvs)):=λ b ob e=>by
     by_cases hb:b=d
     ·subst hb;rw [ae,<- hd,e]
     ·rw [af hb];exact k2 _ _ e hb
    have lws:(cc ns ks).length=ks.length:=by unfold cc;rw [gG]
    refine ⟨o,hf,l,ts,cc ns ks,rfl,SqL.of (show upd H2 d (.dK kvs) l=some (.lst ts) by rw [af ndl.symm];exact hl2),hv.mono λ v x z=>z.keep λ b C dx' fs' _ e=>?_,by omega,λ on Hb kv non sb hon tbn=>⟨on,kv,rfl,sa.trans sb,hon,tbn⟩⟩;rw [af λ z=>by rw [z,hf] at e;cases e];exact e
  rintro zU hzU σ' H1 ⟨on,kv,rfl,s1',hon,tbn⟩;have D1:=D.mono s1';obtain ⟨rk,hrk⟩:=id ac;have nn:∀ n,0<=A n:=λ n=>(bA n).1;have gg:∀ d∈ns,aG d.kd d.x=1:=λ d hd=>(gn d hd).1
  have sum1:aM A ns s1<0:=by
   rw [bal s1 hs1,(dU (s:=s1) λ x hx=>(bk x hx).1).2.2 λ x hx e=>absurd e (dis x hx)]
   have:=(dU (s:=s1) λ x hx=>(bs x hx).1).2.1 (s1,r1) (gI hx) rfl
   grind
  subst hzU;generalize hk9:tCut _ _=k9
  revert k9
  refine keepG λ k9 hk9=>?_;refine ⟨by decide,λ l nl=>?_⟩;obtain ⟨H2,zq,s2',hl2⟩:=uG (o:=.lst []) nl;rw [zq];have s12:=s1'.trans s2';have D2:=D.mono s12;obtain ⟨dxe,lre,qe,hee,_,_,_⟩:=D2.eS hi hx;refine ⟨_,rfl,e,_,dxe,_,_,rfl,hee,T.cl_End,T.na_End_place,fsE_s _ _ _,?_⟩
  have nlx:¬ l∈[ls,lo,li]:=λ z=>by
   obtain ⟨zs,e⟩:=D1.ls3 _ z;rw [nl] at e
   cases e
  subst hk9;refine cZ (λ σ' H'=>∃ (path:List WD) (q:Str) (f:Addr) (r:Rat) (j:Nat),σ'=[some (.ref t),some (.ref e),some (.ref on),some (.ref l),some (.str q)]/\Same H1 H'/\H' l=some (.lst (nmV path))/\RoadW A ns s1 path q/\fs[j]?=some f/\sk[j]?=some (q,r)/\0<r) ?_ ?_
  ·refine ⟨λ m σ H'=>∃ path q,m=rk q/\σ=[some (.ref t),some (.ref e),some (.ref on),some (.ref l),some (.str q)]/\Same H1 H'/\H' l=some (.lst (nmV path))/\RoadW A ns s1 path q,⟨_,[],s1,rfl,rfl,s2',hl2,RoadW.nil⟩,?_⟩;rintro m σ H3 ⟨path,q,rfl,rfl,s3,hl3,rd⟩;have D3:=D1.mono s3;obtain ⟨dx3,ho3⟩:=D3.ob;refine ⟨_,rfl,t,a.Taking,dx3,_,2,["self","place"],spSink a,rfl,ho3,fQ _ _ _ _ _ (by decide +kernel),T.cl_Taking,by decide,de T,_,rfl,H0,t,p,d,ls,lo,li,es,fs,A,ss,sr,sk,q,rfl,D3,λ j f r hj hy hp=>?_,λ no=>?_⟩
   ·exact ⟨rfl,_,rfl,cE (gT λ z=>by cases z) ⟨path,q,f,r,j,rfl,s3,hl3,rd,hj,hy,hp⟩⟩
   refine ⟨rfl,_,rfl,eW (hU rfl) ?_⟩;have qin:=rd.goal io hs1
   have sum2:aM A ns q<=0:=by
    rw [bal q qin,(dU (s:=q) λ x hx=>(bk x hx).1).2.2 λ x hx e=>?_]
    ·have:=(dU (s:=q) λ x hx=>(bs x hx).1).1
     grind
    ·obtain ⟨x1,x2⟩:=x;have e:x1=q:=e;subst e
     have:=no x2 hx
     have:=(bk _ hx).1
     grind
   obtain ⟨d0,hd0,es0,ea0⟩:=rd.on nn ne gg sum1 sum2;have qst:q∈(cc ns ks).map (·.st):=gL.mpr ⟨d0,in_wsOf ndn hd0 ((ik _).mpr ea0),es0⟩;have kin:=fOn_at qst;obtain ⟨v,ev,wi⟩:=(tbn.mono λ v x z=>z.mono s3).vals q (mem_keysOf.mpr qst);generalize fOn (cc ns ks) q=x at kin wi;obtain ⟨xm,xs⟩:=onw_some kin;obtain ⟨xn,xk⟩:=wsOf_in hin xm;have xa:A x.nm≠0:=(ik _).mp xk;have rd2:=rd.snoc xn xa xs
   have lt:rk x.go<rk q:=by
    rw [<- xs];exact hrk x (acs x xn xa)
   have lpa:path.length<=100:=by
    have:=aW (rd.places ac acs) (ys:=ps.map (·.1)) λ y hy=>by
     rcases hV.mp hy with rfl | z
     ·exact hs1
     ·obtain ⟨w',hw',rfl⟩:=gL.mp z;exact (io w' (rd.sub w' hw').1).2
    rw [ia,gG,gG] at this;omega
   obtain ⟨p1,vh,vc,qx,rfl,W,hkd⟩:=id wi;obtain ⟨dx1,fs1,ho1,h51,_⟩:=id W.ob;have c1:=bt T x.kd;have hon3:=s3 _ _ hon;refine ⟨λ σ' H'=>σ'=[some (.ref t),some (.ref e),some (.ref on),some (.ref l),some (.str x.go)]/\Same H1 H'/\H' l=some (.lst (nmV (path++[x]))),λ σ' H' ⟨e1,e2,e3⟩=>⟨rk x.go,lt,path++[x],x.go,rfl,e1,e2,e3,rd2⟩,?_⟩;refine ⟨_,rfl,.inl ⟨rfl,_,SqL.of hl3⟩,?_⟩;refine ⟨_,rfl,_,rfl,on,.ref p1,rfl,.inl ⟨kv,Sum.inr q,.inl hon3,rfl,ev.symm⟩,p1,_,dx1,fs1,_,rfl,ho1,c1.cl,c1.n1,h51.nm,?_⟩;refine ⟨l,_,_,rfl,rfl,hl3,aq (by unfold nmV;rw [gG];omega),?_⟩;have nol:∀ {b:Addr} {ob:HO},H3 b=some ob->(∀ zs,ob≠.lst zs)->upd H3 l (.lst (nmV path++[.str x.nm])) b=some ob:=λ {b} {ob} z nz=>by rw [af (aF z hl3 (nz _))];exact z
   refine ⟨_,rfl,_,rfl,on,.ref p1,rfl,.inl ⟨kv,Sum.inr q,.inl (nol hon3 λ zs z=>by cases z),rfl,ev.symm⟩,p1,_,dx1,fs1,_,rfl,nol ho1 (λ zs z=>by cases z),c1.cl,c1.n3,h51.go,rfl,aC nl s3,?_⟩;rw [ae];unfold nmV;rw [gM];rfl
  rintro zU hzU σ' H3 ⟨path,q,f,r,j,rfl,s3,hl3,rd,hj,hy,hp⟩;have D3:=D1.mono s3;obtain ⟨dx3,ho3⟩:=D3.ob;subst hzU;refine ⟨_,rfl,t,a.Taking,dx3,_,10,["self","source","path","sink"],spTakeP a,rfl,ho3,fQ _ _ _ _ _ (by decide +kernel),T.cl_Taking,by decide,fj T,_,rfl,_,rfl,?_⟩;refine ⟨_,rfl,t,a.Taking,dx3,_,2,["self","place"],spSink a,rfl,ho3,fQ _ _ _ _ _ (by decide +kernel),T.cl_Taking,by decide,de T,_,rfl,H0,t,p,d,ls,lo,li,es,fs,A,ss,sr,sk,q,rfl,D3,λ j f r hj hy hp=>?_,λ no=>absurd hp (no r (gI hy))⟩
  have pne:path≠[]:=λ z=>by
   subst z
   have:s1=q:=rd.path
   exact dis _ (gI hy) this.symm
  have ndp:=rd.places ac acs
  have lpa:path.length<=6:=by
   have:=aW ndp (ys:=ps.map (·.1)) λ y hy=>by
    rcases hV.mp hy with rfl | z
    ·exact hs1
    ·obtain ⟨w',hw',rfl⟩:=gL.mp z;exact (io w' (rd.sub w' hw').1).2
   rw [ia,gG,gG] at this;omega
  have psub:∀ x∈path,x∈ns:=λ x hx=>(rd.sub x hx).1;exact ⟨H0,t,p,d,ls,lo,li,l,e,f,es,fs,A,ss,sr,sk,ps,ns,path,i,j,s1,q,r1,r,rfl,D3,hn,ndn,gn,ln,hl3,nlx,pne,psub,bU ndn psub (RoadW.starts (ws:=ns) rd.path ndp),rd.path.chain,lpa,λ x hx=>(rd.sub x hx).2,bA,sub,lss,hi,hx,hj,hy,p1,hp,(bs _ (gI hx)).2,(bk _ (gI hy)).2,λ H' d' x D' x0 x1 x2 x3 x4=>k H' d' x path j q r D' hy rd pne x0 x1 x2 x3 x4⟩
end
end G
namespace G
open PySem L2
section
section
variable {H0 H H':Hp} {t p d ls lo li:Addr} {es fs:List Addr} {A:Str->Rat} {ss:List SD} {sr sk:List (Str × Rat)}
theorem ends_there {X es:List Addr} {xs:List (Str × Rat)} (h:RowAt (EndIs a X) H (es.map .ref) xs) {e:Addr} (he:e∈es):H e≠none:=λ z=>by
 obtain ⟨i,hi⟩:=iz.mp he;obtain ⟨x,_,e',dx,lr,q,ee,h1,_⟩:=h.get (i:=i) (t:=.ref e) (by rw [gK,hi];rfl)
 cases ee;rw [z] at h1
 cases h1
theorem TkAt.fresh {e:Addr} (h:TkAt a H0 H t p d ls lo li es fs A ss sr sk) (n:H e=none):¬ e∈es/\¬ e∈fs:=⟨λ z=>ends_there h.ro z n,λ z=>ends_there h.ri z n⟩
theorem TkAt.addS {e lr:Addr} {s:Str} {x:Rat} (h:TkAt a H0 H t p d ls lo li es fs A ss sr sk) (n:NewEnd a H H' e s lr x) (hlr:H lr=some (.lst [])) (nlr:¬ lr∈[ls,lo,li]) (nlo:H0 lo=none):TkAt a H0 (upd H' lo (.lst (es.map .ref++[.ref e]))) t p d ls lo li (es++[e]) fs A ss (sr++[(s,x)]) sk:=by
 obtain ⟨ne,s',dx,q,he,fq⟩:=n;have h2:=h.mono s';obtain ⟨f1,f2⟩:=h.fresh ne;obtain ⟨ts,hs,rs⟩:=h2.st;obtain ⟨dxt,ho⟩:=h2.ob;have k:Mv [ls,lo,li] H' (upd H' lo (.lst (es.map .ref++[.ref e]))):=.app (by simp);have kE:∀ (v':V) (e' dx':Addr) (s':Str) (lr q:Addr),H' e'=some (.ins a.End dx' (fsE s' lr q))->v'=.ref e'->upd H' lo (.lst (es.map .ref++[.ref e])) e'=H' e':=λ v' e' dx' s' lr q z _=>af (aF z h2.so (by intro q;cases q));obtain ⟨u1,u2,u3⟩:=iy.mp h.un;refine ⟨aC nlo h2.sm,h.nt,h.ns,h.nd,λ e' he'=>?_,?_,⟨dxt,by rw [af (aF ho h2.so (by intro q;cases q))];exact ho⟩,k.plan h2.ls3 h2.pl,⟨ts,by rw [af h.no.symm];exact hs,rs.mono λ v x z=>z.mv k h2.ls3⟩,?_,by rw [af h.oi.symm];exact h2.si,?_,h2.ri.mono λ v x z=>z.mv' k h2.ls3 (kE v),h.no,h.ni,h.oi⟩
 ·rcases g7.mp he' with z | z
  ·rcases g7.mp z with z | z
   ·exact h.ne _ (gU _ z)
   ·rw [gN.mp z];exact h.sm.free ne
  ·exact h.ne _ (g8 _ z)
 ·refine iy.mpr ⟨iy.mpr ⟨u1,by simp,λ x hx y hy e1=>f1 ?_⟩,u2,λ x hx y hy e1=>?_⟩
  ·rw [gN.mp hy] at e1;rw [<- e1];exact hx
  ·rcases g7.mp hx with z | z
   ·exact u3 x z y hy e1
   ·rw [gN.mp z] at e1;exact f2 (by rw [e1];exact hy)
 ·rw [ae,gM];rfl
 ·rw [gM];refine RowAt.snoc (h2.ro.mono λ v x z=>z.mv' k h2.ls3 (kE v)) ⟨e,dx,lr,q,rfl,?_,k _ _ (s' _ _ hlr) nlr Plain.lst,nlr,k.fr h2.ls3 fq⟩;rw [af (aF he h2.so (by intro q;cases q))];exact he
theorem TkAt.addK {e lr:Addr} {s:Str} {x:Rat} (h:TkAt a H0 H t p d ls lo li es fs A ss sr sk) (n:NewEnd a H H' e s lr x) (hlr:H lr=some (.lst [])) (nlr:¬ lr∈[ls,lo,li]) (nli:H0 li=none):TkAt a H0 (upd H' li (.lst (fs.map .ref++[.ref e]))) t p d ls lo li es (fs++[e]) A ss sr (sk++[(s,x)]):=by
 obtain ⟨ne,s',dx,q,he,fq⟩:=n;have h2:=h.mono s';obtain ⟨f1,f2⟩:=h.fresh ne;obtain ⟨ts,hs,rs⟩:=h2.st;obtain ⟨dxt,ho⟩:=h2.ob;have k:Mv [ls,lo,li] H' (upd H' li (.lst (fs.map .ref++[.ref e]))):=.app (by simp);have kE:∀ (v':V) (e' dx':Addr) (s':Str) (lr q:Addr),H' e'=some (.ins a.End dx' (fsE s' lr q))->v'=.ref e'->upd H' li (.lst (fs.map .ref++[.ref e])) e'=H' e':=λ v' e' dx' s' lr q z _=>af (aF z h2.si (by intro q;cases q));obtain ⟨u1,u2,u3⟩:=iy.mp h.un;refine ⟨aC nli h2.sm,h.nt,h.ns,h.nd,λ e' he'=>?_,?_,⟨dxt,by rw [af (aF ho h2.si (by intro q;cases q))];exact ho⟩,k.plan h2.ls3 h2.pl,⟨ts,by rw [af h.ni.symm];exact hs,rs.mono λ v x z=>z.mv k h2.ls3⟩,by rw [af h.oi];exact h2.so,?_,h2.ro.mono λ v x z=>z.mv' k h2.ls3 (kE v),?_,h.no,h.ni,h.oi⟩
 ·rcases g7.mp he' with z | z
  ·exact h.ne _ (gU _ z)
  ·rcases g7.mp z with z | z
   ·exact h.ne _ (g8 _ z)
   ·rw [gN.mp z];exact h.sm.free ne
 ·refine iy.mpr ⟨u1,iy.mpr ⟨u2,by simp,λ x hx y hy e1=>f2 ?_⟩,λ x hx y hy e1=>?_⟩
  ·rw [gN.mp hy] at e1;rw [<- e1];exact hx
  ·rcases g7.mp hy with z | z
   ·exact u3 x hx y z e1
   ·rw [gN.mp z] at e1;exact f1 (by rw [<- e1];exact hx)
 ·rw [ae,gM];rfl
 ·rw [gM];refine RowAt.snoc (h2.ri.mono λ v x z=>z.mv' k h2.ls3 (kE v)) ⟨e,dx,lr,q,rfl,?_,k _ _ (s' _ _ hlr) nlr Plain.lst,nlr,k.fr h2.ls3 fq⟩;rw [af (aF he h2.si (by intro q;cases q))];exact he
end
theorem ffO {x y:Int} {v:V} {r:List (Str × V)}:ff x y≠(("on":Str),v)::r:=λ z=>absurd (ix (λ l=>(l.map Prod.fst)[0]?) z) (by show ¬ some ("top":Str)=some ("on":Str);decide +kernel)
theorem PlanA.upT {H:Hp} {t C dx d:Addr} {A:Str->Rat} {m:Nat} {v:V} {r:List (Str × V)} {o:HO} (h:PlanA a H d A m) (ht:H t=some (.ins C dx ((("on":Str),v)::r))):PlanA a (upd H t o) d A m:=by
 obtain ⟨kvs,ks,h1,h2,h3⟩:=h;refine ⟨kvs,ks,by rw [af (aF h1 ht (by intro z;cases z))];exact h1,h2.mono λ v x ⟨q,e,dq,f⟩=>⟨q,e,dq,?_⟩,h3⟩;rw [af (aF f ht λ z=>by injection z with _ _ z;exact ffO z)];exact f
noncomputable def dt (F:Str->Rat) (l:List Str):List (Str × Rat):=(l.filter λ s=>decide (F s<0)).map λ s=>(s,-F s)
noncomputable def du (F:Str->Rat) (l:List Str):List (Str × Rat):=(l.filter λ s=>decide (0<F s)).map λ s=>(s,F s)
theorem srcs_snoc (F:Str->Rat) (l:List Str) (s:Str):dt F (l++[s])=dt F l++(if F s<0 then [(s,-F s)] else []):=by
 unfold dt;rw [i3,gM];by_cases h:F s<0
 ·rw [if_pos h,iK (by exact hU h)];rfl
 ·rw [if_neg h,iL (by simpa using h)];rfl
theorem snks_snoc (F:Str->Rat) (l:List Str) (s:Str):du F (l++[s])=du F l++(if 0<F s then [(s,F s)] else []):=by
 unfold du;rw [i3,gM];by_cases h:0<F s
 ·rw [if_pos h,iK (by exact hU h)];rfl
 ·rw [if_neg h,iL (by simpa using h)];rfl
theorem srcs_le (F:Str->Rat) (l:List Str):(dt F l).length<=l.length:=by
 unfold dt;rw [gG];exact iA _ _
theorem snks_le (F:Str->Rat) (l:List Str):(du F l).length<=l.length:=by
 unfold du;rw [gG];exact iA _ _
inductive IspTakI (a:Ad) (vs:List V) (H:Hp) (Q:VK):Prop
 | mk (H0:Hp) (t dx p d:Addr) (ps:List (Str × Rat)) (ns:List WD) (kvs:List (Key × V)) (ks:List Str) (f:Str->Rat) (h1:vs=[.ref t,.ref p,.ref d]) (h2:H t=some (.ins a.Taking dx [])) (h3:Same H0 H) (h4:H0 t=none) (h5:NetOff a H0 p d ps ns) (h6:(ns.map (·.nm)).Nodup) (h7:H0 d=some (.dK kvs)) (h8:Tab (FrIs a) H0 kvs ks f) (h9:ks.Nodup) (h10:ks.length<=24) (h11:(∀ n∈ks,n∈ns.map (·.nm))) (h12:SumOk (aE ks f) ps ns) (h13:ps.length<=12) (h14:∀ H' d' ls lo li es fs,TkAt a H0 H' t p d' ls lo li es fs (aE ks f) [] (dt (aM (aE ks f) ns) (ps.map (·.1))) (du (aM (aE ks f) ns) (ps.map (·.1)))->Q .non H'):IspTakI a vs H Q
noncomputable def spTakI (a:Ad):Sp:=λ vs H Q _=>IspTakI a vs H Q
theorem mk_Taking (T:TX K mg a):MkB P w K mg base CX0 a.Taking 11 ["self","net","plan"] [] (spTakI a):=by
 refine T.i_Taking.ok sc_Taking_init (λ vs H Q E h=>?_) (λ f cdv A outer s H vs Q E hr h=>?_) _ (by simp)
 ·obtain ⟨_,_,_,_,_,_,_,_,_,_,rfl,_⟩:=h;rfl
 ·obtain ⟨H0,t,dx,p,d,ps,ns,kvs,ks,f,rfl,ht,sm,nt,off,ndn,hd,tb,ndk,lks,hin,ok,lps,k⟩:=h
  refine ⟨_,(ab (a5 (pv 0) (pv 1) rfl)
   (ab (a5 (pv 0) (ax (bH T) hr ak (aa (pv 2) ad)) rfl)
   (ab (a5 (pv 0) (a6 ad) rfl)
   (ab (a5 (pv 0) (a6 ad) rfl)
   (ab (a5 (pv 0) (a6 ad) rfl)
   (ah (aS gW rfl (cP (ax (ok_sums T) hr ak (aa (pv 1) (aa (pv 2) ad)))) (eQ (n:=2) rfl (a7 (au (i:=3) sc_Taking_init.nd rfl (Or.inl rfl)) (a7 (au (i:=4) sc_Taking_init.nd rfl (Or.inl rfl)) dc))) (ah (aQ (bV (CX:=CX0) (pv 0) hr ak (aa (pv 3) (aa (a6 ad) (aa (pv 4) ad))))))))))))),?_⟩
  try dsimp only [aI,Cx.nox,Cx.wish]
  refine ⟨_,rfl,_,rfl,t,a.Taking,dx,[],rfl,ht,T.cl_Taking,T.na_Taking_on,by decide,?_⟩;have sm1:Same H0 (upd H t (.ins a.Taking dx (aR "on" (.ref p) []))):=aC nt sm;have ht1:upd H t (.ins a.Taking dx (aR "on" (.ref p) [])) t=some (.ins a.Taking dx [(("on":Str),V.ref p)]):=ae;generalize upd H t (.ins a.Taking dx (aR "on" (.ref p) []))=H1 at sm1 ht1 ⊢;refine ⟨_,rfl,d,kvs,ks,f,rfl,sm1 _ _ hd,tb.mono (λ v x z=>z.mono sm1),ndk,by omega,λ d' H2 kvd nd' s2 hd' td'=>?_⟩
  have pl2:PlanA a H2 d' (aE ks f) 24:=by
   refine ⟨kvd,_,hd',td'.congr' λ n hn=>?_,fT ndk,gZ (fU _ _) lks,λ n=>?_⟩
   ·unfold aE;rw [if_pos (mem_some0.mp hn).1]
   ·rw [mem_some0];unfold aE;by_cases h:n∈ks
    ·rw [if_pos h];exact ⟨λ z=>z.2,λ z=>⟨h,z⟩⟩
    ·rw [if_neg h];exact ⟨λ z=>absurd z.1 h,λ z=>absurd rfl z⟩
  have sm2:=sm1.trans s2;have ht2:=s2 _ _ ht1;have nd0:H0 d'=none:=sm1.free nd';refine ⟨_,rfl,t,a.Taking,dx,_,rfl,ht2,T.cl_Taking,T.na_Taking_rest,by show 1<1000;decide,?_⟩
  have e2:aR "rest" (.ref d') [(("on":Str),V.ref p)]=[(("on":Str),V.ref p),(("rest":Str),V.ref d')]:=by
   rw [bz (by decide +kernel)];rfl
  rw [e2];have pl3:=pl2.upT (o:=.ins a.Taking dx [(("on":Str),V.ref p),(("rest":Str),V.ref d')]) ht2;have sm3:Same H0 (upd H2 t (.ins a.Taking dx [(("on":Str),V.ref p),(("rest":Str),V.ref d')])):=aC nt sm2;have ht3:upd H2 t (.ins a.Taking dx [(("on":Str),V.ref p),(("rest":Str),V.ref d')]) t=some (.ins a.Taking dx [(("on":Str),V.ref p),(("rest":Str),V.ref d')]):=ae;generalize upd H2 t (.ins a.Taking dx [(("on":Str),V.ref p),(("rest":Str),V.ref d')])=H3 at pl3 sm3 ht3 ⊢;refine ⟨by decide,λ ls nls=>?_⟩;obtain ⟨H4,zq,s4,h4⟩:=uG (o:=.lst []) nls;rw [zq];have ht4:=s4 _ _ ht3;refine ⟨_,rfl,t,a.Taking,dx,_,rfl,ht4,T.cl_Taking,T.na_Taking_strands,by show 2<1000;decide,?_⟩
  have e3:aR "strands" (.ref ls) [(("on":Str),V.ref p),(("rest":Str),V.ref d')]=[(("on":Str),V.ref p),(("rest":Str),V.ref d'),(("strands":Str),V.ref ls)]:=by
   rw [bz (by decide +kernel),bz (by decide +kernel)];rfl
  rw [e3];have pl5:=(pl3.mono s4).upT (o:=.ins a.Taking dx [(("on":Str),V.ref p),(("rest":Str),V.ref d'),(("strands":Str),V.ref ls)]) ht4;have sm5:Same H0 (upd H4 t (.ins a.Taking dx [(("on":Str),V.ref p),(("rest":Str),V.ref d'),(("strands":Str),V.ref ls)])):=aC nt (sm3.trans s4);have ht5:upd H4 t (.ins a.Taking dx [(("on":Str),V.ref p),(("rest":Str),V.ref d'),(("strands":Str),V.ref ls)]) t=some (.ins a.Taking dx [(("on":Str),V.ref p),(("rest":Str),V.ref d'),(("strands":Str),V.ref ls)]):=ae
  have h5:upd H4 t (.ins a.Taking dx [(("on":Str),V.ref p),(("rest":Str),V.ref d'),(("strands":Str),V.ref ls)]) ls=some (.lst []):=by
   rw [af (aF h4 ht4 (by intro z;cases z))];exact h4
  generalize upd H4 t (.ins a.Taking dx [(("on":Str),V.ref p),(("rest":Str),V.ref d'),(("strands":Str),V.ref ls)])=H5 at pl5 sm5 ht5 h5 ⊢;refine ⟨by decide,λ lo nlo=>?_⟩;obtain ⟨H6,zq,s6,h6⟩:=uG (o:=.lst []) nlo;rw [zq];have ht6:=s6 _ _ ht5;refine ⟨_,rfl,t,a.Taking,dx,_,rfl,ht6,T.cl_Taking,T.na_Taking_sources,by show 3<1000;decide,?_⟩
  have e4:aR "sources" (.ref lo) [(("on":Str),V.ref p),(("rest":Str),V.ref d'),(("strands":Str),V.ref ls)]=[(("on":Str),V.ref p),(("rest":Str),V.ref d'),(("strands":Str),V.ref ls),(("sources":Str),V.ref lo)]:=by
   rw [bz (by decide +kernel),bz (by decide +kernel),bz (by decide +kernel)];rfl
  rw [e4];have pl7:=(pl5.mono s6).upT (o:=.ins a.Taking dx [(("on":Str),V.ref p),(("rest":Str),V.ref d'),(("strands":Str),V.ref ls),(("sources":Str),V.ref lo)]) ht6;have sm7:Same H0 (upd H6 t (.ins a.Taking dx [(("on":Str),V.ref p),(("rest":Str),V.ref d'),(("strands":Str),V.ref ls),(("sources":Str),V.ref lo)])):=aC nt (sm5.trans s6);have ht7:upd H6 t (.ins a.Taking dx [(("on":Str),V.ref p),(("rest":Str),V.ref d'),(("strands":Str),V.ref ls),(("sources":Str),V.ref lo)]) t=some (.ins a.Taking dx [(("on":Str),V.ref p),(("rest":Str),V.ref d'),(("strands":Str),V.ref ls),(("sources":Str),V.ref lo)]):=ae
  have h7:upd H6 t (.ins a.Taking dx [(("on":Str),V.ref p),(("rest":Str),V.ref d'),(("strands":Str),V.ref ls),(("sources":Str),V.ref lo)]) ls=some (.lst []):=by
   rw [af (aF (s6 _ _ h5) ht6 (by intro z;cases z))];exact s6 _ _ h5
  have h7o:upd H6 t (.ins a.Taking dx [(("on":Str),V.ref p),(("rest":Str),V.ref d'),(("strands":Str),V.ref ls),(("sources":Str),V.ref lo)]) lo=some (.lst []):=by
   rw [af (aF h6 ht6 (by intro z;cases z))];exact h6
  generalize upd H6 t (.ins a.Taking dx [(("on":Str),V.ref p),(("rest":Str),V.ref d'),(("strands":Str),V.ref ls),(("sources":Str),V.ref lo)])=H7 at pl7 sm7 ht7 h7 h7o ⊢;refine ⟨by decide,λ li nli=>?_⟩;obtain ⟨H8,zq,s8,h8⟩:=uG (o:=.lst []) nli;rw [zq];have ht8:=s8 _ _ ht7;refine ⟨_,rfl,t,a.Taking,dx,_,rfl,ht8,T.cl_Taking,T.na_Taking_sinks,by show 4<1000;decide,?_⟩
  have e5:aR "sinks" (.ref li) [(("on":Str),V.ref p),(("rest":Str),V.ref d'),(("strands":Str),V.ref ls),(("sources":Str),V.ref lo)]=fsT p d' ls lo li:=by
   rw [bz (by decide +kernel),bz (by decide +kernel),bz (by decide +kernel),bz (by decide +kernel)];rfl
  rw [e5];have pl9:=(pl7.mono s8).upT (o:=.ins a.Taking dx (fsT p d' ls lo li)) ht8;have sm9:Same H0 (upd H8 t (.ins a.Taking dx (fsT p d' ls lo li))):=aC nt (sm7.trans s8);have ht9:upd H8 t (.ins a.Taking dx (fsT p d' ls lo li)) t=some (.ins a.Taking dx (fsT p d' ls lo li)):=ae
  have nl:∀ {b:Addr} {zs:List V},H8 b=some (.lst zs)->upd H8 t (.ins a.Taking dx (fsT p d' ls lo li)) b=some (.lst zs):=λ {b} {zs} z=>by
   rw [af (aF z ht8 (by intro z;cases z))];exact z
  have h9:=nl (s8 _ _ h7);have h9o:=nl (s8 _ _ h7o);have h9i:=nl h8;clear nl;generalize upd H8 t (.ins a.Taking dx (fsT p d' ls lo li))=H9 at pl9 sm9 ht9 h9 h9o h9i ⊢;have nls0:H0 ls=none:=sm3.free nls;have nlo0:H0 lo=none:=sm5.free nlo;have nli0:H0 li=none:=sm7.free nli;have D9:TkAt a H0 H9 t p d' ls lo li [] [] (aE ks f) [] [] []:=⟨sm9,nt,nls0,nd0,λ e he=>(by cases he),jb,⟨dx,ht9⟩,pl9,⟨[],h9,RowAt.nil⟩,h9o,h9i,RowAt.nil,RowAt.nil,(aj h5 nlo).symm,(aj h7 nli).symm,aj h7o nli⟩;clear pl9 ht9 h9 h9o h9i;refine ⟨_,rfl,_,rfl,p,d,ps,ns,kvs,ks,f,rfl,off.mono sm9,ndn,sm9 _ _ hd,tb.mono (λ v x z=>z.mono sm9),ndk,hin,ok,λ r H10 kvr nr s10 hr10 tr=>?_⟩;have D10:=D9.mono s10;generalize hF:aM (aE ks f) ns=F at tr k
  have bF:∀ s,SmR (F s):=λ s=>by
   have:=ok.sf ns.length s
   rw [gP,hF] at this;exact this
  refine ⟨r,kvr,rfl,hr10,λ o=>?_⟩
  refine cH (a:=r) (o:=o) (kvs:=kvr) (λ i σ H2=>i<=ps.length/\∃ z3 z4 es fs,σ=[some (.ref t),some (.ref p),some (.ref d),z3,z4]/\H2 r=some (.frz o (.dK kvr))/\Tab (FrIs a) H2 kvr (ps.map (·.1)) F/\TkAt a H0 H2 t p d' ls lo li es fs (aE ks f) [] (dt F ((ps.map (·.1)).take i)) (du F ((ps.map (·.1)).take i)))
   ⟨gR _,_,_,[],[],rfl,ae,?_,?_⟩ (λ i σ H2 _ ⟨_,_,_,_,_,_,h,_⟩=>h) ?_ ?_
  ·exact tr.mono λ v x ⟨q,e,dq,g⟩=>⟨q,e,dq,by rw [af (aF g hr10 (by intro z;cases z))];exact g⟩
  ·exact D9.mono (aC nr s10)
  ·rintro i kv u σ H2 hkv nu ⟨_,z3,z4,es,fs,rfl,hf,tb2,D⟩;obtain ⟨n,e0,e1,ev,q,eq,fq⟩:=tb2.at_ ok.np hkv
   have hi:i<ps.length:=by
    have:=(gH.mp e0).1
    rw [gG] at this;exact this
   have ekv:kV kv.1=.str n:=by rw [e1];rfl
   rw [ekv,eq];obtain ⟨H3,zq,s3,hu⟩:=uG (o:=.tup [.str n,.ref q]) nu;rw [zq];have D3:=D.mono s3;obtain ⟨dxt,ho3⟩:=D3.ob;refine ⟨u,[.str n,.ref q],rfl,SqT.of hu,rfl,.str n,[.ref q],rfl,⟨.ref q,[],rfl,⟨rfl,?_⟩⟩⟩;refine ⟨_,rfl,t,a.Taking,dxt,_,7,["self","place","ring","come"],spAddE a,rfl,ho3,fQ _ _ _ _ _ (by decide +kernel),T.cl_Taking,by decide,df T,_,rfl,by decide,λ lr nlr=>?_⟩;obtain ⟨H4,zq,s4,h4⟩:=uG (o:=.lst []) nlr;rw [zq];have s24:=s3.trans s4;have D4:=D3.mono s4
   have nlx:¬ lr∈[ls,lo,li]:=λ z=>by
    obtain ⟨zs,e⟩:=D3.ls3 _ z;rw [nlr] at e
    cases e
   have tk:(ps.map (·.1)).take (i+1)=(ps.map (·.1)).take i++[n]:=by rw [gQ,e0];rfl
   have l1:es.length<=100:=by
    have h1:=D.ro.1;have h2:=srcs_le F ((ps.map (·.1)).take i);rw [gG] at h1;rw [gS] at h2;omega
   have l2:fs.length<=100:=by
    have h1:=D.ri.1;have h2:=snks_le F ((ps.map (·.1)).take i);rw [gG] at h1;rw [gS] at h2;omega
   have kT:∀ {H':Hp} {l:Addr} {zs ys:List V},Same H4 H'->H' l=some (.lst zs)->upd H' l (.lst ys) r=some (.frz o (.dK kvr))/\Tab (FrIs a) (upd H' l (.lst ys)) kvr (ps.map (·.1)) F:=λ {H' l zs ys} s' hl=>by
    have s':=s24.trans s';refine ⟨by rw [af (aF (s' _ _ hf) hl (by intro z;cases z))];exact s' _ _ hf,tb2.mono λ v x ⟨q,e,dq,g⟩=>⟨q,e,dq,?_⟩⟩;rw [af (aF (s' _ _ g) hl (by intro z;cases z))];exact s' _ _ g
   refine ⟨_,rfl,t,dxt,p,d',ls,lo,li,lr,q,n,F n,_,_,rfl,s4 _ _ ho3,fq.mono s24,bF n,D4.so,D4.si,by rw [gG];exact l1,by rw [gG];exact l2,λ c e H' ne=>?_,λ c e H' ne=>?_,λ c=>?_⟩
   ·obtain ⟨k1,k2⟩:=kT (l:=lo) (ys:=es.map .ref++[.ref e]) ne.2.1 (ne.2.1 _ _ D4.so);refine ⟨hi,_,_,es++[e],fs,rfl,k1,k2,?_⟩;rw [tk,srcs_snoc,snks_snoc,if_pos c,if_neg (by grind),iB];exact D4.addS ne h4 nlx nlo0
   ·obtain ⟨k1,k2⟩:=kT (l:=li) (ys:=fs.map .ref++[.ref e]) ne.2.1 (ne.2.1 _ _ D4.si);refine ⟨hi,_,_,es,fs++[e],rfl,k1,k2,?_⟩;rw [tk,srcs_snoc,snks_snoc,if_pos c,if_neg (by grind),iB];exact D4.addK ne h4 nlx nli0
   ·refine ⟨hi,_,_,es,fs,rfl,s24 _ _ hf,tb2.mono λ v x z=>z.mono s24,?_⟩;rw [tk,srcs_snoc,snks_snoc,if_neg (by rw [c];decide +kernel),if_neg (by rw [c];decide +kernel),iB,iB];exact D4
  ·rintro σ H2 ⟨_,z3,z4,es,fs,rfl,hf,tb2,D⟩;rw [tr.len,gP] at D;exact k H2 d' ls lo li es fs D
end
end G
namespace G
open PySem L2
section
noncomputable def sdA (d:SD) (n:Str):Rat:=if n∈(d.rg++d.pa).map (·.nm) then d.am else 0
noncomputable def sdE (d:SD) (s:Str):Rat:=if d.pa=[] then 0 else fS ((d.pa.map (·.st)).headD s) ((d.pa.map (·.go)).getLastD s) d.am s
noncomputable def totA (ss:List SD) (n:Str):Rat:=ss.foldl (λ r d=>r+sdA d n) 0
noncomputable def totE (ss:List SD) (s:Str):Rat:=ss.foldl (λ r d=>r+sdE d s) 0
theorem totA_snoc (ss:List SD) (d:SD) (n:Str):totA (ss++[d]) n=totA ss n+sdA d n:=by unfold totA;rw [iW];rfl
theorem totE_snoc (ss:List SD) (d:SD) (s:Str):totE (ss++[d]) s=totE ss s+sdE d s:=by unfold totE;rw [iW];rfl
theorem PthW.heads {l:List WD} {p q:Str} (h:PthW p l q) (ne:l≠[]) (s:Str):(l.map (·.st)).headD s=p/\(l.map (·.go)).getLastD s=q:=by
 constructor
 ·cases l with
  | nil=>exact absurd rfl ne
  | cons x r=>exact h.1
 ·obtain ⟨x,hx⟩:∃ x,l.getLast?=some x:=by
   cases e:l.getLast? with
   | none=>exact absurd (List.getLast?_eq_none_iff.mp e) ne
   | some x=>exact ⟨x,rfl⟩
  rw [List.getLastD_eq_getLast?,List.getLast?_map,hx];exact h.last x hx
structure NsOk (ps:List (Str × Rat)) (ns:List WD):Prop where
 np:(ps.map (·.1)).Nodup
 lp:ps.length<=6
 nd:(ns.map (·.nm)).Nodup
 ln:ns.length<=24
 g1:∀ d∈ns,aG d.kd d.x=1/\SmR d.x
 ne:∀ d∈ns,d.st≠d.go
 io:∀ d∈ns,d.st∈ps.map (·.1)/\d.go∈ps.map (·.1)
structure StOk (A0:Str->Rat) (N:Nat) (ns:List WD) (s:SD):Prop where
 am:0<s.am
 gz:Gz N s.am
 sub:∀ x∈s.rg++s.pa,x∈ns
 nd:((s.rg++s.pa).map (·.nm)).Nodup
 len:(s.rg++s.pa).length<=6
 or:s.pa=[]/\RingW ns s.rg∨s.rg=[]/\s.pa≠[]/\∃ p q,PthW p s.pa q/\(p::s.pa.map (·.go)).Nodup/\aM A0 ns p<0/\0<aM A0 ns q
structure TkI (A0:Str->Rat) (N:Nat) (ps:List (Str × Rat)) (ns:List WD) (A:Str->Rat) (ss:List SD) (sr sk:List (Str × Rat)):Prop where
 nn:∀ n,0<=A n/\Gz N (A n)
 sub:∀ n,A n≠0->n∈ns.map (·.nm)
 am:∀ n,A0 n=A n+totA ss n
 sm:∀ s,aM A0 ns s=aM A ns s+totE ss s
 bal:∀ s∈ps.map (·.1),aM A ns s=cW sk s-cW sr s
 bs:∀ x∈sr,0<=x.2/\Gz N x.2/\x.1∈ps.map (·.1)/\aM A0 ns x.1<0
 bk:∀ x∈sk,0<=x.2/\Gz N x.2/\0<aM A0 ns x.1
 ct:ss.length+nzc (λ d:WD=>A d.nm) ns+nzc (·.2) sr+nzc (·.2) sk<=nzc (λ d:WD=>A0 d.nm) ns+nzc (aM A0 ns) (ps.map (·.1))
 each:∀ s∈ss,StOk A0 N ns s
structure ApD (A0:Str->Rat) (N:Nat) (ps:List (Str × Rat)) (ns:List WD) (ss:List SD):Prop where
 am:∀ n,A0 n=totA ss n
 sm:∀ s,aM A0 ns s=totE ss s
 ct:ss.length<=nzc (λ d:WD=>A0 d.nm) ns+nzc (aM A0 ns) (ps.map (·.1))
 each:∀ s∈ss,StOk A0 N ns s
theorem nzc_len {α:Type} (p:α->Rat) (l:List α):nzc p l<=l.length:=iA _ _
theorem srcs_cons (F:Str->Rat) (x:Str) (l:List Str):dt F (x::l)=(if F x<0 then [(x,-F x)] else [])++dt F l:=by
 unfold dt;by_cases h:F x<0
 ·rw [if_pos h,iK (by exact hU h)];rfl
 ·rw [if_neg h,iL (by simpa using h)];rfl
theorem snks_cons (F:Str->Rat) (x:Str) (l:List Str):du F (x::l)=(if 0<F x then [(x,F x)] else [])++du F l:=by
 unfold du;by_cases h:0<F x
 ·rw [if_pos h,iK (by exact hU h)];rfl
 ·rw [if_neg h,iL (by simpa using h)];rfl
theorem ends_first {F:Str->Rat} {s:Str}:∀ {l:List Str},l.Nodup->(¬ s∈l->cW (dt F l) s=0/\cW (du F l) s=0)/\(s∈l->cW (du F l) s-cW (dt F l) s=F s)
 | [],_=>⟨λ _=>⟨rfl,rfl⟩,λ h=>absurd h g9⟩
 | x::l,nd=>by
  obtain ⟨n1,n2⟩:=iC.mp nd;obtain ⟨h1,h2⟩:=ends_first (F:=F) (s:=s) n2
  have e1:cW (dt F (x::l)) s=(if x=s/\F x<0 then -F x else 0)+cW (dt F l) s:=by
   rw [srcs_cons];by_cases c:F x<0
   ·rw [if_pos c];show (if x=s then -F x else 0)+cW (dt F l) s=_;by_cases c2:x=s
    ·rw [if_pos c2,if_pos ⟨c2,c⟩]
    ·rw [if_neg c2,if_neg λ z=>c2 z.1]
   ·rw [if_neg c,if_neg λ z=>c z.2,List.nil_append];grind
  have e2:cW (du F (x::l)) s=(if x=s/\0<F x then F x else 0)+cW (du F l) s:=by
   rw [snks_cons];by_cases c:0<F x
   ·rw [if_pos c];show (if x=s then F x else 0)+cW (du F l) s=_;by_cases c2:x=s
    ·rw [if_pos c2,if_pos ⟨c2,c⟩]
    ·rw [if_neg c2,if_neg λ z=>c2 z.1]
   ·rw [if_neg c,if_neg λ z=>c z.2,List.nil_append];grind
  rw [e1,e2];refine ⟨λ h=>?_,λ h=>?_⟩
  ·obtain ⟨g1,g2⟩:=h1 λ z=>h (g6 _ z);have nx:¬ x=s:=λ z=>h (by rw [z];exact ie);rw [g1,g2,if_neg λ z=>nx z.1,if_neg λ z=>nx z.1];exact ⟨by grind,by grind⟩
  ·by_cases c:x=s
   ·subst c;obtain ⟨g1,g2⟩:=h1 n1;rw [g1,g2];by_cases c1:F x<0
    ·rw [if_neg (c:=x=x/\0<F x) λ z=>absurd z.2 (by grind),if_pos ⟨rfl,c1⟩];grind
    ·rw [if_neg (c:=x=x/\F x<0) λ z=>c1 z.2];by_cases c2:0<F x
     ·rw [if_pos ⟨rfl,c2⟩];grind
     ·rw [if_neg λ z=>c2 z.2];grind
   ·rw [if_neg λ z=>c z.1,if_neg λ z=>c z.1]
    have:=h2 ((hV.mp h).resolve_left λ z=>c z.symm)
    grind
theorem nzc_first (F:Str->Rat):∀ l:List Str,nzc (·.2) (dt F l)+nzc (·.2) (du F l)<=nzc F l
 | []=>gJ _
 | x::l=>by
  have ih:=nzc_first F l
  have e1:nzc (·.2) (dt F (x::l))<=(if F x<0 then 1 else 0)+nzc (·.2) (dt F l):=by
   rw [srcs_cons];by_cases c:F x<0
   ·rw [if_pos c,if_pos c];show nzc (·.2) ((x,-F x)::dt F l)<=_;rw [bS]
    split <;> omega
   ·rw [if_neg c,if_neg c,List.nil_append];omega
  have e2:nzc (·.2) (du F (x::l))<=(if 0<F x then 1 else 0)+nzc (·.2) (du F l):=by
   rw [snks_cons];by_cases c:0<F x
   ·rw [if_pos c,if_pos c];show nzc (·.2) ((x,F x)::du F l)<=_;rw [bS]
    split <;> omega
   ·rw [if_neg c,if_neg c,List.nil_append];omega
  rw [bS]
  have:(if F x<0 then 1 else 0)+(if 0<F x then 1 else 0)<=(if F x=0 then 0 else 1):=by
   by_cases c1:F x<0
   ·rw [if_pos c1,if_neg (by grind),if_neg (by grind)];exact gJ _
   ·rw [if_neg c1];by_cases c2:0<F x
    ·rw [if_pos c2,if_neg (by grind)];exact gJ _
    ·rw [if_neg c2];omega
  omega
theorem TkI.first {A0:Str->Rat} {M N:Nat} {ps:List (Str × Rat)} {ns:List WD} (O:NsOk ps ns) (nn:∀ n,0<=A0 n/\Gz M (A0 n)) (hN:24*M<=N) (sub:∀ n,A0 n≠0->n∈ns.map (·.nm)):TkI A0 N ps ns A0 [] (dt (aM A0 ns) (ps.map (·.1))) (du (aM A0 ns) (ps.map (·.1))):=by
 have gF:∀ s,Gz N (aM A0 ns s):=λ s=>(sumF_gz (λ n=>(nn n).2) ns O.ne λ d hd=>(O.g1 d hd).1).mono (gZ (Nat.mul_le_mul_right _ O.ln) hN);refine ⟨λ n=>⟨(nn n).1,(nn n).2.mono (by omega)⟩,sub,λ n=>?_,λ s=>?_,λ s hs=>((ends_first O.np).2 hs).symm,λ x hx=>?_,λ x hx=>?_,?_,λ s hs=>absurd hs g9⟩
 ·show A0 n=A0 n+0;grind
 ·show aM A0 ns s=aM A0 ns s+0;grind
 ·obtain ⟨s,hs,rfl⟩:=gL.mp hx;obtain ⟨h1,h2⟩:=iZ.mp hs;have h2:=i5 h2;exact ⟨by show (0:Rat)<=-aM A0 ns s;grind,(gF s).neg,h1,h2⟩
 ·obtain ⟨s,hs,rfl⟩:=gL.mp hx;obtain ⟨h1,h2⟩:=iZ.mp hs;have h2:=i5 h2;exact ⟨by show (0:Rat)<=aM A0 ns s;grind,gF s,h2⟩
 ·have:=nzc_first (aM A0 ns) (ps.map (·.1))
  rw [List.length_nil];omega
theorem mns_in {A:Str->Rat} {l:List WD} {x:Rat} {d:WD} (h:d∈l):mns A l x d.nm=A d.nm-x:=by
 unfold mns;rw [if_pos (gL.mpr ⟨d,h,rfl⟩)]
theorem eU {A:Str->Rat} {l:List WD} {x:Rat} (nn:∀ n,0<=A n) (x0:0<x) (hmin:∀ d∈l,x<=A d.nm) (n:Str):0<=mns A l x n/\(mns A l x n≠0->A n≠0):=by
 have:=nn n
 unfold mns;by_cases c:n∈l.map (·.nm)
 ·obtain ⟨d,hd,rfl⟩:=gL.mp c
  have:=hmin d hd
  rw [if_pos c];grind
 ·rw [if_neg c];grind
theorem mns_gz {A:Str->Rat} {N:Nat} {l:List WD} {x:Rat} (nn:∀ n,0<=A n/\Gz N (A n)) (x0:0<x) (gx:Gz N x) (hmin:∀ d∈l,x<=A d.nm) (n:Str):Gz N (mns A l x n):=by
 unfold mns;by_cases c:n∈l.map (·.nm)
 ·rw [if_pos c];obtain ⟨d,hd,rfl⟩:=gL.mp c;exact (nn _).2.sub gx (by grind) (hmin d hd)
 ·rw [if_neg c,show A n-0=A n by grind];exact (nn n).2
theorem TkI.ring {A0:Str->Rat} {N:Nat} {ps:List (Str × Rat)} {ns ring:List WD} {A:Str->Rat} {ss:List SD} {sr sk:List (Str × Rat)} {x:Rat} (h:TkI A0 N ps ns A ss sr sk) (O:NsOk ps ns) (rg:RingW ns ring) (lr:ring.length<=6) (x0:0<x) (hmin:∀ d∈ring,x<=A d.nm) (hat:∃ d∈ring,A d.nm=x):TkI A0 N ps ns (mns A ring x) (ss++[⟨ring,[],x⟩]) sr sk/\nzc (λ d:WD=>mns A ring x d.nm) ns<nzc (λ d:WD=>A d.nm) ns:=by
 have nn:∀ n,0<=A n:=λ n=>(h.nn n).1;obtain ⟨d0,hd0,e0⟩:=hat;have gx:Gz N x:=by rw [<- e0];exact (h.nn _).2
 have ndr:=bU O.nd rg.sub rg.nd;obtain ⟨p,pth⟩:=rg.rd
 have sf:∀ s,aM (mns A ring x) ns s=aM A ns s:=λ s=>by
  rw [sumF_walk O.ne O.nd (λ d hd=>(O.g1 d hd).1) ring A p pth rg.sub ndr];unfold fS;grind
 have lt:nzc (λ d:WD=>mns A ring x d.nm) ns<nzc (λ d:WD=>A d.nm) ns:=nzc_lt (λ d _=>(eU nn x0 hmin d.nm).2) ⟨d0,rg.sub d0 hd0,by show A d0.nm≠0;rw [e0];grind,by show mns A ring x d0.nm=0;rw [mns_in hd0,e0];grind⟩;refine ⟨⟨λ n=>⟨(eU nn x0 hmin n).1,mns_gz h.nn x0 gx hmin n⟩,λ n hn=>h.sub n ((eU nn x0 hmin n).2 hn),λ n=>?_,λ s=>?_,λ s hs=>by rw [sf];exact h.bal s hs,h.bs,h.bk,?_,λ s hs=>?_⟩,lt⟩
 ·rw [totA_snoc,h.am n];unfold sdA mns;rw [iB];grind
 ·rw [totE_snoc,sf,h.sm s];unfold sdE;rw [if_pos rfl];grind
 ·have:=h.ct
  rw [hE,iX];omega
 ·rcases g7.mp hs with z | z
  ·exact h.each s z
  ·rw [gN.mp z];exact ⟨x0,gx,by rw [iB];exact rg.sub,by rw [iB];exact ndr,by rw [iB];exact lr,.inl ⟨rfl,rg⟩⟩
theorem TkI.road {A0:Str->Rat} {N:Nat} {ps:List (Str × Rat)} {ns path:List WD} {A:Str->Rat} {ss:List SD} {sr sk:List (Str × Rat)} {x r1 r2:Rat} {s1 s2:Str} {i j:Nat} (h:TkI A0 N ps ns A ss sr sk) (O:NsOk ps ns) (rd:RoadW A ns s1 path s2) (pne:path≠[]) (ndp:(s1::path.map (·.go)).Nodup) (lr:path.length<=6) (x0:0<x) (x1:x<=r1) (x2:x<=r2) (hmin:∀ d∈path,x<=A d.nm) (hat:x=r1∨x=r2∨∃ d∈path,A d.nm=x) (hi:sr[i]?=some (s1,r1)) (hj:sk[j]?=some (s2,r2)):TkI A0 N ps ns (mns A path x) (ss++[⟨[],path,x⟩]) (sr.set i (s1,r1-x)) (sk.set j (s2,r2-x))/\nzc (λ d:WD=>mns A path x d.nm) ns+nzc (·.2) (sr.set i (s1,r1-x))+nzc (·.2) (sk.set j (s2,r2-x))<nzc (λ d:WD=>A d.nm) ns+nzc (·.2) sr+nzc (·.2) sk:=by
 have nn:∀ n,0<=A n:=λ n=>(h.nn n).1;have psub:∀ x∈path,x∈ns:=λ x hx=>(rd.sub x hx).1;have ndr:=bU O.nd psub (RoadW.starts (ws:=ns) rd.path ndp);have hs1:=h.bs _ (gI hi);have hs2:=h.bk _ (gI hj)
 have gx:Gz N x:=by
  rcases hat with e | e | ⟨d,hd,e⟩
  ·rw [e];exact hs1.2.1
  ·rw [e];exact hs2.2.1
  ·rw [<- e];exact (h.nn _).2
 have sf:∀ s,aM (mns A path x) ns s=aM A ns s-fS s1 s2 x s:=λ s=>sumF_walk O.ne O.nd (λ d hd=>(O.g1 d hd).1) path A s1 rd.path psub ndr;have le:nzc (λ d:WD=>mns A path x d.nm) ns<=nzc (λ d:WD=>A d.nm) ns:=nzc_le λ d _=>(eU nn x0 hmin d.nm).2;have z1:=nzc_set (x:=x) hi (λ e=>by rw [e] at x1;grind);have z2:=nzc_set (x:=x) hj (λ e=>by rw [e] at x2;grind)
 have lt:nzc (λ d:WD=>mns A path x d.nm) ns+nzc (·.2) (sr.set i (s1,r1-x))+nzc (·.2) (sk.set j (s2,r2-x))<nzc (λ d:WD=>A d.nm) ns+nzc (·.2) sr+nzc (·.2) sk:=by
  rcases hat with e | e | ⟨d,hd,e⟩
  ·rw [if_pos ⟨by rw [<- e];grind,e.symm⟩] at z1
   have:nzc (·.2) (sk.set j (s2,r2-x))<=nzc (·.2) sk:=by omega
   omega
  ·rw [if_pos ⟨by rw [<- e];grind,e.symm⟩] at z2
   have:nzc (·.2) (sr.set i (s1,r1-x))<=nzc (·.2) sr:=by omega
   omega
  ·have:nzc (λ d:WD=>mns A path x d.nm) ns<nzc (λ d:WD=>A d.nm) ns:=nzc_lt (λ d _=>(eU nn x0 hmin d.nm).2) ⟨d,psub d hd,by show A d.nm≠0;rw [e];grind,by show mns A path x d.nm=0;rw [mns_in hd,e];grind⟩
   omega
 refine ⟨⟨λ n=>⟨(eU nn x0 hmin n).1,mns_gz h.nn x0 gx hmin n⟩,λ n hn=>h.sub n ((eU nn x0 hmin n).2 hn),λ n=>?_,λ s=>?_,λ s hs=>?_,λ y hy=>?_,λ y hy=>?_,?_,λ s hs=>?_⟩,lt⟩
 ·rw [totA_snoc,h.am n];unfold sdA mns;rw [List.nil_append];grind
 ·rw [totE_snoc,sf,h.sm s];unfold sdE;obtain ⟨g1,g2⟩:=rd.path.heads pne s;rw [if_neg pne,g1,g2];grind
 ·rw [sf,endS_set hi,endS_set hj,h.bal s hs];unfold fS;grind
 ·rcases List.mem_or_eq_of_mem_set hy with z | z
  ·exact h.bs y z
  ·rw [z];exact ⟨by show (0:Rat)<=r1-x;grind,hs1.2.1.sub gx (by grind) x1,hs1.2.2⟩
 ·rcases List.mem_or_eq_of_mem_set hy with z | z
  ·exact h.bk y z
  ·rw [z];exact ⟨by show (0:Rat)<=r2-x;grind,hs2.2.1.sub gx (by grind) x2,hs2.2.2⟩
 ·have:=h.ct
  rw [hE,iX];omega
 ·rcases g7.mp hs with z | z
  ·exact h.each s z
  ·rw [gN.mp z];exact ⟨x0,gx,psub,ndr,lr,.inr ⟨rfl,pne,s1,s2,rd.path,ndp,hs1.2.2.2,hs2.2.2⟩⟩
theorem TkI.done {A0:Str->Rat} {N:Nat} {ps:List (Str × Rat)} {ns ws:List WD} {A:Str->Rat} {ss:List SD} {sr sk:List (Str × Rat)} (h:TkI A0 N ps ns A ss sr sk) (O:NsOk ps ns) (ac:Acyc ws) (acs:∀ d∈ns,A d.nm≠0->d∈ws) (z:∀ x∈sr,x.2=0):ApD A0 N ps ns ss:=by
 have nn:∀ n,0<=A n:=λ n=>(h.nn n).1;have gg:∀ d∈ns,aG d.kd d.x=1:=λ d hd=>(O.g1 d hd).1
 have e0:∀ d∈ns,A d.nm=0:=none_left nn O.ne gg ac acs λ d hd=>by
  rw [h.bal _ (O.io d hd).1,(dU (s:=d.st) λ x hx=>(h.bs x hx).1).2.2 λ x hx _=>z x hx]
  have:=(dU (s:=d.st) λ x hx=>(h.bk x hx).1).1
  grind
 have eA:∀ n,A n=0:=λ n=>hX λ c=>by
  obtain ⟨d,hd,rfl⟩:=gL.mp (h.sub n c);exact c (e0 d hd)
 have eF:∀ s,aM A ns s=0:=λ s=>by
  have h1:=(no_out nn ns O.ne gg (s:=s) λ d hd _=>e0 d hd).1;have h2:=(no_in nn ns O.ne gg (s:=s) λ d hd _=>e0 d hd).1;grind
 refine ⟨λ n=>?_,λ s=>?_,?_,h.each⟩
 ·rw [h.am n,eA n];grind
 ·rw [h.sm s,eF s];grind
 ·have:=h.ct
  omega
noncomputable def RgAt (ls lo li:Addr) (ns:List WD) (A:Str->Rat) (H:Hp) (l:Addr):Prop:=¬ l∈[ls,lo,li]/\((∃ ring,H l=some (.lst (nmV ring))/\RingW ns ring/\ring.length<=6/\∀ d∈ring,A d.nm≠0)∨(H l=some (.lst [])/\∃ ws,Acyc ws/\∀ d∈ns,A d.nm≠0->d∈ws))
theorem ring_in_ok {H0 H:Hp} {t p d ls lo li:Addr} {es fs:List Addr} {A A0:Str->Rat} {N:Nat} {ss:List SD} {sr sk ps:List (Str × Rat)} {ns:List WD} (D:TkAt a H0 H t p d ls lo li es fs A ss sr sk) (I:TkI A0 N ps ns A ss sr sk) (O:NsOk ps ns) (hn:NetAt a H0 p ps ns) {Q:VK} {E:XK} (k:∀ l H',Same H H'->RgAt ls lo li ns A H' l->Q (.ref l) H'):spRingIn a [.ref p,.ref d] H Q E:=by
 obtain ⟨kvs,ks,hd,tb,ndk,lk,ik⟩:=id D.pl;have hin:∀ n∈ks,n∈ns.map (·.nm):=λ n hn=>I.sub n ((ik n).mp hn)
 have nlx:∀ l,H l=none->¬ l∈[ls,lo,li]:=λ l nl z=>by
  obtain ⟨zs,e⟩:=D.ls3 _ z;rw [nl] at e
  cases e
 refine ⟨p,d,ps,ns,kvs,ks,A,rfl,⟨H0,hn,D.sm,D.nd⟩,O.nd,hd,tb,ndk,hin,lk,λ l H' ring nl s' hl rg=>k l H' s' ⟨nlx l nl,.inl ⟨ring,hl,rg.mono (λ x hx=>(wsOf_in hin hx).1),?_,λ x hx=>(ik _).mp (wsOf_in hin (rg.sub x hx)).2⟩⟩,λ l H' nl s' hl ac=>k l H' s' ⟨nlx l nl,.inr ⟨hl,_,ac,λ x hx h0=>in_wsOf O.nd hx ((ik _).mpr h0)⟩⟩⟩
 have:=aW rg.nd (ys:=ps.map (·.1)) λ y hy=>by
  obtain ⟨x,hx,rfl⟩:=gL.mp hy;exact (O.io x (wsOf_in hin (rg.sub x hx)).1).1
 rw [gG,gG] at this
 have:=O.lp
 omega
theorem StIs.nil {X:List Addr} {H:Hp} {v:V} {s:SD} (h:StIs a X H v s):StIs a [] H v s:=by
 obtain ⟨u,l1,l2,l3,q,z,h1,h2,h3,h4,n1,n2,n3,h5⟩:=h;exact ⟨u,l1,l2,l3,q,z,h1,h2,h3,h4,g9,g9,g9,h5⟩
inductive IspApart (a:Ad) (vs:List V) (H:Hp) (Q:VK):Prop
 | mk (p d:Addr) (ps:List (Str × Rat)) (ns:List WD) (kvs:List (Key × V)) (ks:List Str) (f:Str->Rat) (M:Nat) (h1:vs=[.ref p,.ref d]) (h2:NetOff a H p d ps ns) (h3:NsOk ps ns) (h4:H d=some (.dK kvs)) (h5:Tab (FrIs a) H kvs ks f) (h6:ks.Nodup) (h7:(∀ n∈ks,n∈ns.map (·.nm))) (h8:(∀ n∈ks,0<=f n/\Gz M (f n))) (h9:24*M<=2 ^ 200) (h10:SumOk (aE ks f) ps ns) (h11:∀ l H' ts ss,Same H H'->H' l=some (.lst ts)->RowAt (StIs a []) H' ts ss->ApD (aE ks f) (2 ^ 200) ps ns ss->Q (.ref l) H'):IspApart a vs H Q
noncomputable def spApart (a:Ad):Sp:=λ vs H Q _=>IspApart a vs H Q
theorem ok_taken_apart (T:TX K mg a):FnB P w K mg base CX0 "taken_apart" 13 ["net","plan"] (spApart a):=by
 refine T.d_taken_apart.ok sc_taken_apart (λ vs H Q E h=>?_) (λ f cdv A outer s H vs Q E hr h=>?_)
 ·obtain ⟨_,_,_,_,_,_,_,_,rfl,_⟩:=h;rfl
 ·obtain ⟨p,d,ps,ns,kvs,ks,f,M,rfl,off,O,hd,tb,ndk,hin,hf,hM,ok,k⟩:=h
  refine ⟨_,(ab (aQ (ax (ok_refuse_unfit T) hr ak (aa (pv 0) (aa (pv 1) ad))))
   (ab (al (i:=2) sc_taken_apart.nd rfl (Or.inl rfl) (pe_mk (mk_Taking T) hr T.mg_Taking ak (aa (pv 0) (aa (pv 1) ad))))
   (aP (al (i:=3) sc_taken_apart.nd rfl (Or.inl rfl) (ax (ok_ring_in T) hr ak (aa (pv 0) (aa (ay (pv 2) rfl) ad))))
   (aP (dG gW (ar (op_neN hr.units0) (pv 3) (a6 ad) (av _)) (ab (aQ (bV (CX:=CX0) (pv 2) hr ak (aa (pv 3) ad)))
   (ah (al (i:=3) sc_taken_apart.nd rfl (Or.inl rfl) (ax (ok_ring_in T) hr ak (aa (pv 0) (aa (ay (pv 2) rfl) ad)))))))
   (ab (aS gW rfl (aZ (ay (pv 2) rfl)) (au (i:=4) sc_taken_apart.nd rfl (Or.inl rfl)) (ah (dG gW (ar gm (cg T.fr (ay (pv 4) rfl) (cj T) hr ak) ag (av _)) (ah (aQ (bV (CX:=CX0) (pv 2) hr ak (aa (pv 4) ad)))))))
   (ah (ap (ay (pv 2) rfl)))))))),?_⟩
  try dsimp only [aI,Cx.nox,Cx.wish]
  have lks:ks.length<=24:=by
   have:=aW ndk (ys:=ns.map (·.nm)) hin
   rw [gG] at this
   have:=O.ln
   omega
  refine ⟨_,rfl,_,rfl,p,d,ps,ns,kvs,ks,f,rfl,off,O.nd,hd,tb,ndk,λ n hn=>⟨hin n hn,Rat.num_nonneg.mpr (hf n hn).1⟩,λ H1 s1=>?_⟩;have off1:=off.mono s1;have hn:=off1.at_;refine ⟨_,rfl,_,rfl,?_⟩;intro t dx h1 h2 _;have s2:Same H1 (upd (upd H1 dx (.own t)) t (.ins a.Taking dx [])):=dz (C:=a.Taking) h1 h2 λ b o e n=>e;have ht2:upd (upd H1 dx (.own t)) t (.ins a.Taking dx []) t=some (.ins a.Taking dx []):=ae;generalize upd (upd H1 dx (.own t)) t (.ins a.Taking dx [])=H2 at s2 ht2 ⊢;refine ⟨H1,t,dx,p,d,ps,ns,kvs,ks,f,rfl,ht2,s2,h1,off1,O.nd,s1 _ _ hd,tb.mono (λ v x z=>z.mono s1),ndk,lks,hin,ok,by have:=O.lp;omega,λ H3 d3 ls lo li es fs D3=>⟨rfl,?_⟩⟩
  have nnA:∀ n,0<=aE ks f n/\Gz M (aE ks f n):=λ n=>by
   unfold aE
   split
   ·rename_i h;exact hf n h
   ·exact ⟨Rat.le_refl,Gz.zero.mono (gR _)⟩
  have subA:∀ n,aE ks f n≠0->n∈ns.map (·.nm):=λ n h=>hin n (hX λ c=>h (if_neg c));have I3:=TkI.first O nnA hM subA
  have les:es.length<=100/\fs.length<=100:=by
   have h1:=D3.ro.1;have h2:=D3.ri.1;have h3:=srcs_le (aM (aE ks f) ns) (ps.map (·.1));have h4:=snks_le (aM (aE ks f) ns) (ps.map (·.1));rw [gG] at h1 h2 h3 h4
   have:=O.lp
   omega
  generalize aE ks f=A0 at D3 I3 k;generalize dt (aM A0 ns) (ps.map (·.1))=sr0 at D3 I3;generalize du (aM A0 ns) (ps.map (·.1))=sk0 at D3 I3
  have bdA:∀ {A:Str->Rat} {ss:List SD} {sr sk:List (Str × Rat)},TkI A0 (2 ^ 200) ps ns A ss sr sk->(∀ n,0<=A n/\Bd 200 (A n))/\ss.length<=100:=λ {A ss sr sk} I=>by
   refine ⟨λ n=>⟨(I.nn n).1,(I.nn n).2.bd (gJ _) (by decide)⟩,?_⟩;have h1:=I.ct;have h2:=nzc_len (λ d:WD=>A0 d.nm) ns;have h3:=nzc_len (aM A0 ns) (ps.map (·.1));have h4:=O.ln;have h5:=O.lp;rw [gG] at h3;omega
  refine cZ (λ σ' H'=>∃ l d' A ss,σ'=[some (.ref p),some (.ref d),some (.ref t),some (.ref l),none]/\TkAt a H1 H' t p d' ls lo li es fs A ss sr0 sk0/\TkI A0 (2 ^ 200) ps ns A ss sr0 sk0/\RgAt ls lo li ns A H' l) ?_ ?_
  ·obtain ⟨dx3,ho3⟩:=D3.ob;refine ⟨_,rfl,_,rfl,t,_,dx3,_,_,rfl,ho3,T.cl_Taking,T.na_Taking_rest,fsT_d _ _ _ _ _,?_⟩;exact ring_in_ok (E:=E) D3 I3 O hn λ l H' s' rg=>⟨l,d3,A0,[],rfl,D3.mono s',I3,rg⟩
  rintro zU hzU σ' H4 ⟨l4,d4,A4,ss4,rfl,D4,I4,R4⟩;subst hzU;refine cZ (λ σ' H'=>∃ l d' A ss ws,σ'=[some (.ref p),some (.ref d),some (.ref t),some (.ref l),none]/\TkAt a H1 H' t p d' ls lo li es fs A ss sr0 sk0/\TkI A0 (2 ^ 200) ps ns A ss sr0 sk0/\Acyc ws/\∀ d∈ns,A d.nm≠0->d∈ws) ?_ ?_
  ·refine ⟨λ m σ H'=>∃ l d' A ss,m=nzc (λ d:WD=>A d.nm) ns/\σ=[some (.ref p),some (.ref d),some (.ref t),some (.ref l),none]/\TkAt a H1 H' t p d' ls lo li es fs A ss sr0 sk0/\TkI A0 (2 ^ 200) ps ns A ss sr0 sk0/\RgAt ls lo li ns A H' l,⟨_,l4,d4,A4,ss4,rfl,rfl,D4,I4,R4⟩,?_⟩;clear D4 I4 R4;rintro m σ H5 ⟨l5,d5,A5,ss5,rfl,rfl,D5,I5,nlx,R5⟩;refine ⟨_,rfl,by decide,λ e0 ne0=>?_⟩;obtain ⟨H6,zq,s6,h6⟩:=uG (o:=.lst []) ne0;rw [zq];have D6:=D5.mono s6;rcases R5 with ⟨ring,hl,rg,lr,hA⟩ | ⟨hl,ws,ac,acs⟩
   ·obtain ⟨v0,vr,ev0⟩:∃ v0 vr,nmV ring=v0::vr:=by
     cases hpp:ring with
     | nil=>exact absurd hpp rg.ne
     | cons z zs=>exact ⟨_,_,rfl⟩
    have hl6:=s6 _ _ hl;have hl6':=hl6;rw [ev0] at hl6';refine ⟨l5,e0,_,rfl,rfl,SqL.of hl6',SqL.of h6,_,rfl,iteT ?_⟩;refine ⟨λ σ' H'=>∃ l d' A ss,nzc (λ d:WD=>A d.nm) ns<nzc (λ d:WD=>A5 d.nm) ns/\σ'=[some (.ref p),some (.ref d),some (.ref t),some (.ref l),none]/\TkAt a H1 H' t p d' ls lo li es fs A ss sr0 sk0/\TkI A0 (2 ^ 200) ps ns A ss sr0 sk0/\RgAt ls lo li ns A H' l,λ σ' H' ⟨l,d',A,ss,lt,r⟩=>⟨_,lt,l,d',A,ss,rfl,r⟩,?_⟩;obtain ⟨dx6,ho6⟩:=D6.ob;obtain ⟨bA,lss⟩:=bdA I5;refine ⟨_,rfl,t,a.Taking,dx6,_,10,["self","ring"],spTakeR a,rfl,ho6,fQ _ _ _ _ _ (by decide +kernel),T.cl_Taking,by decide,fi T,_,rfl,H1,t,p,d5,ls,lo,li,l5,es,fs,A5,ss5,sr0,sk0,ps,ns,ring,rfl,D6,hn,O.nd,O.g1,O.ln,hl6,nlx,rg,lr,hA,bA,I5.sub,lss,les.1,les.2,λ H7 d7 x D7 x0 hmin hat=>?_⟩;obtain ⟨I7,lt⟩:=I5.ring O rg lr x0 hmin hat;obtain ⟨dx7,ho7⟩:=D7.ob;refine ⟨_,rfl,_,rfl,t,_,dx7,_,_,rfl,ho7,T.cl_Taking,T.na_Taking_rest,fsT_d _ _ _ _ _,?_⟩;exact ring_in_ok (E:=E) D7 I7 O hn λ l H' s' rg=>⟨l,d7,_,_,lt,rfl,D7.mono s',I7,rg⟩
   ·exact ⟨l5,e0,_,rfl,rfl,SqL.of (s6 _ _ hl),SqL.of h6,_,rfl,iteF ⟨l5,d5,A5,ss5,ws,rfl,D6,I5,ac,acs⟩⟩
  rintro zU hzU σ' H5 ⟨l5,d5,A5,ss5,ws,rfl,D5,I5,ac,acs⟩;obtain ⟨dx5,ho5⟩:=D5.ob;subst hzU;refine ⟨_,rfl,t,_,dx5,_,_,rfl,ho5,T.cl_Taking,T.na_Taking_sources,fsT_o _ _ _ _ _,lo,rfl,⟨_,SqL.of D5.so⟩,?_⟩;refine a9 (K:=K) (a:=lo) (xs:=es.map .ref) (λ i σ H'=>∃ d' A ss sr sk z4,σ=[some (.ref p),some (.ref d),some (.ref t),some (.ref l5),z4]/\TkAt a H1 H' t p d' ls lo li es fs A ss sr sk/\TkI A0 (2 ^ 200) ps ns A ss sr sk/\(∀ d∈ns,A d.nm≠0->d∈ws)/\∀ x∈sr.take i,x.2=0) ⟨d5,A5,ss5,sr0,sk0,_,rfl,D5,I5,acs,λ x hx=>by rw [i7] at hx;cases hx⟩ (λ i σ H' _ ⟨_,_,_,_,_,_,_,D,_⟩=>SqL.of D.so) ?_ ?_
  ·rintro i v σ H6 hv ⟨d6,A6,ss6,sr6,sk6,z4,rfl,D6,I6,acs6,nul⟩
   obtain ⟨e,en,rfl⟩:∃ e,es[i]?=some e/\v=.ref e:=by
    rw [gK] at hv
    cases ef:es[i]? with
    | none=>rw [ef] at hv;cases hv
    | some e'=>rw [ef] at hv;cases hv;exact ⟨e',rfl,rfl⟩
   refine ⟨λ m σ H'=>∃ d' A ss sr sk,m=nzc (λ d:WD=>A d.nm) ns+nzc (·.2) sr+nzc (·.2) sk/\σ=[some (.ref p),some (.ref d),some (.ref t),some (.ref l5),some (.ref e)]/\TkAt a H1 H' t p d' ls lo li es fs A ss sr sk/\TkI A0 (2 ^ 200) ps ns A ss sr sk/\(∀ d∈ns,A d.nm≠0->d∈ws)/\∀ x∈sr.take i,x.2=0,⟨_,d6,A6,ss6,sr6,sk6,rfl,rfl,D6,I6,acs6,nul⟩,?_⟩;clear D6 I6 acs6 nul;rintro m σ H7 ⟨d7,A7,ss7,sr7,sk7,rfl,rfl,D7,I7,acs7,nul⟩;obtain ⟨⟨s1,r1⟩,ex,_⟩:=D7.ro.get (i:=i) hv;obtain ⟨dxe,lre,qe,hee,_,_,fqe⟩:=D7.eS en ex;obtain ⟨b1,b2,b3,b4⟩:=I7.bs _ (gI ex);refine ⟨_,rfl,e,_,dxe,_,_,rfl,hee,T.cl_End,T.na_End_rest,fsE_q _ _ _,?_⟩;walk_at "rd"
   by_cases hp:0<r1
   case neg=>
    refine cE (gT λ z=>hp ((fN r1).mp z)) ⟨d7,A7,ss7,sr7,sk7,_,rfl,D7,I7,acs7,λ x hx=>?_⟩;rw [gQ,ex] at hx;rcases g7.mp hx with z | z
    ·exact nul x z
    ·rw [gN.mp z];have b1:0<=r1:=b1;show r1=0;grind
   refine eW (hU ((fN r1).mpr hp)) ?_;refine ⟨λ σ' H'=>∃ d' A ss sr sk,nzc (λ d:WD=>A d.nm) ns+nzc (·.2) sr+nzc (·.2) sk<nzc (λ d:WD=>A7 d.nm) ns+nzc (·.2) sr7+nzc (·.2) sk7/\σ'=[some (.ref p),some (.ref d),some (.ref t),some (.ref l5),some (.ref e)]/\TkAt a H1 H' t p d' ls lo li es fs A ss sr sk/\TkI A0 (2 ^ 200) ps ns A ss sr sk/\(∀ d∈ns,A d.nm≠0->d∈ws)/\∀ x∈sr.take i,x.2=0,λ σ' H' ⟨d',A,ss,sr,sk,lt,r⟩=>⟨_,lt,d',A,ss,sr,sk,rfl,r⟩,?_⟩;obtain ⟨dx7,ho7⟩:=D7.ob;obtain ⟨bA,lss⟩:=bdA I7;refine ⟨_,rfl,t,a.Taking,dx7,_,11,["self","source"],spRoad a,rfl,ho7,fQ _ _ _ _ _ (by decide +kernel),T.cl_Taking,by decide,fh T,_,rfl,H1,t,p,d7,ls,lo,li,e,es,fs,A7,ss7,sr7,sk7,ps,ns,ws,i,s1,r1,rfl,D7,hn,O.nd,O.g1,O.ln,O.ne,O.io,O.lp,bA,I7.sub,lss,ac,acs7,b3,en,ex,hp,λ x hx=>⟨(I7.bs x hx).1,(I7.bs x hx).2.1.bd (gJ _) (by decide)⟩,λ x hx=>⟨(I7.bk x hx).1,(I7.bk x hx).2.1.bd (gJ _) (by decide)⟩,λ x hx z=>?_,I7.bal,λ H8 d8 x path j s2 r2 D8 hy rd pne x0 x1 x2 x3 x4=>?_⟩
   ·have:=(I7.bk x hx).2.2
    rw [z] at this;have b4:aM A0 ns s1<0:=b4;grind
   have ndp:=rd.places ac acs7
   have lpa:path.length<=6:=by
    have:=aW ndp (ys:=ps.map (·.1)) λ y hy=>by
     rcases hV.mp hy with rfl | z
     ·exact b3
     ·obtain ⟨w',hw',rfl⟩:=gL.mp z;exact (O.io w' (rd.sub w' hw').1).2
    rw [ia,gG,gG] at this
    have:=O.lp
    omega
   obtain ⟨I8,lt⟩:=I7.road O rd pne ndp lpa x0 x1 x2 x3 x4 ex hy;refine ⟨d8,_,_,_,_,lt,rfl,D8,I8,λ y hy h0=>acs7 y hy ((eU (λ n=>(bA n).1) x0 x3 y.nm).2 h0),λ y hy=>nul y ?_⟩;rw [List.take_set_of_le (gJ _)] at hy;exact hy
  ·rintro σ H6 ⟨d6,A6,ss6,sr6,sk6,z4,rfl,D6,I6,acs6,nul⟩;rw [D6.ro.1,gP] at nul;obtain ⟨dx6,ho6⟩:=D6.ob;obtain ⟨ts,hts,rs⟩:=D6.st;exact ⟨_,rfl,t,_,dx6,_,_,rfl,ho6,T.cl_Taking,T.na_Taking_strands,fsT_s _ _ _ _ _,k ls H6 ts ss6 (s1.trans D6.sm) hts ⟨rs.1,λ i t x h1 h2=>(rs.2 i t x h1 h2).nil⟩ (I6.done O ac acs6 nul)⟩
end
end G
namespace G
open PySem L2
section
theorem fb {n:Nat} (h:n<=1000):n<=sizeLine:=by rw [PySem.sizeLine_eq];omega
theorem one_len {c:Nat}:(⟨#[c]⟩:Str).length=1:=rfl
theorem bQ (x:Int) {m:Int} (h:0<m):0<=x % m/\x % m<m:=⟨Int.emod_nonneg x (by omega),Int.emod_lt_of_pos x h⟩
inductive IspCellW (K:W.Frag) (vs:List V) (H:Hp) (Q:VK):Prop
 | mk (l:Addr) (ns:List Int) (k:Int) (h1:vs=[.ref l,.int k]) (h2:SqL K H l (ns.map V.int)) (h3:0<=k) (h4:k<=1000) (h5:∀ c:Int,Q (.int c) H):IspCellW K vs H Q
noncomputable def spCellW (K:W.Frag):Sp:=λ vs H Q _=>IspCellW K vs H Q
theorem bg (T:TX K mg a):FnB P w K mg base CX0 "_law_cell_at" 1 ["_law_script","_law_k"] (spCellW K):=by
 refine T.d_law_cell_at.ok sc_law_cell_at (λ vs H Q E h=>?_) (λ f cdv A outer s H vs Q E hr h=>?_)
 ·obtain ⟨_,_,_,rfl,_⟩:=h;rfl
 ·obtain ⟨l,ns,i,rfl,hS,i0,i1,k⟩:=h
  refine ⟨_,(ab (aL (ar eR (pv 1) (aD aO (by rfl) T.z_len im (aa (pv 0) ad)) (av _)) (ah (ap (aw aY (pv 0) (pv 1) (λ _ _=>rfl)))) aA)
   (ab (aL (ar cR (aD aO (by rfl) T.z_len im (aa (pv 0) ad)) ag (av _)) (ah (ap ag)) aA)
   (ah (ap (ao bv (ao op_mul (aw aY (pv 0) (ao bv (pv 1) (aD aO (by rfl) T.z_len im (aa (pv 0) ad))) (λ _ _=>rfl)) (ao bO ag (ao op_mul (pv 1) (pv 1)))) ag))))),?_⟩
  try dsimp only [aI,Cx.nox,Cx.wish]
  have get:∀ j:Int,0<=j->j<ns.length->∃ c,atI (ns.map V.int) j=some (.int c):=λ j h0 h1=>by
   obtain ⟨n,rfl⟩:=iR h0;have hn:n<ns.length:=by omega
   exact ⟨ns[n],atI_nat (by rw [gK,gX hn];rfl)⟩
  refine ⟨_,rfl,_,rfl,_,_,rfl,.inl hS,_,_,rfl,rfl,_,rfl,?_⟩;rw [gG];refine ifB (λ hlt=>?_) (λ hge=>?_)
  ·obtain ⟨c,hc⟩:=get i i0 hlt;exact ⟨_,rfl,_,rfl,l,_,_,_,rfl,rfl,hS,hc,k c⟩
  ·refine ⟨_,rfl,_,_,rfl,.inl hS,rfl,_,rfl,?_⟩;rw [gG];refine ifV (λ h0=>k 0) (λ h0=>?_);have hp:(0:Int)<ns.length:=by omega
   obtain ⟨e0,e1⟩:=bQ i hp;obtain ⟨c,hc⟩:=get _ e0 e1;have h1:i*i<=1000*1000:=Int.mul_le_mul i1 i1 i0 (by decide);have h2:0<=i*i:=Int.mul_nonneg i0 i0;refine ⟨_,rfl,_,rfl,_,rfl,l,_,rfl,.inl hS,_,_,rfl,rfl,by rw [gG];exact hp,l,_,_,_,rfl,rfl,hS,by rw [gG];exact hc,?_⟩;refine ⟨_,rfl,_,rfl,_,_,rfl,rfl,.inl ⟨by omega,by omega⟩,_,_,rfl,rfl,_,_,rfl,rfl,.inr ⟨by omega,by omega⟩,_,_,rfl,rfl,zI1000003,?_⟩;exact k _
structure Names (ns:List Str) (n:Nat):Prop where
 len:ns.length=n
 nd:ns.Nodup
 sm:∀ x∈ns,x.length<=200
inductive IspNames (vs:List V) (H:Hp) (Q:VK):Prop
 | mk (c:Int) (n:Nat) (h1:vs=[.int c,.int n]) (h2:n<=37) (h3:∀ l H' ns,H l=none->Same H H'->H' l=some (.lst (ns.map V.str))->Names ns n->Q (.ref l) H'):IspNames vs H Q
noncomputable def spNames (K:W.Frag):Sp:=λ vs H Q _=>IspNames vs H Q
theorem take_range {f:Nat->Str} (i:Nat):((List.range (i+1)).map f)=((List.range i).map f)++[f i]:=by rw [List.range_succ,gM];rfl
theorem names_of {f:Nat->Str} {n:Nat} (inj:∀ i j,i<n->j<n->f i=f j->i=j) (sm:∀ i,i<n->(f i).length<=200):Names ((List.range n).map f) n:=by
 refine ⟨by simp,?_,λ x hx=>?_⟩
 ·rw [List.nodup_iff_pairwise_ne,List.pairwise_map];refine (List.nodup_range (n:=n)).imp_of_mem ?_;intro i j hi hj ne e;exact ne (inj i j (List.mem_range.mp hi) (List.mem_range.mp hj) e)
 ·obtain ⟨i,hi,rfl⟩:=gL.mp hx;exact sm i (List.mem_range.mp hi)
theorem rep_len (c:Nat) (n:Int):(Txt.mul ⟨#[c]⟩ n).length=n.toNat:=by rw [len_cps,mul_cps,List.length_replicate]
noncomputable def nmA (c:Int) (k:Nat):Str:=Txt.mul ⟨#[sgAt (c / 4 % 37)]⟩ ((0+(k:Int))+1)
noncomputable def nmB (f:Str) (at_ c:Int) (k:Nat):Str:=(Txt.slice f none (some at_)++⟨#[sgAt ((0+(k:Int)+c / 7) % 37)]⟩)++Txt.slice f (some at_) none
theorem nmA_names {c:Int} {n:Nat} (h:n<=37):Names ((List.range n).map (nmA c)) n:=by
 refine names_of (λ i j _ _ e=>?_) λ i hi=>?_
 ·have:=ix Str.length e
  unfold nmA at this;rw [rep_len,rep_len] at this;omega
 ·unfold nmA;rw [rep_len];omega
theorem nmB_names {f:Str} {at_ c:Int} {n:Nat} (h:n<=37) (hf:f.length<=60):Names ((List.range n).map (nmB f at_ c)) n:=by
 refine names_of (λ i j hi hj e=>?_) λ i hi=>?_
 ·have e1:=app_left (app_right e)
  have e2:sgAt ((0+(i:Int)+c / 7) % 37)=sgAt ((0+(j:Int)+c / 7) % 37):=by
   have:=ix (λ u:Str=>u.cps.toList) e1
   simpa using this
  obtain ⟨a1,a2⟩:=bQ (0+(i:Int)+c / 7) (show (0:Int)<37 by decide);obtain ⟨b1,b2⟩:=bQ (0+(j:Int)+c / 7) (show (0:Int)<37 by decide);have e3:=sgAt_inj _ (by omega) _ (by omega) e2;omega
 ·unfold nmB;have h1:=Txt.slice_le f none (some at_);have h2:=Txt.slice_le f (some at_) none;rw [PySem.strLen_append,PySem.strLen_append,one_len];omega
theorem gr (T:TX K mg a):FnB P w K mg base CX0 "_law_names" 1 ["_law_cell","_law_count"] (spNames K):=by
 refine T.d_law_names.ok sc_law_names (λ vs H Q E h=>?_) (λ f cdv A outer s H vs Q E hr h=>?_)
 ·obtain ⟨_,_,rfl,_⟩:=h;rfl
 ·obtain ⟨c,n,rfl,hn,k⟩:=h
  refine ⟨_,(ab (al (i:=2) sc_law_names.nd rfl (Or.inr rfl) pe_str)
   (ab (aL (ar cR (ao bv (pv 0) ag) ag (av _)) (ah (ap (b5 (xs:=["_law_k"]) (rest:=["_law_cell","_law_signs"]) rfl (dH rfl T.z_range (aa (pv 1) ad))
   (λ pins fp C' s' H'=>(au (i:=0) (show (["_law_k","_law_cell","_law_signs"]:List Str).Nodup by decide +kernel) rfl (Or.inl rfl))) (λ pins fp C' s' H'=>c8)
   (λ pins fp C' s' H'=>(ao op_rep_str (aw ix_str (pv 2) (ao bv (ao ci (pv 1) ag) ag) (λ _ _=>rfl)) (ao bO (pv 0) ag)))
   (Clos.many (ys:=["_law_signs","_law_cell"]) rfl ⟨rfl,rfl,True.intro⟩ rfl (by decide +kernel)) (Reads.many (ys:=["_law_cell","_law_signs"]) (js:=[0,2]) ⟨⟨rfl,rfl,rfl⟩,⟨rfl,rfl,rfl⟩,True.intro⟩)))) aA)
   (ab (al (i:=3) sc_law_names.nd rfl (Or.inr rfl) (ao op_rep_str (aw ix_str (pv 2) (ao bv (ao ci (pv 0) ag) ag) (λ _ _=>rfl)) (aw aY (a6 (aa ag (aa ag (aa ag (aa ag ad))))) (ao bv (ao ci (pv 0) ag) ag) (λ _ _=>rfl))))
   (ab (al (i:=4) sc_law_names.nd rfl (Or.inr rfl) (ao bv (ao ci (pv 0) ag) (ao bO (aD call_len_str (by rfl) T.z_len im (aa (pv 3) ad)) ag)))
   (ah (ap (b5 (xs:=["_law_k"]) (rest:=["_law_at","_law_cell","_law_fill","_law_signs"]) rfl (dH rfl T.z_range (aa (pv 1) ad))
   (λ pins fp C' s' H'=>(au (i:=0) (show (["_law_k","_law_at","_law_cell","_law_fill","_law_signs"]:List Str).Nodup by decide +kernel) rfl (Or.inl rfl))) (λ pins fp C' s' H'=>c8)
   (λ pins fp C' s' H'=>(ao op_add_str (ao op_add_str (pe_slice sl_str (pv 3) po_none (po_some (pv 1))) (aw ix_str (pv 4) (ao bv (ao bO (pv 0) (ao ci (pv 2) ag)) ag) (λ _ _=>rfl))) (pe_slice sl_str (pv 3) (po_some (pv 1)) po_none)))
   (Clos.many (ys:=["_law_signs","_law_fill","_law_cell","_law_at"]) rfl ⟨rfl,rfl,rfl,rfl,True.intro⟩ rfl (by decide +kernel)) (Reads.many (ys:=["_law_at","_law_cell","_law_fill","_law_signs"]) (js:=[4,0,3,2]) ⟨⟨rfl,rfl,rfl⟩,⟨rfl,rfl,rfl⟩,⟨rfl,rfl,rfl⟩,⟨rfl,rfl,rfl⟩,True.intro⟩)))))))),?_⟩
  try dsimp only [aI,Cx.nox,Cx.wish]
  obtain ⟨p1,p2⟩:=bQ (c / 4) (show (0:Int)<37 by decide);walk_at "rd"
  refine ifV (λ h2=>?_) (λ h2=>?_)
  ·refine ⟨_,rfl,(n:Int),rfl,by omega,by omega,λ l nl=>?_⟩;refine compG_range (λ i H2=>i<=n/\Same H H2/\H2 l=some (.lst (((List.range i).map (nmA c)).map V.str))) ⟨gR _,aB nl,ae⟩ ?_ ?_
   ·rintro i H2 hi ⟨_,s2,h2⟩;refine g1 ⟨⟨[_],rfl,rfl⟩,yes ?_⟩;have hi':i<n:=by simpa using hi
    walk_at "rd"
    refine ⟨by rw [PySem.sizeLine_eq];decide,sgAt_some p1 p2,?_⟩;walk_at "rd"
    refine ⟨show (0+(i:Int)+1).natAbs<1000 by omega,?_⟩;refine ⟨_,h2,aq (by rw [gG,gG,List.length_range];omega),cy (by simpa using hi) ⟨hi',aC nl s2,?_⟩⟩;rw [ae,take_range,gM];rfl
   ·rintro H2 ⟨_,s2,h2⟩;exact k l H2 _ nl s2 h2 (by simpa using nmA_names (c:=c) hn)
  ·obtain ⟨q0,q1⟩:=bQ (c / 148) (show (0:Int)<4 by decide);walk_at "rd"
   refine ⟨by rw [PySem.sizeLine_eq];decide,sgAt_some p1 p2,zL4,λ z nz=>?_⟩;obtain ⟨H1,zq,sz,hz⟩:=uG (o:=.lst [.int 0,.int 1,.int 3,.int 59]) nz;rw [zq]
   have pick:∃ m:Int,atI [V.int 0,.int 1,.int 3,.int 59] (c / 148 % 4)=some (.int m)/\0<=m/\m<=59:=by
    obtain ⟨j,hj⟩:=iR q0;rw [hj] at q1 ⊢
    have:j=0∨j=1∨j=2∨j=3:=by omega
    rcases this with rfl | rfl | rfl | rfl
    ·exact ⟨0,rfl,by decide,by decide⟩
    ·exact ⟨1,rfl,by decide,by decide⟩
    ·exact ⟨3,rfl,by decide,by decide⟩
    ·exact ⟨59,rfl,by decide,by decide⟩
   obtain ⟨m,hm,m0,m1⟩:=pick;walk_at "rd"
   refine ⟨z,_,_,_,rfl,rfl,SqL.of hz,hm,?_⟩;walk_at "rd"
   refine ⟨show m.natAbs<1000 by omega,?_⟩;have fl:=rep_len (sgAt (c / 4 % 37)) m;generalize Txt.mul ⟨#[sgAt (c / 4 % 37)]⟩ m=fill at fl ⊢;have fl2:fill.length<=60:=by omega
   walk_at "rd"
   refine ⟨fb (by omega),?_⟩;walk_at "rd"
   refine ⟨show (0:Int)<(fill.length:Int)+1 by omega,?_⟩;refine ⟨_,rfl,(n:Int),rfl,by omega,by omega,λ l nl=>?_⟩;refine compG_range (λ i H2=>i<=n/\Same H1 H2/\H2 l=some (.lst (((List.range i).map (nmB fill (c / 592 % ((fill.length:Int)+1)) c)).map V.str))) ⟨gR _,aB nl,ae⟩ ?_ ?_
   ·rintro i H2 hi ⟨_,s2,h2⟩;refine g1 ⟨⟨[_],rfl,rfl⟩,yes ?_⟩;have hi':i<n:=by simpa using hi
    obtain ⟨r1,r2⟩:=bQ (0+(i:Int)+c / 7) (show (0:Int)<37 by decide);have l1:=Txt.slice_le fill none (some (c / 592 % ((fill.length:Int)+1)));have l2:=Txt.slice_le fill (some (c / 592 % ((fill.length:Int)+1))) none;refine ⟨_,rfl,_,rfl,_,rfl,fill,rfl,fb (by omega),?_⟩;walk_at "rd"
    refine ⟨by rw [PySem.sizeLine_eq];decide,sgAt_some r1 r2,?_⟩;walk_at "rd"
    refine ⟨by rw [one_len];exact fb (by omega),?_⟩;walk_at "rd"
    refine ⟨fb (by omega),?_⟩;walk_at "rd"
    refine ⟨by rw [PySem.strLen_append,one_len];exact fb (by omega),?_⟩;refine ⟨_,h2,aq (by rw [gG,gG,List.length_range];omega),cy (by simpa using hi) ⟨hi',aC nl s2,?_⟩⟩;rw [ae,take_range,gM];rfl
   ·rintro H2 ⟨_,s2,h2⟩;exact k l H2 _ (sz.free nl) (sz.trans s2) h2 (by simpa using nmB_names (c:=c) hn fl2)
structure GB (t b:Int):Prop where
 t0:1<=t
 t1:t<=10 ^ 20
 b0:1<=b
 b1:b<=10 ^ 15
structure WR where
 nm:Str
 st:Str
 go:Str
 t:Int
 b:Int
 k:Int
noncomputable def WR.d (r:WR):WD:=if r.t=r.b/\r.k=0 then ⟨r.nm,r.st,r.go,.way,0⟩ else if r.t<=r.b/\r.k=1 then ⟨r.nm,r.st,r.go,.lea,Rat.divInt (r.b-r.t) r.b⟩ else ⟨r.nm,r.st,r.go,.gro,Rat.divInt r.t r.b⟩
theorem WR.d_way {r:WR} (h:r.t=r.b/\r.k=0):r.d=⟨r.nm,r.st,r.go,.way,0⟩:=if_pos h
theorem WR.d_lea {r:WR} (h:¬ (r.t=r.b/\r.k=0)) (h2:r.t<=r.b/\r.k=1):r.d=⟨r.nm,r.st,r.go,.lea,Rat.divInt (r.b-r.t) r.b⟩:=(if_neg h).trans (if_pos h2)
theorem WR.d_gro {r:WR} (h:¬ (r.t=r.b/\r.k=0)) (h2:¬ (r.t<=r.b/\r.k=1)):r.d=⟨r.nm,r.st,r.go,.gro,Rat.divInt r.t r.b⟩:=(if_neg h).trans (if_neg h2)
theorem WR.d_nm (r:WR):r.d.nm=r.nm:=by unfold WR.d;split <;> (try split) <;> rfl
theorem WR.d_st (r:WR):r.d.st=r.st:=by unfold WR.d;split <;> (try split) <;> rfl
theorem WR.d_go (r:WR):r.d.go=r.go:=by unfold WR.d;split <;> (try split) <;> rfl
theorem gC {b:Int} (h:b≠0):Rat.divInt b b=1:=by
 rw [show (1:Rat)=Rat.divInt 1 1 from rfl,iY h (by decide)];omega
theorem WR.d_gain {r:WR} (h:GB r.t r.b):aG r.d.kd r.d.x=Rat.divInt r.t r.b:=by
 have hb:r.b≠0:=by have:=h.b0;omega
 unfold WR.d
 split
 ·rename_i e;rw [e.1,gC hb];rfl
 ·split
  ·show 1-Rat.divInt (r.b-r.t) r.b=_;rw [show (1:Rat)=Rat.divInt r.b r.b from (gC hb).symm,Rat.divInt_sub_divInt _ _ hb hb,iY (Int.mul_ne_zero hb hb) hb];grind
  ·rfl
theorem lt_one {n d:Int} (hd:0<d) (h:n<d):Rat.divInt n d<1:=by
 rw [show (1:Rat)=Rat.divInt 1 1 from rfl,lt_div hd (by decide)];omega
theorem nn_num {n d:Int} (hd:0<d) (h:0<=n):0<=(Rat.divInt n d).num:=Rat.num_nonneg.mpr ((fc n hd).mpr h)
theorem pos_num {n d:Int} (hd:0<d) (h:0<n):0<(Rat.divInt n d).num:=by
 have h1:=nn_num hd (Int.le_of_lt h)
 have h2:(Rat.divInt n d).num≠0:=λ e=>by
  have h3:=Rat.num_divInt_den (Rat.divInt n d);rw [e,Rat.zero_divInt] at h3
  have:=(iY (show (1:Int)≠0 by decide) (show d≠0 by omega)).mp (show Rat.divInt 0 1=Rat.divInt n d from by rw [<- h3,Rat.zero_divInt])
  omega
 omega
theorem WR.d_sm {r:WR} (h:GB r.t r.b):SmR r.d.x/\Bd 70 (aG r.d.kd r.d.x)/\r.d.kd≠.sto:=by
 obtain ⟨t0,t1,b0,b1⟩:=h;have p1:(10:Nat) ^ 20<=2 ^ 70:=by decide
 refine ⟨?_,?_,?_⟩
 ·unfold WR.d
  split
  ·exact ⟨Nat.two_pow_pos _,sm1⟩
  ·split
   ·exact (Bd.divInt (n:=70) (by omega) (by omega)).smr (by decide)
   ·exact (Bd.divInt (n:=70) (by omega) (by omega)).smr (by decide)
 ·rw [WR.d_gain ⟨t0,t1,b0,b1⟩];exact Bd.divInt (by omega) (by omega)
 ·unfold WR.d
  split
  ·nofun
  ·split <;> nofun
noncomputable def RowIs (H:Hp) (v:V) (r:WR):Prop:=∃ p g,v=.ref p/\H p=some (.tup [.str r.st,.str r.go,.ref g,.int r.k])/\H g=some (.tup [.int r.t,.int r.b])
theorem RowIs.mono {H H':Hp} {v:V} {r:WR} (h:RowIs H v r) (s:Same H H'):RowIs H' v r:=by
 obtain ⟨p,g,e,h1,h2⟩:=h
 exact ⟨p,g,e,s _ _ h1,s _ _ h2⟩
inductive IspLawWay (a:Ad) (vs:List V) (H:Hp) (Q:VK):Prop
 | mk (v:V) (r:WR) (h1:vs=[.str r.nm,v]) (h2:RowIs H v r) (h3:GB r.t r.b) (h4:r.st≠r.go) (h5:∀ p H',H p=none->Same H H'->WayIs a H' (.ref p) r.d->Q (.ref p) H'):IspLawWay a vs H Q
noncomputable def spLawWay (a:Ad):Sp:=λ vs H Q _=>IspLawWay a vs H Q
theorem ok_law_way (T:TX K mg a):FnB P w K mg base CX0 "_law_way" 7 ["_law_name","_law_parts"] (spLawWay a):=by
 refine T.d_law_way.ok sc_law_way (λ vs H Q E h=>?_) (λ f cdv A outer s H vs Q E hr h=>?_)
 ·obtain ⟨_,_,rfl,_⟩:=h;rfl
 ·obtain ⟨v,r,rfl,⟨p,g,rfl,hp,hg⟩,gb,ne,k⟩:=h
  refine ⟨_,(ab (al (i:=2) sc_law_way.nd rfl (Or.inl rfl) (aw az (pv 1) ag (λ _ _=>rfl)))
   (aP (aL (PW.pt (pw_and (ar cR (aw az (pv 2) ag (λ _ _=>rfl)) (aw az (pv 2) ag (λ _ _=>rfl)) (av _)) (e9 (ar cR (aw az (pv 1) ag (λ _ _=>rfl)) ag (av _))))) (ah (ap (pe_mk (mk_Way2 T) hr T.mg_Way ak (aa (pv 0) (aa (aw az (pv 1) ag (λ _ _=>rfl)) (aa (aw az (pv 1) ag (λ _ _=>rfl)) ad)))))) aA)
   (aP (aL (PW.pt (pw_and (ar op_le (aw az (pv 2) ag (λ _ _=>rfl)) (aw az (pv 2) ag (λ _ _=>rfl)) (av _)) (e9 (ar cR (aw az (pv 1) ag (λ _ _=>rfl)) ag (av _))))) (ah (ap (pe_mk (mk_Leaking2 T) hr T.mg_Leaking ak (aa (pv 0) (aa (aw az (pv 1) ag (λ _ _=>rfl)) (aa (aw az (pv 1) ag (λ _ _=>rfl)) (aa (bp (mk2 T) hr T.mg_Fraction ak (aa (ao op_sub (aw az (pv 2) ag (λ _ _=>rfl)) (aw az (pv 2) ag (λ _ _=>rfl))) (aa (aw az (pv 2) ag (λ _ _=>rfl)) ad))) ad))))))) aA)
   (ah (ap (pe_mk (mk_Growing2 T) hr T.mg_Growing ak (aa (pv 0) (aa (aw az (pv 1) ag (λ _ _=>rfl)) (aa (aw az (pv 1) ag (λ _ _=>rfl)) (aa (bp (mk2 T) hr T.mg_Fraction ak (aa (aw az (pv 2) ag (λ _ _=>rfl)) (aa (aw az (pv 2) ag (λ _ _=>rfl)) ad))) ad)))))))))),?_⟩
  try dsimp only [aI,Cx.nox,Cx.wish]
  generalize hk9:tCut _ _=k9
  revert k9
  refine keepG λ k9 hk9=>?_;have SP:SqT K H p _:=SqT.of hp;have SG:SqT K H g _:=SqT.of hg;have a0:atI [V.str r.st,.str r.go,.ref g,.int r.k] 0=some (.str r.st):=rfl;have a1:atI [V.str r.st,.str r.go,.ref g,.int r.k] 1=some (.str r.go):=rfl;have a2:atI [V.str r.st,.str r.go,.ref g,.int r.k] 2=some (.ref g):=rfl;have a3:atI [V.str r.st,.str r.go,.ref g,.int r.k] 3=some (.int r.k):=rfl;have g0:atI [V.int r.t,.int r.b] 0=some (.int r.t):=rfl;have g1:atI [V.int r.t,.int r.b] 1=some (.int r.b):=rfl;obtain ⟨t0,t1,b0,b1⟩:=id gb;have ed:∀ q H',WayIs a H' (.ref q) r.d->WayIs a H' (.ref q) r.d:=λ _ _ h=>h;refine ⟨_,rfl,p,_,_,_,rfl,rfl,SP,a2,?_⟩;subst hk9;refine cZ (λ σ' H'=>σ'=[some (.str r.nm),some (.ref p),some (.ref g)]/\H'=H/\¬ (r.t=r.b/\r.k=0)) ?_ ?_
  ·walk_at "rd"
   refine ifV (λ e1=>?_) (λ e1=>?_)
   ·walk_at "rd"
    refine ifV (λ e2=>?_) (λ e2=>?_)
    ·refine ⟨_,rfl,_,rfl,p,_,_,_,rfl,rfl,SP,a0,_,rfl,p,_,_,_,rfl,rfl,SP,a1,?_⟩;refine mkW (x:=0) T ne (.inl rfl) λ q H' vc' q' nq ss W co=>k q H' nq ss (by rw [WR.d_way ⟨e1,e2⟩];exact ⟨q,_,_,q',rfl,W,by nofun⟩)
    ·exact ⟨rfl,rfl,λ z=>e2 z.2⟩
   ·exact ⟨rfl,rfl,λ z=>e1 z.1⟩
  rintro zU hzU σ' H' ⟨rfl,rfl,n1⟩;subst hzU;refine ⟨λ σ' H''=>σ'=[some (.str r.nm),some (.ref p),some (.ref g)]/\H''=H'/\¬ (r.t<=r.b/\r.k=1),?_,?_⟩
  ·walk_at "rd"
   refine ifB (λ e1=>?_) (λ e1=>?_)
   ·walk_at "rd"
    refine ifV (λ e2=>?_) (λ e2=>?_)
    ·refine ⟨_,rfl,_,rfl,p,_,_,_,rfl,rfl,SP,a0,_,rfl,p,_,_,_,rfl,rfl,SP,a1,?_⟩;walk_at "rd"
     refine ⟨by omega,(Sm.of_le (n:=70) (by omega) (by decide)),λ q H1 nq s1 f1=>?_⟩;refine mkL T ne f1 ⟨nn_num (by omega) (by omega),lt_one (by omega) (by omega),(Bd.divInt (n:=70) (by omega) (by omega)).smr (by decide)⟩ (.inl rfl) λ q2 H2 vc' q' nq2 ss W co=>k q2 H2 (s1.free nq2) (s1.trans ss) (by rw [WR.d_lea n1 ⟨e1,e2⟩];exact ⟨q2,_,_,q',rfl,W,by nofun⟩)
    ·exact ⟨rfl,rfl,λ z=>e2 z.2⟩
   ·exact ⟨rfl,rfl,λ z=>e1 z.1⟩
  rintro σ' H'' ⟨rfl,rfl,n2⟩;refine ⟨_,rfl,_,rfl,p,_,_,_,rfl,rfl,SP,a0,_,rfl,p,_,_,_,rfl,rfl,SP,a1,?_⟩;walk_at "rd"
  refine ⟨by omega,(Sm.of_le (n:=70) (by omega) (by decide)),λ q H1 nq s1 f1=>?_⟩;refine mkG T ne f1 (pos_num (by omega) (by omega)) (.inl rfl) λ q2 H2 vc' q' nq2 ss W co=>k q2 H2 (s1.free nq2) (s1.trans ss) (by rw [WR.d_gro n1 n2];exact ⟨q2,_,_,q',rfl,W,by nofun⟩)
noncomputable def DueIs (H:Hp) (v:V) (c:Int × Int):Prop:=∃ t,v=.ref t/\H t=some (.tup [.int c.1,.int c.2])
theorem DueIs.mono {H H':Hp} {v:V} {c:Int × Int} (h:DueIs H v c) (s:Same H H'):DueIs H' v c:=by
 obtain ⟨t,e,f⟩:=h
 exact ⟨t,e,s _ _ f⟩
theorem DueIs.keep {H H':Hp} {v:V} {c:Int × Int} (h:DueIs H v c) (s:KeepD H H'):DueIs H' v c:=let ⟨t,e,f⟩:=h;⟨t,e,s _ _ f (by intro _ z;cases z) (by intro _ _ z;cases z)⟩
inductive IspPlus (vs:List V) (H:Hp) (Q:VK):Prop
 | mk (p q:Addr) (n d m e:Int) (h1:vs=[.ref p,.ref q]) (h2:H p=some (.tup [.int n,.int d])) (h3:H q=some (.tup [.int m,.int e])) (h4:Sm n) (h5:Sm d) (h6:Sm m) (h7:Sm e) (h8:∀ r,H r=none->Q (.ref r) (upd H r (.tup [.int (n*e+m*d),.int (d*e)]))):IspPlus vs H Q
noncomputable def spPlus (K:W.Frag):Sp:=λ vs H Q _=>IspPlus vs H Q
theorem ok_law_plus (T:TX K mg a):FnB P w K mg base CX0 "_law_plus" 1 ["_law_one","_law_other"] (spPlus K):=by
 refine T.d_law_plus.ok sc_law_plus (λ vs H Q E h=>?_) (λ f cdv A outer s H vs Q E hr h=>?_)
 ·obtain ⟨_,_,_,_,_,_,rfl,_⟩:=h;rfl
 ·obtain ⟨p,q,n,d,m,e,rfl,hp,hq,sn,sd,sm,se,k⟩:=h;refine ⟨_,(ah (ap (bK (aa (ao bO (ao ba (aw az (pv 0) ag (λ _ _=>rfl)) (aw az (pv 1) ag (λ _ _=>rfl))) (ao ba (aw az (pv 1) ag (λ _ _=>rfl)) (aw az (pv 0) ag (λ _ _=>rfl)))) (aa (ao ba (aw az (pv 0) ag (λ _ _=>rfl)) (aw az (pv 1) ag (λ _ _=>rfl))) ad))))),?_⟩;try dsimp only [aI,Cx.nox,Cx.wish]
  refine ⟨_,rfl,p,_,_,_,rfl,rfl,SqT.of hp,rfl,_,rfl,q,_,_,_,rfl,rfl,SqT.of hq,rfl,_,_,rfl,rfl,⟨sn,se⟩,?_⟩;refine ⟨_,rfl,q,_,_,_,rfl,rfl,SqT.of hq,rfl,_,rfl,p,_,_,_,rfl,rfl,SqT.of hp,rfl,_,_,rfl,rfl,⟨sm,sd⟩,_,_,rfl,rfl,?_⟩;refine ⟨_,rfl,p,_,_,_,rfl,rfl,SqT.of hp,rfl,_,rfl,q,_,_,_,rfl,rfl,SqT.of hq,rfl,_,_,rfl,rfl,⟨sd,se⟩,zL2,λ r nr=>k r nr⟩
noncomputable def spWhole:Sp:=λ vs H Q _=>∃ i:Int,vs=[.int i]/\Q (.bl true) H
theorem gq (T:TX K mg a):FnB P w K mg base CX0 "_law_whole" 1 ["_law_found"] spWhole:=by
 refine T.d_law_whole.ok sc_law_whole (λ vs H Q E h=>?_) (λ f cdv A outer s H vs Q E hr h=>?_)
 ·obtain ⟨i,rfl,_⟩:=h;rfl
 ·obtain ⟨i,rfl,k⟩:=h;refine ⟨_,(ah (ap (pe_and (aD (cY (c:=.type "int")) (by rfl) T.z_isinstance iG (aa (pv 0) (aa (gk (v:=.ty "int") (by rfl) T.z_int PyProof.Rows.boot_int rfl) ad))) (pe_one (pe_not (aD (cY (c:=.type "bool")) (by rfl) T.z_isinstance iG (aa (pv 0) (aa (gk (v:=.ty "bool") (by rfl) T.z_bool PyProof.Rows.boot_bool rfl) ad)))))))),?_⟩;try dsimp only [aI,Cx.nox,Cx.wish]
  refine ⟨_,rfl,_,_,_,_,rfl,(λ u h=>h),TyOf.int i,T.k_int_int,_,rfl,?_⟩;refine iteT ?_;refine ⟨_,rfl,_,_,_,_,rfl,(λ u h=>h),TyOf.int i,T.k_int_bool,_,rfl,?_⟩;exact k
inductive IspTold39 (a:Ad) (vs:List V) (H:Hp) (Q:VK):Prop
 | mk (p:Addr) (x:Rat) (h1:vs=[.ref p]) (h2:FrAt a.Fraction H p x) (h3:∀ t,H t=none->Q (.ref t) (upd H t (.tup [.int x.num,.int x.den]))):IspTold39 a vs H Q
noncomputable def spTold39 (a:Ad):Sp:=λ vs H Q _=>IspTold39 a vs H Q
theorem ok_law_told (T:TX K mg a):FnB P w K mg base CX0 "_law_told" 2 ["_law_found"] (spTold39 a):=by
 refine T.d_law_told.ok sc_law_told (λ vs H Q E h=>?_) (λ f cdv A outer s H vs Q E hr h=>?_)
 ·obtain ⟨_,_,rfl,_⟩:=h;rfl
 ·obtain ⟨p,x,rfl,hp,k⟩:=h
  refine ⟨_,(ab (aL (PW.pt (fG (dv (cv (aD (cY (c:=.ref a.Fraction)) (by rfl) T.z_isinstance iG (aa (pv 0) (aa (pe_glob (v:=.ref a.Fraction) (by rfl) T.mg_Fraction rfl) ad))))) (fG (dv (cv (ax (gq T) hr ak (aa (bL T.fr (pv 0)) ad)))) (eP (dv (cv (ax (gq T) hr ak (aa (bM T.fr (pv 0)) ad)))))))) (ah (ap (bK (aa ag (aa ag ad))))) aA)
   (ah (ap (bK (aa (bL T.fr (pv 0)) (aa (bM T.fr (pv 0)) ad)))))),?_⟩
  try dsimp only [aI,Cx.nox,Cx.wish]
  refine ⟨_,rfl,_,_,_,_,rfl,(λ u h=>h),FrAt.ty T.fr hp,T.k_Fraction_Fraction,_,rfl,iteF ?_⟩;walk_at "rd"
  exact ⟨zL2,λ t nt=>k t nt⟩
inductive IspFormed (a:Ad) (vs:List V) (H:Hp) (Q:VK):Prop
 | mk (v:V) (s:SD) (h1:vs=[v]) (h2:StIs a [] H v s) (h3:0<s.am) (h4:∀ H',Same H H'->Q (.bl true) H'):IspFormed a vs H Q
noncomputable def spFormed (a:Ad):Sp:=λ vs H Q _=>IspFormed a vs H Q
theorem ok_law_formed (T:TX K mg a):FnB P w K mg base CX0 "_law_formed" 3 ["_law_strand_here"] (spFormed a):=by
 refine T.d_law_formed.ok sc_law_formed (λ vs H Q E h=>?_) (λ f cdv A outer s H vs Q E hr h=>?_)
 ·obtain ⟨_,_,rfl,_⟩:=h;rfl
 ·obtain ⟨v,s,rfl,⟨u,l1,l2,l3,q,rfl,hu,h1,h2,h3,_,_,_,fq⟩,am,k⟩:=h
  refine ⟨_,(ab (aL (PW.pt (fG (dv (cv (aD (cY (c:=.type "tuple")) (by rfl) T.z_isinstance iG (aa (pv 0) (aa (gk (v:=.ty "tuple") (by rfl) T.z_tuple PyProof.Rows.boot_tuple rfl) ad))))) (eP (ar fI (aD aO (by rfl) T.z_len im (aa (pv 0) ad)) ag (av _))))) (ah (ap gl)) aA)
   (ab (aS gW rfl (dH rfl T.z_range (aa ag ad)) (au (i:=1) sc_law_formed.nd rfl (Or.inl rfl)) (ah (aL (dv (cv (aD (cY (c:=.type "list")) (by rfl) T.z_isinstance iG (aa (aw az (pv 0) (pv 1) (λ _ _=>rfl)) (aa (gk (v:=.ty "list") (by rfl) T.z_list iH rfl) ad))))) (ah (ap gl)) aA)))
   (ab (al (i:=2) sc_law_formed.nd rfl (Or.inl rfl) (ax (ok_law_told T) hr ak (aa (aw az (pv 0) ag (λ _ _=>rfl)) ad)))
   (ah (ap (pe_and (cD gm (aw az (pv 2) ag (λ _ _=>rfl)) ag (av _)) (pe_one (cD gm (aw az (pv 2) ag (λ _ _=>rfl)) ag (av _))))))))),?_⟩
  try dsimp only [aI,Cx.nox,Cx.wish]
  have SU:SqT K H u _:=SqT.of hu;have xp:=di s.am;refine ⟨_,rfl,_,_,_,_,rfl,(λ u h=>h),TyOf.tup hu,T.k_tuple_tuple,_,rfl,iteF ?_⟩;refine ⟨_,rfl,u,_,rfl,.inr SU,rfl,_,rfl,gB rfl ?_⟩;refine ⟨_,rfl,by decide,by decide,for_range (n:=3) (λ i σ H2=>H2=H/\∃ z1,σ=[some (.ref u),z1,none]) ⟨rfl,_,rfl⟩ ?_ ?_⟩
  ·rintro i σ H2 hi ⟨rfl,z1,rfl⟩
   obtain ⟨l,ts,hl,el⟩:∃ l ts,H2 l=some (.lst ts)/\atI [V.ref l1,.ref l2,.ref l3,.ref q] (0+(i:Int))=some (.ref l):=by
    match i,hi with
    | 0,_=>exact ⟨l1,_,h1,rfl⟩
    | 1,_=>exact ⟨l2,_,h2,rfl⟩
    | 2,_=>exact ⟨l3,_,h3,rfl⟩
   refine ⟨_,rfl,_,rfl,u,_,_,_,rfl,rfl,SU,el,_,_,_,_,rfl,(λ u h=>h),TyOf.lst hl,T.k_list_list,_,rfl,iteF ?_⟩;exact ⟨rfl,_,rfl⟩
  ·rintro σ H2 ⟨rfl,z1,rfl⟩;refine ⟨_,rfl,u,_,_,_,rfl,rfl,SU,rfl,q,s.am,rfl,fq,λ t nt=>?_⟩;obtain ⟨H3,zq,s1,ht⟩:=uG (o:=.tup [.int s.am.num,.int s.am.den]) nt;rw [zq];have ST:SqT K H3 t _:=SqT.of ht
   have np:0<s.am.num:=by
    have h0:0<=s.am.num:=Rat.num_nonneg.mpr (by grind)
    have hz:s.am.num≠0:=λ z=>by
     rw [Rat.num_eq_zero.mp z] at am;grind
    omega
   refine ⟨_,rfl,t,_,_,_,rfl,rfl,ST,rfl,_,_,rfl,rfl,_,rfl,eW (hU np) ?_⟩;refine ⟨_,rfl,t,_,_,_,rfl,rfl,ST,rfl,_,_,rfl,rfl,?_⟩;rw [hU (show (0:Int)<(s.am.den:Int) from xp)];exact k H3 s1
theorem val_at {κ:Type} [DecidableEq κ]:∀ {kvs:List (κ × V)} {i:Nat} {kv:κ × V},(kvs.map (·.1)).Nodup->kvs[i]?=some kv->bu kvs kv.1=some kv.2
 | [],_,_,_,e=>by simp at e
 | p::r,0,kv,_,e=>by
  simp at e;subst e;exact bB rfl
 | p::r,i+1,kv,nd,e=>by
  have e:r[i]?=some kv:=by simpa using e
  obtain ⟨h1,h2⟩:=iC.mp (show (p.1::r.map (·.1)).Nodup from nd);rw [bC λ z=>h1 (by rw [z];exact gL.mpr ⟨kv,gI e,rfl⟩)];exact val_at h2 e
theorem keys_nd {kvs:List (Key × V)} {rs:List WR} (hk:kvs.map (·.1)=rs.map (λ r=>Sum.inr r.nm)) (nd:(rs.map (·.nm)).Nodup):(kvs.map (·.1)).Nodup:=by
 rw [hk,show (λ r:WR=>(Sum.inr r.nm:Key))=(λ n=>(Sum.inr n:Key)) ∘ (λ r:WR=>r.nm) from rfl,<- iF];exact nd.map _ (λ u v h e=>h (Sum.inr.inj e))
noncomputable def RowsAt (H:Hp) (d:Addr) (rs:List WR):Prop:=∃ kvs,H d=some (.dK kvs)/\kvs.map (·.1)=rs.map (λ r=>Sum.inr r.nm)/\RowAt RowIs H (kvs.map (·.2)) rs
theorem RowsAt.mono {H H':Hp} {d:Addr} {rs:List WR} (h:RowsAt H d rs) (s:Same H H'):RowsAt H' d rs:=by
 obtain ⟨kvs,h1,h2,h3⟩:=h
 exact ⟨kvs,s _ _ h1,h2,h3.mono λ v x z=>z.mono s⟩
structure RGood (sp:List Str) (r:WR):Prop where
 gb:GB r.t r.b
 ne:r.st≠r.go
 i1:r.st∈sp
 i2:r.go∈sp
structure RsOk (sp:List Str) (rs:List WR):Prop where
 nd:(rs.map (·.nm)).Nodup
 len:rs.length<=24
 all:∀ r∈rs,RGood sp r
theorem RowIs.put {H:Hp} {v:V} {r:WR} {d:Addr} {o o':HO} (h:RowIs H v r) (hd:H d=some o) (ho:∀ xs,o≠.tup xs):RowIs (upd H d o') v r:=by
 obtain ⟨p,g,e,h1,h2⟩:=h;refine ⟨p,g,e,?_,?_⟩
 ·rw [af (aF h1 hd (ho _).symm)];exact h1
 ·rw [af (aF h2 hd (ho _).symm)];exact h2
theorem at_str {sp:List Str} {j:Nat} {x:Str} (h:sp[j]?=some x):atI (sp.map V.str) (j:Int)=some (.str x):=atI_nat (by rw [gK,h];rfl)
theorem ne_idx {sp:List Str} {i j:Nat} {x y:Str} (nd:sp.Nodup) (hi:sp[i]?=some x) (hj:sp[j]?=some y) (h:i≠j):x≠y:=λ e=>by
 subst e;exact h ((i6 (gH.mp hi).1 nd).mp (hi.trans hj.symm))
theorem go_ne {n a b:Int} (n2:2<=n) (a0:0<=a) (a1:a<n) (b0:0<=b) (b1:b<n-1):0<=(a+1+b) % n/\(a+1+b) % n<n/\(a+1+b) % n≠a:=by
 by_cases h:a+1+b<n
 ·rw [Int.emod_eq_of_lt (by omega) h];omega
 ·have e:(a+1+b) % n=a+1+b-n:=by
   rw [<- Int.emod_eq_of_lt (show 0<=a+1+b-n by omega) (show a+1+b-n<n by omega)];simp
  rw [e];omega
structure W39 (sp:List Str) (rs:List WR):Prop extends RsOk sp rs where
 few:rs.length<=16
 one:∀ r∈rs,r.t=1/\r.b=1
inductive IspWays39 (K:W.Frag) (vs:List V) (H:Hp) (Q:VK):Prop
 | mk (l ls:Addr) (ns:List Int) (sp:List Str) (n m:Nat) (h1:vs=[.ref l,.ref ls,.int m]) (h2:SqL K H l (ns.map V.int)) (h3:SqL K H ls (sp.map V.str)) (h4:Names sp n) (h5:2<=n) (h6:n<=6) (h7:m<=16) (h8:∀ d H' rs,H d=none->Same H H'->RowsAt H' d rs->W39 sp rs->Q (.ref d) H'):IspWays39 K vs H Q
noncomputable def spWays39 (K:W.Frag):Sp:=λ vs H Q _=>IspWays39 K vs H Q
theorem getS' {xs:List Str} {i:Nat} (h:i<xs.length):xs[i]?=some (xs.getD i ""):=by rw [List.getD_eq_getElem?_getD,gX h];rfl
theorem ok_law_ways (T:TX K mg a):FnB P w K mg base CX0 "_law_ways" 2 ["_law_script","_law_spots","_law_many"] (spWays39 K):=by
 refine T.d_law_ways.ok sc_law_ways (λ vs H Q E h=>?_) (λ f cdv A outer s H vs Q E hr h=>?_)
 ·obtain ⟨_,_,_,_,_,_,rfl,_⟩:=h;rfl
 ·obtain ⟨l,ls,ns,sp,n,m,rfl,hS,hL,hN,n2,n6,m16,k⟩:=h
  refine ⟨_,(ab (al (i:=3) sc_law_ways.nd rfl (Or.inl rfl) (ax (gr T) hr ak (aa (ax (bg T) hr ak (aa (pv 0) (aa ag ad))) (aa (pv 2) ad))))
   (ab (al (i:=4) sc_law_ways.nd rfl (Or.inl rfl) (aD aO (by rfl) T.z_len im (aa (pv 1) ad)))
   (ab (al (i:=5) sc_law_ways.nd rfl (Or.inl rfl) bf)
   (ab (aS gW rfl (dH rfl T.z_range (aa (pv 2) ad)) (au (i:=6) sc_law_ways.nd rfl (Or.inl rfl)) (ab (al (i:=7) sc_law_ways.nd rfl (Or.inl rfl) (ax (bg T) hr ak (aa (pv 0) (aa (ao bO ag (ao ba ag (pv 6))) ad))))
   (ab (al (i:=8) sc_law_ways.nd rfl (Or.inl rfl) (ao bv (pv 7) (pv 4)))
   (ab (al (i:=9) sc_law_ways.nd rfl (Or.inl rfl) (ao bv (ao bO (ao bO (pv 8) ag) (ao bv (ao a8 (pv 7) (pv 4)) (ao op_sub (pv 4) ag))) (pv 4)))
   (ah (bo (aH hr) (pv 5) (aw aY (pv 3) (pv 6) (λ _ _=>rfl)) (bK (aa (aw aY (pv 1) (pv 8) (λ _ _=>rfl)) (aa (aw aY (pv 1) (pv 9) (λ _ _=>rfl)) (aa (bK (aa ag (aa ag ad))) (aa (ao bv (ax (bg T) hr ak (aa (pv 0) (aa (ao bO ag (ao ba ag (pv 6))) ad))) ag) ad))))) rfl))))))
   (ah (ap (pv 5))))))),?_⟩
  try dsimp only [aI,Cx.nox,Cx.wish]
  refine ⟨_,rfl,l,ns,2,rfl,hS,by decide,by decide,λ c=>?_⟩;refine ⟨_,rfl,c,m,rfl,by omega,λ ll H1 lb nll s1 hll hM=>?_⟩;refine ⟨_,rfl,ls,_,rfl,.inl (s1.seq hL),?_⟩;rw [gG,hN.len];intro d nd;obtain ⟨H2,zq,s2,h2⟩:=uG (o:=.dK []) nd;rw [zq];have s12:=s1.trans s2;have hll2:=s2 _ _ hll;have np:(0:Int)<n:=by omega
  have nd0:H d=none:=s1.free nd;refine ⟨_,rfl,_,rfl,by omega,by omega,?_⟩;refine for_range (n:=(m:Int).toNat) (λ i σ H3=>i<=m/\∃ z6 z7 z8 z9 rs,σ=[some (.ref l),some (.ref ls),some (.int m),some (.ref ll),some (.int n),some (.ref d),z6,z7,z8,z9]/\Same H1 H3/\RowsAt H3 d rs/\rs.map (·.nm)=lb.take i/\∀ r∈rs,RGood sp r/\r.t=1/\r.b=1) ⟨gR _,none,none,none,none,[],rfl,s2,⟨[],h2,rfl,RowAt.nil⟩,by rw [i7];rfl,λ r hr=>absurd hr g9⟩ ?_ ?_
  ·rintro i σ H3 hi ⟨_,z6,z7,z8,z9,rs,rfl,s3,hrs,ers,good⟩;have hi':i<m:=by omega
   rw [Int.zero_add];have s13:=s1.trans s3;refine ⟨_,rfl,_,rfl,_,_,rfl,rfl,⟨Sm.of_le (n:=10) (by decide) (by decide),Sm.of_le (n:=10) (by omega) (by decide)⟩,_,_,rfl,rfl,l,ns,_,rfl,s13.seq hS,by omega,by omega,λ c1=>?_⟩;refine ⟨_,rfl,_,rfl,_,_,rfl,rfl,np,?_⟩;refine ⟨_,rfl,_,_,rfl,rfl,_,rfl,_,rfl,_,_,rfl,rfl,⟨by omega,ic (show (n:Int).natAbs<2 ^ 10 by omega) (Nat.pow_le_pow_right (by decide) (by decide))⟩,_,rfl,_,_,rfl,rfl,_,_,rfl,rfl,by omega,_,_,rfl,rfl,_,rfl,_,_,rfl,rfl,np,?_⟩;obtain ⟨a1,a2⟩:=bQ c1 np;obtain ⟨b1,b2⟩:=bQ (c1.fdiv n) (show (0:Int)<(n:Int)-1 by omega);obtain ⟨g1',g2,g3⟩:=go_ne (n:=n) (by omega) a1 a2 b1 b2;obtain ⟨j1,e1⟩:=iR a1;obtain ⟨j2,e2⟩:=iR g1';rw [e2] at g2 g3;rw [e1] at a2 g3;have exs:=getS' (xs:=sp) (i:=j1) (by rw [hN.len];omega);have exg:=getS' (xs:=sp) (i:=j2) (by rw [hN.len];omega);have elb:=getS' (xs:=lb) (i:=i) (by rw [hM.len];omega);generalize sp.getD j1 ""=st at exs;generalize sp.getD j2 ""=go at exg;generalize lb.getD i ""=nm at elb;refine ⟨_,rfl,_,rfl,ls,_,_,.str st,rfl,rfl,s13.seq hL,?_,_,rfl,_,rfl,ls,_,_,.str go,rfl,rfl,s13.seq hL,?_,zL2,λ g ng=>?_⟩
   ·show atI (sp.map V.str) (c1 % (n:Int))=some (.str st);rw [e1];exact at_str exs
   ·show atI (sp.map V.str) ((c1 % (n:Int)+1+c1.fdiv n % ((n:Int)-1)) % (n:Int))=some (.str go);rw [e2];exact at_str exg
   obtain ⟨H4,zq,s4,hg4⟩:=uG (o:=.tup [.int 1,.int 1]) ng;rw [zq];have s14:=s13.trans s4;refine ⟨_,rfl,_,rfl,_,_,rfl,rfl,⟨Sm.of_le (n:=10) (by decide) (by decide),Sm.of_le (n:=10) (by omega) (by decide)⟩,_,_,rfl,rfl,l,ns,_,rfl,s14.seq hS,by omega,by omega,λ c2=>?_⟩;refine ⟨_,_,rfl,rfl,zI3,zL4,λ tp ntp=>?_⟩;obtain ⟨H5,zq,s5,htp5⟩:=uG (o:=.tup [.str st,.str go,.ref g,.int (c2 % 3)]) ntp;rw [zq];obtain ⟨kvs,hd3,hk,hv⟩:=hrs.mono (s4.trans s5);have hr5:RowIs H5 (.ref tp) ⟨nm,st,go,1,1,c2 % 3⟩:=⟨tp,g,rfl,htp5,s5 _ _ hg4⟩
   have lrs:rs.length=i:=by
    have:=ix List.length ers
    rw [gG,gS,hM.len] at this;omega
   have lkv:kvs.length=i:=by
    have:=ix List.length hk
    rw [gG,gG] at this;omega
   have nk:¬ (Sum.inr nm:Key)∈kvs.map (·.1):=by
    rw [hk];intro z;obtain ⟨r,hr,e⟩:=gL.mp z
    have:r.nm∈lb.take i:=by rw [<- ers];exact gL.mpr ⟨r,hr,rfl⟩
    rw [Sum.inr.inj e] at this;exact (bD hM.nd elb).2 this
   refine ⟨_,rfl,_,rfl,_,rfl,ll,_,_,_,rfl,rfl,SqL.of (s5 _ _ (s4 _ _ (s3 _ _ hll))),at_str elb,d,_,rfl,DPut.k (k:=Sum.inr nm) hd3 (aq (by omega)),?_⟩;rw [gi _ (eI nk)];refine ⟨hi',_,_,_,_,rs++[⟨nm,st,go,1,1,c2 % 3⟩],rfl,aC nd (s3.trans (s4.trans s5)),⟨kvs++[(Sum.inr nm,.ref tp)],ae,?_,?_⟩,?_,λ r hr=>?_⟩
   ·rw [gM,hk,gM];rfl
   ·rw [gM];exact RowAt.snoc (hv.mono λ v x z=>z.put hd3 (by intro _ z;cases z)) (hr5.put hd3 (by intro _ z;cases z))
   ·rw [gM,ers,(bD hM.nd elb).1];rfl
   ·rcases g7.mp hr with z | z
    ·exact good r z
    ·rw [gN.mp z];exact ⟨⟨show GB 1 1 from ⟨by decide,by decide,by decide,by decide⟩,ne_idx hN.nd exs exg (by omega),gI exs,gI exg⟩,rfl,rfl⟩
  ·rintro σ H3 ⟨_,z6,z7,z8,z9,rs,rfl,s3,hrs,ers,good⟩
   have lr:rs.length<=m:=by
    have:=ix List.length ers
    rw [gG,gS] at this;omega
   refine ⟨_,rfl,k d H3 rs nd0 (s1.trans s3) hrs ⟨⟨?_,by omega,λ r hr=>(good r hr).1⟩,by omega,λ r hr=>(good r hr).2⟩⟩;rw [ers];exact hM.nd.sublist (List.take_sublist _ _)
theorem RowsAt.get {H:Hp} {d:Addr} {rs:List WR} {r:WR} (h:RowsAt H d rs) (nd:(rs.map (·.nm)).Nodup) (hr:r∈rs):∃ v,DGet H d (.str r.nm) (some v)/\RowIs H v r:=by
 obtain ⟨kvs,h1,h2,h3⟩:=h;obtain ⟨i,hi⟩:=iz.mp hr;obtain ⟨v,hv,hw⟩:=h3.get' hi;rw [gK] at hv
 cases e:kvs[i]? with
 | none=>rw [e] at hv;cases hv
 | some kv=>
  rw [e] at hv;have e2:kv.2=v:=hZ hv
  have e1:kv.1=Sum.inr r.nm:=by
   have g:=ix (λ l=>l[i]?) h2;simp only [gK,e,hi,iD] at g;exact hZ g
  refine ⟨v,.inl ⟨kvs,Sum.inr r.nm,.inl h1,rfl,?_⟩,hw⟩;rw [<- e1,<- e2];exact (val_at (keys_nd h2 nd) e).symm
noncomputable def cu (sp:List Str):List (Str × Rat):=sp.map λ x=>(x,(0:Rat))
theorem dg (sp:List Str):(cu sp).map (·.1)=sp:=by unfold cu;rw [iF];exact List.map_id' sp
inductive IspLawNet (K:W.Frag) (a:Ad) (vs:List V) (H:Hp) (Q:VK):Prop
 | mk (ls d:Addr) (sp:List Str) (rs:List WR) (h1:vs=[.ref ls,.ref d]) (h2:SqL K H ls (sp.map V.str)) (h3:sp.Nodup) (h4:sp.length<=12) (h5:RowsAt H d rs) (h6:RsOk sp rs) (h7:∀ p H',H p=none->Same H H'->NetAt a H' p (cu sp) (rs.map WR.d)->Q (.ref p) H'):IspLawNet K a vs H Q
noncomputable def spLawNet (K:W.Frag) (a:Ad):Sp:=λ vs H Q _=>IspLawNet K a vs H Q
theorem RsOk.net {sp:List Str} {rs:List WR} (h:RsOk sp rs) (nd:sp.Nodup) (hl:sp.length<=12):NetOk (cu sp) (rs.map WR.d):=by
 refine ⟨by rw [dg];exact nd,by unfold cu;rw [gG];exact hl,?_,by rw [gG];exact h.len,λ d hd=>?_⟩
 ·rw [iF,show ((λ x:WD=>x.nm) ∘ WR.d)=(λ r:WR=>r.nm) from funext λ r=>WR.d_nm r];exact h.nd
 ·obtain ⟨r,hr,rfl⟩:=gL.mp hd;rw [dg,WR.d_st,WR.d_go];exact ⟨(h.all r hr).i1,(h.all r hr).i2⟩
theorem ok_law_net (T:TX K mg a):FnB P w K mg base CX0 "_law_net" 8 ["_law_spots","_law_ways_here"] (spLawNet K a):=by
 refine T.d_law_net.ok sc_law_net (λ vs H Q E h=>?_) (λ f cdv A outer s H vs Q E hr h=>?_)
 ·obtain ⟨_,_,_,_,rfl,_⟩:=h;rfl
 ·obtain ⟨ls,d,sp,rs,rfl,hS,nd,hl,hR,ok,k⟩:=h
  refine ⟨_,(ah (ap (pe_mk (mk_Net T) hr T.mg_Net ak (aa (b5 (xs:=["_law_spot"]) (rest:=[]) rfl (aZ (pv 0))
   (λ pins fp C' s' H'=>(au (i:=0) (show (["_law_spot"]:List Str).Nodup by decide +kernel) rfl (Or.inl rfl))) (λ pins fp C' s' H'=>c8)
   (λ pins fp C' s' H'=>(bK (aa (pv 0) (aa (bp (mk1 T) hr T.mg_Fraction ak (aa ag ad)) ad))))
   (Clos.none (by decide +kernel) (by decide +kernel)) (Reads.many (ys:=[]) (js:=[]) True.intro)) (aa (gj (b5 (xs:=["_law_name"]) (rest:=["_law_ways_here"]) rfl (c9 (pv 1))
   (λ pins fp C' s' H'=>(au (i:=0) (show (["_law_name","_law_ways_here"]:List Str).Nodup by decide +kernel) rfl (Or.inl rfl))) (λ pins fp C' s' H'=>c8)
   (λ pins fp C' s' H'=>(ax (ok_law_way T) hr ak (aa (pv 0) (aa (aU (aH hr) (pv 1) (pv 0) (λ _ _=>rfl)) ad))))
   (Clos.many (ys:=["_law_ways_here"]) rfl ⟨rfl,True.intro⟩ rfl (by decide +kernel)) (Reads.many (ys:=["_law_ways_here"]) (js:=[1]) ⟨⟨rfl,rfl,rfl⟩,True.intro⟩))) ad))))),?_⟩
  try dsimp only [aI,Cx.nox,Cx.wish]
  refine ⟨_,rfl,ls,rfl,⟨_,hS⟩,λ l1 n1=>?_⟩;refine dW (K:=K) (a:=ls) (xs:=sp.map V.str) (λ i H2=>i<=sp.length/\Same H H2/\∃ ts,H2 l1=some (.lst ts)/\RowAt (PlIs a) H2 ts (cu (sp.take i))) ⟨gR _,aB n1,[],ae,RowAt.nil⟩ (λ i H2 ⟨_,s2,_⟩=>s2.seq hS) ?_ ?_
  ·rintro i x H2 hx ⟨_,s2,ts,h2,hv⟩;rw [gK] at hx
   cases ex:sp[i]? with
   | none=>rw [ex] at hx;cases hx
   | some y=>
    rw [ex] at hx
    cases hx;have hi:=(gH.mp ex).1;refine g1 ⟨⟨[_],rfl,rfl⟩,yes ?_⟩;refine ⟨_,rfl,0,1,rfl,by decide,sm1,λ q H3 nq s3 f3=>?_⟩;refine ⟨zL2,λ t nt=>?_⟩;obtain ⟨H4,zq,s4,ht⟩:=uG (o:=.tup [.str y,.ref q]) nt;rw [zq];have h4:=s4 _ _ (s3 _ _ h2);have lts:ts.length=i:=by rw [hv.1];unfold cu;rw [gG,gS];omega
    have keep:∀ v x,PlIs a H4 v x->PlIs a (upd H4 l1 (.lst (ts++[.ref t]))) v x:=λ v x ⟨t',q',e,h1,dq,f⟩=>⟨t',q',e,by rw [af (aF h1 h4 (by intro z;cases z))];exact h1,dq,by rw [af (aF f h4 (by intro z;cases z))];exact f⟩;refine ⟨_,h4,aq (by omega),cy (by rw [gG];exact hi) ⟨hi,aC n1 ((s2.trans s3).trans s4),_,ae,?_⟩⟩;rw [gQ,ex,gY];unfold cu;rw [gM];refine RowAt.snoc (hv.mono λ v x z=>keep v x (z.mono (s3.trans s4))) (keep _ _ ⟨t,q,rfl,ht,?_⟩);rw [Rat.zero_divInt] at f3;exact f3.mono s4
  ·rintro H2 ⟨_,s2,ts,h2,hv⟩;rw [gG,gP] at hv;obtain ⟨kvs,hd,hk,hw⟩:=hR.mono s2;refine ⟨d,.dK kvs,hd,(by intro o z e;cases e),?_⟩;refine ⟨_,rfl,d,kvs,rfl,hd,λ o l2 n2=>?_⟩;have hkl:kvs.length=rs.length:=by have:=ix List.length hk;rwa [gG,gG] at this
   have nd2:d≠l2:=λ z=>by rw [z,ae] at n2;cases n2
   have n2':H2 l2=none:=by rw [af nd2.symm] at n2;exact n2
   refine cX (a:=d) (o:=o) (kvs:=kvs) (λ i H3=>i<=rs.length/\H3 d=some (.frz o (.dK kvs))/\(∀ b ob,H2 b=some ob->b≠d->H3 b=some ob)/\∃ us,H3 l2=some (.lst us)/\RowAt (WayIs a) H3 us ((rs.take i).map WR.d))
    ⟨gR _,by rw [af nd2,ae],λ b ob e ne=>by rw [af (aj e n2'),af ne];exact e,[],ae,RowAt.nil⟩ (λ i H3 ⟨_,h,_⟩=>h) ?_ ?_
   ·rintro i kv H3 hkv ⟨_,hd3,k3,us,h3,hv3⟩;have hi:i<rs.length:=by rw [<- hkl];exact (gH.mp hkv).1
    obtain ⟨r,er⟩:∃ r,rs[i]?=some r:=⟨_,gX hi⟩
    have e1:kv.1=Sum.inr r.nm:=by
     have g:=ix (λ l=>l[i]?) hk;simp only [gK,hkv,er,iD] at g;exact hZ g
    have hrow:RowIs H2 kv.2 r:=hw.2 i kv.2 r (by rw [gK,hkv];rfl) er
    have hrow3:RowIs H3 kv.2 r:=by
     obtain ⟨p,g,e,x1,x2⟩:=hrow;exact ⟨p,g,e,k3 _ _ x1 (aF x1 hd (by intro z;cases z)),k3 _ _ x2 (aF x2 hd (by intro z;cases z))⟩
    refine g1 ⟨⟨[_],rfl,rfl⟩,yes ?_⟩;have ekv:kV kv.1=.str r.nm:=by rw [e1];rfl
    rw [ekv];have rg:=ok.all r (gI er)
    have hval:bu kvs (Sum.inr r.nm)=some kv.2:=by
     rw [<- e1];exact val_at (keys_nd hk ok.nd) hkv
    refine ⟨_,rfl,_,rfl,_,rfl,d,kv.2,rfl,.inl ⟨kvs,Sum.inr r.nm,.inr ⟨o,hd3⟩,rfl,hval.symm⟩,kv.2,r,rfl,hrow3,rg.gb,rg.ne,λ p H4 np s4 W=>?_⟩;have h4:=s4 _ _ h3;have lus:us.length=i:=by rw [hv3.1,gG,gS];omega
    refine ⟨_,h4,aq (by have:=ok.len;omega),cy (by rw [hkl];exact hi) ⟨hi,?_,λ b ob e ne=>?_,_,ae,?_⟩⟩
    ·rw [af nd2];exact s4 _ _ hd3
    ·rw [af (aj e n2')];exact s4 _ _ (k3 _ _ e ne)
    ·rw [gQ,er,gY,gM];exact RowAt.snoc (hv3.mono λ v x z=>(z.mono s4).lst h4) (W.lst h4)
   ·rintro H3 ⟨_,hd3,k3,us,h3,hv3⟩;rw [hkl,gP] at hv3;refine ⟨o,hd3,?_⟩
    have s23:Same H2 (upd H3 d (.dK kvs)):=λ b ob e=>by
     by_cases hb:b=d
     ·subst hb;rw [ae,<- hd,e]
     ·rw [af hb];exact k3 _ _ e hb
    have hl2:upd H3 d (.dK kvs) l2=some (.lst us):=by rw [af nd2.symm];exact h3
    have hW:RowAt (WayIs a) (upd H3 d (.dK kvs)) us (rs.map WR.d):=hv3.mono λ v x z=>z.keep (.put hd3 (by intro _ _ _ z;cases z));exact mkN (SqL.of (s23 _ _ h2)) (hv.mono λ v x z=>z.mono s23) (SqL.of hl2) hW (ok.net nd hl) λ p H4 np s4 hn=>k p H4 (s2.free (s23.free np)) (s2.trans (s23.trans s4)) hn
structure DuO (c:Int × Int):Prop where
 t0:0<=c.1
 t1:c.1<10 ^ 30
 b0:1<=c.2
 b1:c.2<=6
inductive IspDue39 (K:W.Frag) (vs:List V) (H:Hp) (Q:VK):Prop
 | mk (l d:Addr) (ns:List Int) (sp:List Str) (rs:List WR) (h1:vs=[.ref l,.ref d]) (h2:SqL K H l (ns.map V.int)) (h3:RowsAt H d rs) (h4:W39 sp rs) (h5:∀ r H' kvs ks g,H r=none->Same H H'->H' r=some (.dK kvs)->Tab DueIs H' kvs ks g->ks.Nodup->(∀ n∈ks,n∈rs.map (·.nm)/\DuO (g n))->Q (.ref r) H'):IspDue39 K vs H Q
noncomputable def spDue39 (K:W.Frag):Sp:=λ vs H Q _=>IspDue39 K vs H Q
theorem ok_law_due (T:TX K mg a):FnB P w K mg base CX0 "_law_due" 2 ["_law_script","_law_ways_here"] (spDue39 K):=by
 refine T.d_law_due.ok sc_law_due (λ vs H Q E h=>?_) (λ f cdv A outer s H vs Q E hr h=>?_)
 ·obtain ⟨_,_,_,_,_,rfl,_⟩:=h;rfl
 ·obtain ⟨l,d,ns,sp,rs,rfl,hS,hR,W,k⟩:=h
  refine ⟨_,(ab (al (i:=2) sc_law_due.nd rfl (Or.inl rfl) bf)
   (ab (al (i:=3) sc_law_due.nd rfl (Or.inl rfl) (bJ (b8 hr.hd) (by rfl) T.z_list iH (aa (pv 1) ad)))
   (ab (aS gW rfl (dH rfl T.z_range (aa (aD aO (by rfl) T.z_len im (aa (pv 3) ad)) ad)) (au (i:=4) sc_law_due.nd rfl (Or.inl rfl)) (ab (al (i:=5) sc_law_due.nd rfl (Or.inl rfl) (ax (bg T) hr ak (aa (pv 0) (aa (ao bO ag (ao ba ag (pv 4))) ad))))
   (ah (aL (ar cR (ao bv (pv 5) ag) ag (av _)) (ah (bo (aH hr) (pv 2) (aw aY (pv 3) (pv 4) (λ _ _=>rfl)) (bK (aa (ao bv (ao ci (pv 5) ag) (ao op_pow ag ag)) (aa (ao bO ag (ao bv (ao ci (pv 5) ag) ag)) ad))) rfl)) (ah (aL (ar fI (ao bv (pv 5) ag) ag (av _)) (ah (bo (aH hr) (pv 2) (aw aY (pv 3) (pv 4) (λ _ _=>rfl)) (bK (aa (ao bv (ao ci (pv 5) ag) ag) (aa (ao bO ag (ao bv (ao ci (pv 5) ag) ag)) ad))) rfl)) aA))))))
   (ah (ap (pv 2)))))),?_⟩
  try dsimp only [aI,Cx.nox,Cx.wish]
  intro r nr;obtain ⟨H1,zq,s1,h1⟩:=uG (o:=.dK []) nr;rw [zq];obtain ⟨kvd,hd1,hkd,_⟩:=hR.mono s1;refine ⟨_,rfl,d,kvd,rfl,.inl hd1,λ ll nll=>?_⟩
  have ek:(kvd.map λ kv=>kV kv.1)=(rs.map (·.nm)).map V.str:=by
   have:=ix (List.map kV) hkd
   rw [iF,iF] at this;rw [iF];exact this
  rw [ek];obtain ⟨H2,zq,s2,hll⟩:=uG (o:=.lst ((rs.map (·.nm)).map V.str)) nll;rw [zq];have few:=W.few;have hr2:=s2 _ _ h1;have s12:=s1.trans s2;have nrl:r≠ll:=aj h1 nll;refine ⟨_,rfl,ll,_,rfl,.inl (SqL.of hll),?_⟩;rw [gG,gG];refine ⟨_,rfl,by omega,by omega,?_⟩;refine for_range (n:=(rs.length:Int).toNat) (λ i σ H3=>i<=rs.length/\∃ z4 z5 kvs ks g,σ=[some (.ref l),some (.ref d),some (.ref r),some (.ref ll),z4,z5]/\Same H H3/\H3 ll=some (.lst ((rs.map (·.nm)).map V.str))/\H3 r=some (.dK kvs)/\Tab DueIs H3 kvs ks g/\ks.Nodup/\∀ n∈ks,n∈(rs.map (·.nm)).take i/\DuO (g n)) ⟨gR _,none,none,[],[],λ _=>(0,1),rfl,s12,hll,hr2,Tab.nil,jb,λ n hn=>absurd hn g9⟩ ?_ ?_
  ·rintro i σ H3 hi ⟨_,z4,z5,kvs,ks,g,rfl,s3,hl3,hr3,tb,ndk,good⟩;have hi':i<rs.length:=by omega
   rw [Int.zero_add];refine ⟨_,rfl,_,rfl,_,_,rfl,rfl,⟨Sm.of_le (n:=10) (by decide) (by decide),Sm.of_le (n:=10) (by omega) (by decide)⟩,_,_,rfl,rfl,l,ns,_,rfl,s3.seq hS,by omega,by omega,λ c=>?_⟩;obtain ⟨nm,elb⟩:∃ nm,(rs.map (·.nm))[i]?=some nm:=⟨_,getS' (by rw [gG];exact hi')⟩;have tk:=bD W.nd elb
   have lkv:kvs.length<=100:=by
    have:=aW ndk (ys:=rs.map (·.nm)) λ n hn=>List.mem_of_mem_take (good n hn).1
    rw [gG] at this;rw [tb.len];omega
   have go:∀ (x y:Int) (tp:Addr),DuO (x,y)->H3 tp=none->i+1<=rs.length/\∃ z4' z5' kvs' ks' g',[some (V.ref l),some (.ref d),some (.ref r),some (.ref ll),some (.int (i:Int)),some (.int c)]=[some (V.ref l),some (.ref d),some (.ref r),some (.ref ll),z4',z5']/\Same H (upd (upd H3 tp (.tup [.int x,.int y])) r (.dK (bj kvs (Sum.inr nm) (.ref tp))))/\(upd (upd H3 tp (.tup [.int x,.int y])) r (.dK (bj kvs (Sum.inr nm) (.ref tp)))) ll=some (.lst ((rs.map (·.nm)).map V.str))/\(upd (upd H3 tp (.tup [.int x,.int y])) r (.dK (bj kvs (Sum.inr nm) (.ref tp)))) r=some (.dK kvs')/\Tab DueIs (upd (upd H3 tp (.tup [.int x,.int y])) r (.dK (bj kvs (Sum.inr nm) (.ref tp)))) kvs' ks' g'/\ks'.Nodup/\∀ n∈ks',n∈(rs.map (·.nm)).take (i+1)/\DuO (g' n):=λ x y tp ok ntp=>by
    obtain ⟨H4,zq,s4,ht⟩:=uG (o:=.tup [.int x,.int y]) ntp;rw [zq];have kp:KeepD H4 (upd H4 r (.dK (bj kvs (Sum.inr nm) (.ref tp)))):=KeepD.put (s4 _ _ hr3);refine ⟨hi',_,_,_,_,_,rfl,aC nr (s3.trans s4),by rw [af nrl.symm];exact s4 _ _ hl3,ae,Tab.put (n:=nm) (tb.mono λ v x z=>(z.mono s4).keep kp) (DueIs.keep (c:=(x,y)) ⟨tp,rfl,ht⟩ kp),dR ndk,λ n hn=>?_⟩;rw [tk.1];unfold upf;by_cases e:n=nm
    ·rw [if_pos e,e];exact ⟨by simp,ok⟩
    ·rw [if_neg e];rcases mem_addK.mp hn with z | z
     ·exact ⟨gU _ (good n z).1,(good n z).2⟩
     ·exact absurd z e
   refine ⟨_,rfl,_,_,rfl,rfl,zI7,rfl,_,rfl,ifV (λ e1=>?_) (λ e1=>?_)⟩
   ·obtain ⟨a1,a2⟩:=bQ (c / 42) (show (0:Int)<10 ^ 30 by decide);obtain ⟨b1,b2⟩:=bQ (c / 7) (show (0:Int)<6 by decide);refine ⟨_,rfl,_,_,rfl,rfl,⟨by decide,by decide⟩,_,_,rfl,rfl,⟨by decide,by decide,by decide⟩,_,_,rfl,rfl,by show (0:Int)<10 ^ (30:Int).toNat;decide,_,rfl,_,_,rfl,rfl,⟨by decide,by decide⟩,_,_,rfl,rfl,zI6,_,_,rfl,rfl,zL2,λ tp ntp=>?_⟩;have g2:=go (c / 42 % 10 ^ (30:Int).toNat) (1+c / 7 % 6) tp ⟨a1,a2,by show 1<=1+c / 7 % 6;omega,by show 1+c / 7 % 6<=6;omega⟩ ntp;have s4:=aB (o:=.tup [.int (c / 42 % 10 ^ (30:Int).toNat),.int (1+c / 7 % 6)]) ntp;exact ⟨_,rfl,_,rfl,_,rfl,ll,_,_,_,rfl,rfl,SqL.of (s4 _ _ hl3),at_str elb,r,_,rfl,DPut.k (k:=Sum.inr nm) (s4 _ _ hr3) (aq (by omega)),g2⟩
   ·refine ⟨_,rfl,_,_,rfl,rfl,zI4,rfl,_,rfl,?_⟩;by_cases e2:c % 4=0
    ·refine gB (by show V.int (c % 4)=V.int 0;rw [e2]) ⟨hi',_,_,kvs,ks,g,rfl,s3,hl3,hr3,tb,ndk,λ n hn=>⟨?_,(good n hn).2⟩⟩;rw [tk.1];exact gU _ (good n hn).1
    ·obtain ⟨a1,a2⟩:=bQ (c / 4) (show (0:Int)<13 by decide);obtain ⟨b1,b2⟩:=bQ (c / 52) (show (0:Int)<6 by decide);refine eW (by show (!decide (V.int (c % 4)=V.int 0))=true;rw [gT λ z=>e2 (V.int.inj z)];rfl) ⟨_,rfl,_,_,rfl,rfl,⟨by decide,by decide⟩,_,_,rfl,rfl,zI13,_,rfl,_,_,rfl,rfl,⟨by decide,by decide⟩,_,_,rfl,rfl,zI6,_,_,rfl,rfl,zL2,λ tp ntp=>?_⟩;have g2:=go (c / 4 % 13) (1+c / 52 % 6) tp ⟨a1,Int.lt_trans a2 (by decide),by show 1<=1+c / 52 % 6;omega,by show 1+c / 52 % 6<=6;omega⟩ ntp;have s4:=aB (o:=.tup [.int (c / 4 % 13),.int (1+c / 52 % 6)]) ntp;exact ⟨_,rfl,_,rfl,_,rfl,ll,_,_,_,rfl,rfl,SqL.of (s4 _ _ hl3),at_str elb,r,_,rfl,DPut.k (k:=Sum.inr nm) (s4 _ _ hr3) (aq (by omega)),g2⟩
  ·rintro σ H3 ⟨_,z4,z5,kvs,ks,g,rfl,s3,hl3,hr3,tb,ndk,good⟩;exact ⟨_,rfl,k r H3 kvs ks g nr s3 hr3 tb ndk λ n hn=>⟨List.mem_of_mem_take (good n hn).1,(good n hn).2⟩⟩
noncomputable def KpD (d:Addr) (H H':Hp):Prop:=∀ b o,b≠d->H b=some o->H' b=some o
theorem KpD.trans {d:Addr} {H H' H'':Hp} (h:KpD d H H') (g:KpD d H' H''):KpD d H H'':=λ b o n e=>g b o n (h b o n e)
noncomputable def PvIs (H:Hp) (v:V) (y:Nat × Rat):Prop:=∃ t c d,v=.ref t/\H t=some (.tup [.int c,.int d])/\c.natAbs<=2 ^ y.1/\1<=d/\d.natAbs<=2 ^ y.1/\Rat.divInt c d=y.2
theorem PvIs.kp {H H':Hp} {v:V} {y:Nat × Rat} (h:PvIs H v y) (k:KeepD H H'):PvIs H' v y:=by
 obtain ⟨t,c,d,e,h1,h2⟩:=h;exact ⟨t,c,d,e,k _ _ h1 (by intro _ z;cases z) (by intro _ _ z;cases z),h2⟩
theorem PvIs.zero {H:Hp} {t:Addr} (h:H t=some (.tup [.int 0,.int 1])):PvIs H (.ref t) (0,0):=⟨t,0,1,rfl,h,by decide,by decide,by decide,rfl⟩
theorem plus_bits {c d m e:Int} {N M:Nat} (h1:c.natAbs<=2 ^ N) (h2:d.natAbs<=2 ^ N) (h3:m.natAbs<=2 ^ M) (h4:e.natAbs<=2 ^ M):(c*e+m*d).natAbs<=2 ^ (N+M+1)/\(d*e).natAbs<=2 ^ (N+M+1):=by
 have a1:(c*e).natAbs<=2 ^ (N+M):=by rw [iJ,Nat.pow_add];exact Nat.mul_le_mul h1 h4
 have a2:(m*d).natAbs<=2 ^ (N+M):=by rw [iJ,Nat.pow_add,Nat.mul_comm];exact Nat.mul_le_mul h2 h3
 have a3:(d*e).natAbs<=2 ^ (N+M):=by rw [iJ,Nat.pow_add];exact Nat.mul_le_mul h2 h4
 have a4:=Int.natAbs_add_le (c*e) (m*d);rw [Nat.pow_succ];omega
theorem plus_val {c d m e:Int} (hd:d≠0) (he:e≠0):Rat.divInt (c*e+m*d) (d*e)=Rat.divInt c d+Rat.divInt m e:=(Rat.divInt_add_divInt _ _ hd he).symm
structure PvD (H:Hp) (d:Addr) (ks:List Str) (F:Str->Nat × Rat):Prop where
 ex:∃ kvs,H d=some (.dK kvs)/\Tab PvIs H kvs ks F
 nd:ks.Nodup
 no:∀ n,¬ n∈ks->F n=(0,0)
inductive IspAdded (vs:List V) (H:Hp) (Q:VK):Prop
 | mk (d g:Addr) (n:Str) (ks:List Str) (F:Str->Nat × Rat) (m e:Int) (M:Nat) (h1:vs=[.ref d,.str n,.ref g]) (h2:PvD H d ks F) (h3:H g=some (.tup [.int m,.int e])) (h4:m.natAbs<=2 ^ M) (h5:1<=e) (h6:e.natAbs<=2 ^ M) (h7:M<8000) (h8:(F n).1<8000) (h9:ks.length<=100) (h10:∀ H',KpD d H H'->PvD H' d (addK ks n) (upf F n ((F n).1+M+1,(F n).2+Rat.divInt m e))->Q .non H'):IspAdded vs H Q
noncomputable def spAdded:Sp:=λ vs H Q _=>IspAdded vs H Q
theorem b6 (T:TX K mg a):FnB P w K mg base CX0 "_law_added" 2 ["_law_some","_law_key","_law_put"] spAdded:=by
 refine T.d_law_added.ok sc_law_added (λ vs H Q E h=>?_) (λ f cdv A outer s H vs Q E hr h=>?_)
 ·obtain ⟨_,_,_,_,_,_,_,_,rfl,_⟩:=h;rfl
 ·obtain ⟨d,g,n,ks,F,m,e,M,rfl,D,hg,b1,e1,b2,lM,lF,lk,k⟩:=h;refine ⟨_,(ah (bo (aH hr) (pv 0) (pv 1) (ax (ok_law_plus T) hr ak (aa (cQ (aH hr) (pv 0) (pv 1) (bK (aa ag (aa ag ad))) ⟨rfl,rfl,rfl,rfl⟩) (aa (pv 2) ad))) rfl)),?_⟩;try dsimp only [aI,Cx.nox,Cx.wish]
  obtain ⟨kvs,hd,tb⟩:=D.ex;refine ⟨_,rfl,d,rfl,.inl ⟨kvs,.inl hd⟩,_,rfl,zL2,λ z nz=>?_⟩;obtain ⟨H3,zq,s3,he⟩:=uG (o:=.tup [.int 0,.int 1]) nz;rw [zq];have tb3:=tb.mono λ v x z=>z.kp (.of s3);refine ⟨_,DGet.k (k:=Sum.inr n) (s3 _ _ hd),?_⟩
  have hval:PvIs H3 ((bu kvs (Sum.inr n)).getD (.ref z)) (F n):=by
   by_cases hn:n∈ks
   ·obtain ⟨v,ev,r⟩:=tb3.vals _ hn;rw [ev];exact r
   ·rw [tb3.none hn,D.no n hn];exact PvIs.zero he
  generalize (bu kvs (Sum.inr n)).getD (.ref z)=vl at hval ⊢;obtain ⟨t,c,d',rfl,ht,c1,c2,c3,c4⟩:=hval;refine ⟨_,rfl,t,g,_,_,_,_,rfl,ht,s3 _ _ hg,Sm.of_le c1 (by omega),Sm.of_le c3 (by omega),Sm.of_le b1 (by omega),Sm.of_le b2 (by omega),λ e2 ne2=>?_⟩;obtain ⟨H4,zq,s4,he2⟩:=uG (o:=.tup [.int (c*e+m*d'),.int (d'*e)]) ne2;rw [zq];have s24:=s3.trans s4;refine ⟨_,rfl,_,rfl,d,_,rfl,DPut.k (k:=Sum.inr n) (s24 _ _ hd) (aq (by rw [tb.len];omega)),?_⟩;have kp:KeepD H4 (upd H4 d (.dK (bj kvs (Sum.inr n) (.ref e2)))):=KeepD.put (s24 _ _ hd);obtain ⟨p1,p2⟩:=plus_bits c1 c3 b1 b2;have new:PvIs H4 (.ref e2) ((F n).1+M+1,(F n).2+Rat.divInt m e):=⟨e2,_,_,rfl,he2,p1,Int.mul_pos (by omega) (by omega),p2,by rw [plus_val (by omega) (by omega),c4]⟩;refine k _ (λ b o nb eb=>by rw [af nb];exact s24 _ _ eb) ⟨⟨_,ae,Tab.put (n:=n) (tb3.mono λ v x z=>(z.kp (.of s4)).kp kp) (new.kp kp)⟩,dR D.nd,λ y hy=>?_⟩;have h1:¬ y∈ks:=λ z=>hy (mem_addK.mpr (.inl z));have h2:y≠n:=λ z=>hy (mem_addK.mpr (.inr z));rw [upf_ne h2];exact D.no y h1
theorem at_last {xs:List Str} {u:Str} (h:xs.getLast?=some u):atI (xs.map V.str) (-1)=some (.str u):=by
 obtain ⟨ys,rfl⟩:=List.getLast?_eq_some_iff.mp h;rw [gM];exact atI_last _ _
theorem W39.row {sp:List Str} {rs:List WR} (h:W39 sp rs) {x:WD} (hx:x∈rs.map WR.d):∃ r∈rs,r.nm=x.nm/\r.st=x.st/\r.go=x.go:=by
 obtain ⟨r,hr,rfl⟩:=gL.mp hx;exact ⟨r,hr,(WR.d_nm r).symm,(WR.d_st r).symm,(WR.d_go r).symm⟩
inductive IspWalked (vs:List V) (H:Hp) (Q:VK):Prop
 | mk (d lw:Addr) (sp:List Str) (rs:List WR) (l:List WD) (p q:Str) (h1:vs=[.ref d,.ref lw]) (h2:RowsAt H d rs) (h3:W39 sp rs) (h4:H lw=some (.lst (nmV l))) (h5:(∀ x∈l,x∈rs.map WR.d)) (h6:l≠[]) (h7:PthW p l q) (h8:l.length<=6) (h9:∀ r H',H r=none->Same H H'->H' r=some (.lst ((p::l.map (·.go)).map V.str))->Q (.ref r) H'):IspWalked vs H Q
noncomputable def spWalked (K:W.Frag):Sp:=λ vs H Q _=>IspWalked vs H Q
theorem PthW.at_:∀ {l:List WD} {p q:Str} {i:Nat} {x:WD},PthW p l q->l[i]?=some x->(p::(l.take i).map (·.go)).getLast?=some x.st
 | [],_,_,_,_,_,h=>by cases h
 | y::r,p,q,0,x,hp,h=>by
  cases h;rw [hp.1];rfl
 | y::r,p,q,i+1,x,hp,h=>by
  have:=PthW.at_ hp.2 (i:=i) (x:=x) (by simpa using h)
  rw [List.take_succ_cons,iM,List.getLast?_cons_cons];exact this
theorem ok_law_walked (T:TX K mg a):FnB P w K mg base CX0 "_law_walked" 1 ["_law_ways_here","_law_walk"] (spWalked K):=by
 refine T.d_law_walked.ok sc_law_walked (λ vs H Q E h=>?_) (λ f cdv A outer s H vs Q E hr h=>?_)
 ·obtain ⟨_,_,_,_,_,_,_,rfl,_⟩:=h;rfl
 ·obtain ⟨d,lw,sp,rs,l,p,q,rfl,hR,W,hw,sub,lne,pth,ll,k⟩:=h
  refine ⟨_,(ab (aL (PW.pt (fG (ar cR (aD aO (by rfl) T.z_len im (aa (pv 1) ad)) ag (av _)) (eP (dQ (dI (aH hr) (aw aY (pv 1) ag (λ _ _=>rfl)) (pv 0)))))) (ah (ap (a6 ad))) aA)
   (ab (al (i:=2) sc_law_walked.nd rfl (Or.inl rfl) (a6 (aa (aw az (aU (aH hr) (pv 0) (aw aY (pv 1) ag (λ _ _=>rfl)) (λ _ _=>rfl)) ag (λ _ _=>rfl)) ad)))
   (ab (aS gW rfl (aZ (pv 1)) (au (i:=3) sc_law_walked.nd rfl (Or.inl rfl)) (ab (aL (PW.pt (fG (dQ (dI (aH hr) (pv 3) (pv 0))) (eP (ar fI (aw az (aU (aH hr) (pv 0) (pv 3) (λ _ _=>rfl)) ag (λ _ _=>rfl)) (aw aY (pv 2) (fH dk ag) (λ _ _=>rfl)) (av _))))) (ah (ap (a6 ad))) aA)
   (ah (aQ (pe_bm iS iO iP bW (pv 2) (aa (aw az (aU (aH hr) (pv 0) (pv 3) (λ _ _=>rfl)) ag (λ _ _=>rfl)) ad))))))
   (ah (ap (pv 2)))))),?_⟩
  try dsimp only [aI,Cx.nox,Cx.wish]
  have SW:SqL K H lw _:=SqL.of hw
  obtain ⟨x0,e0⟩:∃ x0,l[0]?=some x0:=by
   cases l with
   | nil=>exact absurd rfl lne
   | cons y z=>exact ⟨y,rfl⟩
  have i0:(nmV l)[0]?=some (.str x0.nm):=by unfold nmV;rw [gK,e0];rfl
  have ln:(nmV l).length=l.length:=by unfold nmV;rw [gG]
  have l0:l.length≠0:=λ z=>lne (List.length_eq_zero_iff.mp z);obtain ⟨r0,hr0,en,es,_⟩:=W.row (sub x0 (gI e0));obtain ⟨v,gv,p1,gy,rfl,y1,y2⟩:=hR.get W.nd hr0;rw [en] at gv
  have st0:r0.st=p:=by
   rw [es];exact pth.head x0 (by rw [List.head?_eq_getElem?];exact e0)
  refine ⟨_,rfl,lw,_,rfl,.inl SW,rfl,_,rfl,?_⟩;rw [ln];refine cE (gT λ z=>l0 (by have:=V.int.inj z;omega)) ?_;refine ⟨_,rfl,lw,_,_,_,rfl,rfl,SW,atI_nat (j:=0) i0,_,rfl,d,_,rfl,gv,_,rfl,iteF ?_⟩;refine ⟨_,rfl,_,rfl,lw,_,_,_,rfl,rfl,SW,atI_nat (j:=0) i0,d,_,rfl,gv,p1,_,_,_,rfl,rfl,SqT.of y1,rfl,zL1,λ r nr=>?_⟩;rw [st0];obtain ⟨H1,zq,s1,h1⟩:=uG (o:=.lst [.str p]) nr;rw [zq];refine ⟨_,rfl,lw,rfl,⟨_,s1.seq SW⟩,a9 (K:=K) (a:=lw) (xs:=nmV l) (λ i σ H2=>i<=l.length/\∃ z,σ=[some (.ref d),some (.ref lw),some (.ref r),z]/\Same H H2/\H2 r=some (.lst ((p::(l.take i).map (·.go)).map V.str))) ⟨gR _,_,rfl,s1,h1⟩ (λ i σ H2 _ ⟨_,_,_,s2,_⟩=>s2.seq SW) ?_ ?_⟩
  ·rintro i v σ H2 hv ⟨_,z,rfl,s2,h2⟩;unfold nmV at hv;rw [gK] at hv
   cases ex:l[i]? with
   | none=>rw [ex] at hv;cases hv
   | some x=>
    rw [ex] at hv
    cases hv;have hi:=(gH.mp ex).1;obtain ⟨r1,hr1,en1,es1,eg1⟩:=W.row (sub x (gI ex));obtain ⟨v,gv,p1,gy,rfl,y1,y2⟩:=(hR.mono s2).get W.nd hr1;rw [en1] at gv;have la:(p::(l.take i).map (·.go)).getLast?=some x.st:=pth.at_ ex;refine ⟨_,rfl,_,rfl,d,_,rfl,gv,_,rfl,iteF ?_⟩;refine ⟨_,rfl,_,rfl,d,_,rfl,gv,p1,_,_,_,rfl,rfl,SqT.of y1,rfl,_,rfl,_,rfl,r,_,_,_,rfl,rfl,SqL.of h2,at_last la,rfl,_,rfl,gB (by rw [es1]) ?_⟩;refine ⟨_,rfl,.inl ⟨rfl,_,SqL.of h2⟩,?_⟩;refine ⟨_,rfl,_,rfl,d,_,rfl,gv,p1,_,_,_,rfl,rfl,SqT.of y1,rfl,r,_,_,rfl,rfl,h2,aq (by rw [gG,ia,gG,gS];omega),hi,_,rfl,aC nr s2,?_⟩;rw [ae,gQ,ex,gY,eg1,gM,<- List.cons_append,gM];rfl
  ·rintro σ H2 ⟨_,z,rfl,s2,h2⟩;rw [ln,gP] at h2;exact ⟨_,rfl,k r H2 nr s2 h2⟩
theorem PvIs.same {H:Hp} {v w:V} {y z:Nat × Rat} (h:PvIs H v y) (g:PvIs H w z) (e:y.2=z.2):∃ t u c d m n,v=.ref t/\w=.ref u/\H t=some (.tup [.int c,.int d])/\H u=some (.tup [.int m,.int n])/\c*n=m*d/\c.natAbs<=2 ^ y.1/\d.natAbs<=2 ^ y.1/\m.natAbs<=2 ^ z.1/\n.natAbs<=2 ^ z.1:=by
 obtain ⟨t,c,d,e1,h1,h2,h3,h4,h5⟩:=h;obtain ⟨u,m,n,e2,g1,g2,g3,g4,g5⟩:=g;refine ⟨t,u,c,d,m,n,e1,e2,h1,g1,?_,h2,h4,g2,g4⟩;rw [<- h5,<- g5] at e;exact (iY (by omega) (by omega)).mp e
inductive IspAlike39 (K:W.Frag) (vs:List V) (H:Hp) (Q:VK):Prop
 | mk (l d1 d2:Addr) (ts k1 k2:List Str) (F G:Str->Nat × Rat) (h1:vs=[.ref l,.ref d1,.ref d2]) (h2:SqL K H l (ts.map V.str)) (h3:PvD H d1 k1 F) (h4:PvD H d2 k2 G) (h5:(∀ n∈ts,(F n).2=(G n).2/\(F n).1<9000/\(G n).1<9000)) (h6:∀ H',Same H H'->Q (.bl true) H'):IspAlike39 K vs H Q
noncomputable def spAlike39 (K:W.Frag):Sp:=λ vs H Q _=>IspAlike39 K vs H Q
theorem PvD.get {H H':Hp} {d:Addr} {ks:List Str} {F:Str->Nat × Rat} (h:PvD H d ks F) (s:Same H H') (n:Str) {z:Addr} (hz:H' z=some (.tup [.int 0,.int 1])):∃ kvs v,H' d=some (.dK kvs)/\(bu kvs (Sum.inr n)).getD (.ref z)=v/\PvIs H' v (F n):=by
 obtain ⟨kvs,hd,tb⟩:=h.ex;refine ⟨kvs,_,s _ _ hd,rfl,?_⟩;by_cases hn:n∈ks
 ·obtain ⟨v,ev,r⟩:=tb.vals _ hn;rw [ev];exact r.kp (.of s)
 ·rw [tb.none hn,h.no n hn];exact PvIs.zero hz
theorem gt (T:TX K mg a):FnB P w K mg base CX0 "_law_alike" 1 ["_law_keys","_law_one","_law_other"] (spAlike39 K):=by
 refine T.d_law_alike.ok sc_law_alike (λ vs H Q E h=>?_) (λ f cdv A outer s H vs Q E hr h=>?_)
 ·obtain ⟨_,_,_,_,_,_,_,_,rfl,_⟩:=h;rfl
 ·obtain ⟨l,d1,d2,ts,k1,k2,F,G',rfl,hS,D1,D2,ok,k⟩:=h
  refine ⟨_,(ab (aS gW rfl (aZ (pv 0)) (au (i:=3) sc_law_alike.nd rfl (Or.inl rfl)) (ab (al (i:=4) sc_law_alike.nd rfl (Or.inl rfl) (cQ (aH hr) (pv 1) (pv 3) (bK (aa ag (aa ag ad))) ⟨rfl,rfl,rfl,rfl⟩))
   (ab (al (i:=5) sc_law_alike.nd rfl (Or.inl rfl) (cQ (aH hr) (pv 2) (pv 3) (bK (aa ag (aa ag ad))) ⟨rfl,rfl,rfl,rfl⟩))
   (ah (aL (ar fI (ao ba (aw az (pv 4) ag (λ _ _=>rfl)) (aw az (pv 5) ag (λ _ _=>rfl))) (ao ba (aw az (pv 5) ag (λ _ _=>rfl)) (aw az (pv 4) ag (λ _ _=>rfl))) (av _)) (ah (ap gl)) aA)))))
   (ah (ap gl))),?_⟩
  try dsimp only [aI,Cx.nox,Cx.wish]
  refine ⟨_,rfl,l,rfl,⟨_,hS⟩,a9 (K:=K) (a:=l) (xs:=ts.map V.str) (λ i σ H2=>∃ z3 z4 z5,σ=[some (.ref l),some (.ref d1),some (.ref d2),z3,z4,z5]/\Same H H2) ⟨_,_,_,rfl,Same.refl _⟩ (λ i σ H2 _ ⟨_,_,_,_,s2⟩=>s2.seq hS) ?_ ?_⟩
  ·rintro i v σ H2 hv ⟨z3,z4,z5,rfl,s2⟩;rw [gK] at hv
   cases ex:ts[i]? with
   | none=>rw [ex] at hv;cases hv
   | some n=>
    rw [ex] at hv
    cases hv;obtain ⟨o1,o2,o3⟩:=ok n (gI ex);obtain ⟨kv1,hd1,tb1⟩:=D1.ex;refine ⟨_,rfl,d1,rfl,.inl ⟨kv1,.inl (s2 _ _ hd1)⟩,_,rfl,zL2,λ z nz=>?_⟩;have s3:=s2.trans (aB (o:=.tup [.int 0,.int 1]) nz);have hz:upd H2 z (.tup [.int 0,.int 1]) z=some (.tup [.int 0,.int 1]):=ae;generalize upd H2 z (.tup [.int 0,.int 1])=H3 at s3 hz ⊢;obtain ⟨kv1',v1,hd1',ev1,r1⟩:=D1.get s3 n hz;refine ⟨_,DGet.k (k:=Sum.inr n) hd1',?_⟩;rw [ev1];obtain ⟨kv2,hd2,tb2⟩:=D2.ex;refine ⟨_,rfl,d2,rfl,.inl ⟨kv2,.inl (s3 _ _ hd2)⟩,_,rfl,zL2,λ y ny=>?_⟩;have s34:=aB (o:=.tup [.int 0,.int 1]) ny;have s4:=s3.trans s34;have hy:upd H3 y (.tup [.int 0,.int 1]) y=some (.tup [.int 0,.int 1]):=ae;generalize upd H3 y (.tup [.int 0,.int 1])=H4 at s34 s4 hy ⊢;obtain ⟨kv2',v2,hd2',ev2,r2⟩:=D2.get s4 n hy;refine ⟨_,DGet.k (k:=Sum.inr n) hd2',?_⟩;rw [ev2];obtain ⟨t,u,c,d,m,e,rfl,rfl,ht,hu,cr,b1,b2,b3,b4⟩:=(r1.kp (.of s34)).same r2 o1;refine ⟨_,rfl,t,_,_,_,rfl,rfl,SqT.of ht,rfl,_,rfl,u,_,_,_,rfl,rfl,SqT.of hu,rfl,_,_,rfl,rfl,⟨Sm.of_le b1 o2,Sm.of_le b4 o3⟩,_,rfl,u,_,_,_,rfl,rfl,SqT.of hu,rfl,_,rfl,t,_,_,_,rfl,rfl,SqT.of ht,rfl,_,_,rfl,rfl,⟨Sm.of_le b3 o3,Sm.of_le b2 o2⟩,rfl,_,rfl,gB (by show V.int (c*e)=V.int (m*d);rw [cr]) ?_⟩;exact ⟨_,_,_,rfl,s4⟩
  ·rintro σ H2 ⟨z3,z4,z5,rfl,s2⟩;exact k H2 s2
theorem neg_div (t b:Int):Rat.divInt (0-t) b = -Rat.divInt t b:=by
 rw [Rat.divInt_eq_div,Rat.divInt_eq_div,Int.zero_sub,Rat.intCast_neg];grind
theorem RowsAt.but {H H':Hp} {d e:Addr} {rs:List WR} {kvs:List (Key × V)} (h:RowsAt H d rs) (he:H e=some (.dK kvs)) (ne:d≠e) (k:∀ b ob,H b=some ob->b≠e->H' b=some ob):RowsAt H' d rs:=by
 obtain ⟨kv,h1,h2,h3⟩:=h;exact ⟨kv,k _ _ h1 ne,h2,h3.mono λ v x ⟨p,g,z,x1,x2⟩=>⟨p,g,z,k _ _ x1 (aF x1 he (by intro z;cases z)),k _ _ x2 (aF x2 he (by intro z;cases z))⟩⟩
theorem PvD.mono {H H':Hp} {d:Addr} {ks:List Str} {F:Str->Nat × Rat} (h:PvD H d ks F) (s:Same H H'):PvD H' d ks F:=by
 obtain ⟨kvs,hd,tb⟩:=h.ex;exact ⟨⟨kvs,s _ _ hd,tb.mono λ v x z=>z.kp (.of s)⟩,h.nd,h.no⟩
noncomputable def duF (g:Str->Int × Int) (n:Str):Rat:=Rat.divInt (g n).1 (g n).2
theorem two_con {ps:List (Str × Rat)} {ns:List WD} (O:NsOk ps ns) {A:Str->Rat} {d:WD} {x:Rat} {s:Str} (hd:d∈ns):aM (λ m=>if m=d.nm then A m+x else A m) ns s=upf (upf (aM A ns) d.st (aM A ns d.st + -x)) d.go (aM A ns d.go+x) s:=by
 rw [(sumF_upd ns O.ne O.nd s).2 d hd rfl];unfold con upf;rw [(O.g1 d hd).1];have ne:=O.ne d hd;by_cases c1:s=d.go
 ·rw [if_pos c1,if_pos c1,c1];grind
 ·rw [if_neg c1,if_neg c1];by_cases c2:s=d.st
  ·rw [if_pos c2,if_pos c2,c2]
  ·rw [if_neg c2,if_neg c2];grind
inductive IspChanges (vs:List V) (H:Hp) (Q:VK):Prop
 | mk (d e:Addr) (sp:List Str) (rs:List WR) (ps:List (Str × Rat)) (kvs:List (Key × V)) (ks:List Str) (g:Str->Int × Int) (h1:vs=[.ref d,.ref e]) (h2:RowsAt H d rs) (h3:W39 sp rs) (h4:NsOk ps (rs.map WR.d)) (h5:d≠e) (h6:H e=some (.dK kvs)) (h7:Tab DueIs H kvs ks g) (h8:ks.Nodup) (h9:(∀ n∈ks,n∈rs.map (·.nm)/\DuO (g n))) (h10:∀ r H' ko F,H r=none->Same H H'->PvD H' r ko F->(∀ s,(F s).1<=4000/\(F s).2=aM (aE ks (duF g)) (rs.map WR.d) s)->(∀ s∈ko,s∈ps.map (·.1))->Q (.ref r) H'):IspChanges vs H Q
noncomputable def spChanges (K:W.Frag):Sp:=λ vs H Q _=>IspChanges vs H Q
theorem ok_law_changes (T:TX K mg a):FnB P w K mg base CX0 "_law_changes" 3 ["_law_ways_here","_law_due_here"] (spChanges K):=by
 refine T.d_law_changes.ok sc_law_changes (λ vs H Q E h=>?_) (λ f cdv A outer s H vs Q E hr h=>?_)
 ·obtain ⟨_,_,_,_,_,_,_,_,rfl,_⟩:=h;rfl
 ·obtain ⟨d,e,sp,rs,ps,kvs,ks,g,rfl,hR,W,O,nde,he,tb,ndk,good,k⟩:=h
  refine ⟨_,(ab (al (i:=2) sc_law_changes.nd rfl (Or.inl rfl) bf)
   (ab (cB (aS gW rfl (c9 (pv 1)) (au (i:=3) sc_law_changes.nd rfl (Or.inl rfl)) (ab (aQ (ax (b6 T) hr ak (aa (pv 2) (aa (aw az (aU (aH hr) (pv 0) (pv 3) (λ _ _=>rfl)) ag (λ _ _=>rfl)) (aa (bK (aa (ao op_sub ag (aw az (aU (aH hr) (pv 1) (pv 3) (λ _ _=>rfl)) ag (λ _ _=>rfl))) (aa (aw az (aU (aH hr) (pv 1) (pv 3) (λ _ _=>rfl)) ag (λ _ _=>rfl)) ad))) ad)))))
   (ah (aQ (ax (b6 T) hr ak (aa (pv 2) (aa (aw az (aU (aH hr) (pv 0) (pv 3) (λ _ _=>rfl)) ag (λ _ _=>rfl)) (aa (aU (aH hr) (pv 1) (pv 3) (λ _ _=>rfl)) ad)))))))))
   (ah (ap (pv 2))))),?_⟩
  try dsimp only [aI,Cx.nox,Cx.wish]
  intro r nr;obtain ⟨H1,zq,s1,h1⟩:=uG (o:=.dK []) nr;rw [zq];have he1:=s1 _ _ he;have ner:e≠r:=aj he nr;refine ⟨e,.dK kvs,he1,(by intro o z q;cases q),_,rfl,e,kvs,rfl,he1,λ o=>?_⟩
  refine for_dict (a:=e) (o:=o) (kvs:=kvs) (λ i σ H2=>i<=ks.length/\∃ z3 ko F,σ=[some (.ref d),some (.ref e),some (.ref r),z3]/\H2 e=some (.frz o (.dK kvs))/\(∀ b ob,H b=some ob->b≠e->H2 b=some ob)/\PvD H2 r ko F/\(∀ s,(F s).1<=202*i/\(F s).2=aM (aE (ks.take i) (duF g)) (rs.map WR.d) s)/\∀ s∈ko,s∈ps.map (·.1))
   ⟨gR _,_,[],λ _=>(0,0),rfl,ae,(λ b ob q ne=>by rw [af ne];exact s1 _ _ q),⟨⟨[],by rw [af ner.symm];exact h1,Tab.nil⟩,jb,λ _ _=>rfl⟩,λ s=>⟨gR _,?_⟩,λ s hs=>absurd hs g9⟩ (λ i σ H2 _ ⟨_,_,_,_,_,h,_⟩=>h) ?_ ?_
  ·rw [i7];have h1:=(no_out (A:=aE [] (duF g)) (s:=s) (λ n=>Rat.le_refl) _ O.ne (λ d hd=>(O.g1 d hd).1) λ d hd _=>rfl).1;have h2:=(no_in (A:=aE [] (duF g)) (s:=s) (λ n=>Rat.le_refl) _ O.ne (λ d hd=>(O.g1 d hd).1) λ d hd _=>rfl).1;show (0:Rat)=_;grind
  ·rintro i kv σ H2 hkv ⟨_,z3,ko,F,rfl,hf,k2,D,hF,sub⟩;obtain ⟨n,en,e1,ev,t,et,ht⟩:=tb.at_ ndk hkv;have hi:i<ks.length:=(gH.mp en).1;obtain ⟨gn,dn⟩:=good n (gI en);have ekv:kV kv.1=.str n:=by rw [e1];rfl
   rw [ekv];rw [et] at ev;obtain ⟨rw_,hrw,rfl⟩:=gL.mp gn;have hwd:rw_.d∈rs.map WR.d:=gL.mpr ⟨rw_,hrw,rfl⟩
   have i16:i<16:=by
    have:=aW ndk (ys:=rs.map (·.nm)) λ n hn=>(good n hn).1
    rw [gG] at this
    have:=W.few
    omega
   have lko:∀ {ks':List Str},ks'.Nodup->(∀ s∈ks',s∈ps.map (·.1))->ks'.length<=100:=λ {ks'} h1 h2=>by
    have:=aW h1 h2
    rw [gG] at this
    have:=O.lp
    omega
   obtain ⟨io1,io2⟩:=O.io _ hwd;rw [WR.d_st] at io1;rw [WR.d_go] at io2;have nsg:=O.ne _ hwd;rw [WR.d_st,WR.d_go] at nsg;have ht2:=k2 _ _ ht (aF ht he (by intro z;cases z));obtain ⟨v,gv,p1,gy,rfl,y1,y2⟩:=(hR.but he nde k2).get W.nd hrw;refine ⟨_,rfl,_,rfl,_,rfl,d,_,rfl,gv,p1,_,_,_,rfl,rfl,SqT.of y1,rfl,?_⟩;refine ⟨_,rfl,_,rfl,e,.ref t,rfl,.inl ⟨kvs,Sum.inr rw_.nm,.inr ⟨o,hf⟩,rfl,ev.symm⟩,t,_,_,_,rfl,rfl,SqT.of ht2,rfl,_,_,rfl,rfl,?_⟩;refine ⟨_,rfl,_,rfl,e,.ref t,rfl,.inl ⟨kvs,Sum.inr rw_.nm,.inr ⟨o,hf⟩,rfl,ev.symm⟩,t,_,_,_,rfl,rfl,SqT.of ht2,rfl,zL2,λ u nu=>?_⟩;obtain ⟨H3,zq,s3,hu⟩:=uG (o:=.tup [.int (0-(g rw_.nm).1),.int (g rw_.nm).2]) nu;rw [zq];have p100:(10:Int) ^ 30<=((2 ^ 100:Nat):Int):=by decide
   have p3:(6:Nat)<=2 ^ 100:=by decide
   obtain ⟨t0,t1,b0,b1⟩:=dn;refine ⟨r,u,rw_.st,ko,F,_,_,100,rfl,D.mono s3,hu,by omega,b0,by omega,by decide,by have:=(hF rw_.st).1;omega,lko D.nd sub,λ H4 kp D4=>?_⟩;have k4:∀ b ob,H b=some ob->b≠e->H4 b=some ob:=λ b ob q ne=>kp _ _ (aj q nr) (s3 _ _ (k2 _ _ q ne));have hf4:H4 e=some (.frz o (.dK kvs)):=kp _ _ ner (s3 _ _ hf);have ht4:=k4 _ _ ht (aF ht he (by intro z;cases z));obtain ⟨v,gv,p1,gy,rfl,y1,y2⟩:=(hR.but he nde k4).get W.nd hrw;have sub4:∀ s∈addK ko rw_.st,s∈ps.map (·.1):=λ s hs=>(mem_addK.mp hs).elim (sub s) λ z=>by rw [z];exact io1
   have fgo:upf F rw_.st ((F rw_.st).1+100+1,(F rw_.st).2+Rat.divInt (0-(g rw_.nm).1) (g rw_.nm).2) rw_.go=F rw_.go:=upf_ne nsg.symm;refine ⟨_,rfl,_,rfl,_,rfl,d,_,rfl,gv,p1,_,_,_,rfl,rfl,SqT.of y1,rfl,?_⟩;refine ⟨_,rfl,_,rfl,e,.ref t,rfl,.inl ⟨kvs,Sum.inr rw_.nm,.inr ⟨o,hf4⟩,rfl,ev.symm⟩,?_⟩;refine ⟨r,t,rw_.go,_,_,_,_,100,rfl,D4,ht4,by omega,b0,by omega,by decide,by rw [fgo];have:=(hF rw_.go).1;omega,lko D4.nd sub4,λ H5 kp5 D5=>?_⟩;rw [fgo] at D5;refine ⟨hi,_,_,_,rfl,kp5 _ _ ner hf4,λ b ob q ne=>kp5 _ _ (aj q nr) (k4 _ _ q ne),D5,λ s=>?_,λ s hs=>(mem_addK.mp hs).elim (sub4 s) λ z=>by rw [z];exact io2⟩
   have eA:aE (ks.take (i+1)) (duF g)=λ m=>if m=rw_.d.nm then aE (ks.take i) (duF g) m+duF g rw_.nm else aE (ks.take i) (duF g) m:=funext λ m=>by
    obtain ⟨tk,ntk⟩:=bD ndk en;rw [WR.d_nm,tk];unfold aE;by_cases c:m=rw_.nm
    ·rw [if_pos c,c,if_pos (by simp),if_neg ntk];grind
    ·rw [if_neg c];by_cases c2:m∈ks.take i
     ·rw [if_pos c2,if_pos (gU _ c2)]
     ·rw [if_neg c2,if_neg λ z=>(g7.mp z).elim c2 λ q=>c (gN.mp q)]
   rw [eA,two_con O hwd,WR.d_st,WR.d_go];have h1:=hF s;have h2:=hF rw_.st;have h3:=hF rw_.go;unfold upf;by_cases c1:s=rw_.go
   ·rw [if_pos c1,if_pos c1];refine ⟨by show (F rw_.go).1+100+1<=_;omega,?_⟩;show (F rw_.go).2+_=_;rw [h3.2];rfl
   ·rw [if_neg c1,if_neg c1];by_cases c2:s=rw_.st
    ·rw [if_pos c2,if_pos c2];refine ⟨by show (F rw_.st).1+100+1<=_;omega,?_⟩;show (F rw_.st).2+_=_;rw [h2.2,neg_div];rfl
    ·rw [if_neg c2,if_neg c2];exact ⟨by omega,h1.2⟩
  ·rintro σ H2 ⟨_,z3,ko,F,rfl,hf,k2,D,hF,sub⟩;rw [tb.len,gP] at hF
   have lk:ks.length<=16:=by
    have:=aW ndk (ys:=rs.map (·.nm)) λ n hn=>(good n hn).1
    rw [gG] at this
    have:=W.few
    omega
   have sf:Same H (upd H2 e (.dK kvs)):=λ b ob q=>by
    by_cases hb:b=e
    ·subst hb;rw [ae,<- he,q]
    ·rw [af hb];exact k2 _ _ q hb
   obtain ⟨kv2,hr2,tb2⟩:=D.ex;refine ⟨o,hf,_,rfl,k r _ ko F nr sf ⟨⟨kv2,by rw [af ner.symm];exact hr2,tb2.mono λ v x ⟨t,c,d,z,h1,h2⟩=>⟨t,c,d,z,by rw [af (aF h1 hf (by intro z;cases z))];exact h1,h2⟩⟩,D.nd,D.no⟩ (λ s=>⟨by have:=(hF s).1;omega,(hF s).2⟩) sub⟩
theorem PthW.all:∀ {l:List WD} {p q:Str},PthW p l q->p::l.map (·.go)=l.map (·.st)++[q]
 | [],p,q,h=>by rw [show p=q from h];rfl
 | x::r,p,q,h=>by
  have:=PthW.all h.2
  rw [iM,this,iM,h.1];rfl
theorem dset_in {xs:List Str} (nd:xs.Nodup) {q:Str} (h:q∈xs):(cw (xs++[q])).length=xs.length:=by
 rw [dset_snoc,if_pos (show q∈cw xs from dgo_mem.mpr (.inr h))];exact (dset_nodup xs).mpr nd
theorem PvIs.sg {H:Hp} {v:V} {y:Nat × Rat} (h:PvIs H v y):∃ t c d,v=.ref t/\H t=some (.tup [.int c,.int d])/\(y.2<0->c<0)/\(0<y.2->0<c):=by
 obtain ⟨t,c,d,e,h1,_,h3,_,h5⟩:=h;have i1:=fc c (show 0<d by omega);rw [h5] at i1;refine ⟨t,c,d,e,h1,λ z=>?_,λ z=>?_⟩
 ·have h6:¬ 0<=y.2:=by grind
  exact hX λ q=>h6 (i1.mpr (by omega))
 ·have a1:=i1.mp (by grind)
  have a2:c≠0:=λ q=>by
   rw [q,Rat.zero_divInt] at h5;rw [<- h5] at z;grind
  omega
noncomputable def Kp2 (b e:Addr) (H H':Hp):Prop:=∀ c o,H c=some o->c≠b->c≠e->H' c=some o
inductive IspStrand39 (a:Ad) (vs:List V) (H:Hp) (Q:VK):Prop
 | mk (d o bw be:Addr) (v:V) (sp:List Str) (rs:List WR) (ps:List (Str × Rat)) (s:SD) (A0:Str->Rat) (ko kw ke:List Str) (Fo Fw Fe:Str->Nat × Rat) (h1:vs=[.ref d,.ref o,.ref bw,.ref be,v]) (h2:RowsAt H d rs) (h3:W39 sp rs) (h4:NsOk ps (rs.map WR.d)) (h5:StIs a [] H v s) (h6:StOk A0 (2 ^ 200) (rs.map WR.d) s) (h7:PvD H o ko Fo) (h8:(∀ s,(Fo s).1<=4000/\(Fo s).2=aM A0 (rs.map WR.d) s)) (h9:PvD H bw kw Fw) (h10:PvD H be ke Fe) (h11:d≠bw) (h12:d≠be) (h13:o≠bw) (h14:o≠be) (h15:bw≠be) (h16:(∀ n,(Fw n).1<=7000/\(Fe n).1<=7000)) (h17:(∀ n∈kw,n∈rs.map (·.nm))) (h18:(∀ n∈ke,n∈ps.map (·.1))) (h19:∀ H' kw' ke' Fw' Fe',Kp2 bw be H H'->PvD H' bw kw' Fw'->PvD H' be ke' Fe'->(∀ n,(Fw' n).1<=(Fw n).1+201/\(Fw' n).2=(Fw n).2+sdA s n)->(∀ n,(Fe' n).1<=(Fe n).1+201/\(Fe' n).2=(Fe n).2+sdE s n)->(∀ n∈kw',n∈rs.map (·.nm))->(∀ n∈ke',n∈ps.map (·.1))->Q (.bl true) H'):IspStrand39 a vs H Q
noncomputable def spStrand39 (a:Ad):Sp:=λ vs H Q _=>IspStrand39 a vs H Q
theorem PvD.kp {H H':Hp} {d e:Addr} {ks kz:List Str} {F G:Str->Nat × Rat} (h:PvD H d ks F) (g:PvD H e kz G) (ne:d≠e) (k:KpD e H H'):PvD H' d ks F:=by
 obtain ⟨kvs,hd,tb⟩:=h.ex;obtain ⟨kve,he,_⟩:=g.ex;exact ⟨⟨kvs,k _ _ ne hd,tb.mono λ v x ⟨t,c,d,z,h1,h2⟩=>⟨t,c,d,z,k _ _ (aF h1 he (by intro z;cases z)) h1,h2⟩⟩,h.nd,h.no⟩
theorem ok_law_strand (T:TX K mg a):FnB P w K mg base CX0 "_law_strand" 4 ["_law_ways_here","_law_over","_law_by_way","_law_by_ends","_law_strand_here"] (spStrand39 a):=by
 refine T.d_law_strand.ok sc_law_strand (λ vs H Q E h=>?_) (λ f cdv A outer s H vs Q E hr h=>?_)
 ·obtain ⟨_,_,_,_,_,_,_,_,_,_,_,_,_,_,_,_,rfl,_⟩:=h;rfl
 ·obtain ⟨d,o,bw,be,v,sp,rs,ps,s,A0,ko,kw,ke,Fo,Fw,Fe,rfl,hR,W,O,st,ok,Do,hFo,Dw,De,n1,n2,n3,n4,n5,hF,subw,sube,k⟩:=h
  refine ⟨_,(ab (aL (PW.pt (fG (dv (cv (ax (ok_law_formed T) hr ak (aa (pv 4) ad)))) (fG (ar (op_neN hr.units0) (aw az (pv 4) ag (λ _ _=>rfl)) (a6 ad) (av _)) (eP (ar cR (cD (op_eqN hr.units0) (aw az (pv 4) ag (λ _ _=>rfl)) (a6 ad) (av _)) (cD (op_eqN hr.units0) (aw az (pv 4) ag (λ _ _=>rfl)) (a6 ad) (av _)) (av _)))))) (ah (ap gl)) aA)
   (ab (al (i:=5) sc_law_strand.nd rfl (Or.inl rfl) (ax (ok_law_told T) hr ak (aa (aw az (pv 4) ag (λ _ _=>rfl)) ad)))
   (ab (al (i:=6) sc_law_strand.nd rfl (Or.inl rfl) (ax (ok_law_walked T) hr ak (aa (pv 0) (aa (ao op_cat (aw az (pv 4) ag (λ _ _=>rfl)) (aw az (pv 4) ag (λ _ _=>rfl))) ad))))
   (ab (aL (ar eR (aD aO (by rfl) T.z_len im (aa (pv 6) ad)) ag (av _)) (ah (ap gl)) aA)
   (ab (aS gW rfl (aZ (ao op_cat (aw az (pv 4) ag (λ _ _=>rfl)) (aw az (pv 4) ag (λ _ _=>rfl)))) (au (i:=7) sc_law_strand.nd rfl (Or.inl rfl)) (ah (aQ (ax (b6 T) hr ak (aa (pv 2) (aa (pv 7) (aa (pv 5) ad)))))))
   (ab (aL (ar (op_eqN hr.units0) (aw az (pv 4) ag (λ _ _=>rfl)) (a6 ad) (av _)) (ah (ap (pe_and (cD cR (aw aY (pv 6) ag (λ _ _=>rfl)) (aw aY (pv 6) (fH dk ag) (λ _ _=>rfl)) (av _)) (pe_one (cD cR (aD fL (by rfl) T.z_len im (aa (bJ (call_setD hr.hd) (by rfl) T.z_set PyProof.Rows.boot_set (aa (pv 6) ad)) ad)) (ao op_sub (aD aO (by rfl) T.z_len im (aa (pv 6) ad)) ag) (av _)))))) aA)
   (ab (aQ (ax (b6 T) hr ak (aa (pv 3) (aa (aw aY (pv 6) ag (λ _ _=>rfl)) (aa (bK (aa (ao op_sub ag (aw az (pv 5) ag (λ _ _=>rfl))) (aa (aw az (pv 5) ag (λ _ _=>rfl)) ad))) ad)))))
   (ab (aQ (ax (b6 T) hr ak (aa (pv 3) (aa (aw aY (pv 6) (fH dk ag) (λ _ _=>rfl)) (aa (pv 5) ad)))))
   (ab (aL (PW.pt (fG (ar fI (aD fL (by rfl) T.z_len im (aa (bJ (call_setD hr.hd) (by rfl) T.z_set PyProof.Rows.boot_set (aa (pv 6) ad)) ad)) (aD aO (by rfl) T.z_len im (aa (pv 6) ad)) (av _)) (eP (ar op_ge (aw az (cQ (aH hr) (pv 1) (aw aY (pv 6) ag (λ _ _=>rfl)) (bK (aa ag (aa ag ad))) ⟨rfl,rfl,rfl,rfl⟩) ag (λ _ _=>rfl)) ag (av _))))) (ah (ap gl)) aA)
   (ah (ap (cD gm (aw az (cQ (aH hr) (pv 1) (aw aY (pv 6) (fH dk ag) (λ _ _=>rfl)) (bK (aa ag (aa ag ad))) ⟨rfl,rfl,rfl,rfl⟩) ag (λ _ _=>rfl)) ag (av _))))))))))))),?_⟩
  try dsimp only [aI,Cx.nox,Cx.wish]
  obtain ⟨u,l1,l2,l3,q,rfl,hu,h1,h2,h3,_,_,_,fq⟩:=id st;have bd:Bd 200 s.am:=ok.gz.bd (gJ _) (by decide);have xp:=di s.am
  obtain ⟨p,z,pth,lne⟩:∃ p z,PthW p (s.rg++s.pa) z/\s.rg++s.pa≠[]:=by
   rcases ok.or with ⟨e,rg⟩ | ⟨e,ne,p,z,h,_⟩
   ·obtain ⟨p,h⟩:=rg.rd;exact ⟨p,p,by rw [e,iB];exact h,by rw [e,iB];exact rg.ne⟩
   ·exact ⟨p,z,by rw [e];exact h,by rw [e];exact ne⟩
  have hem:(nmV s.rg).isEmpty≠(nmV s.pa).isEmpty:=by
   rcases ok.or with ⟨e,rg⟩ | ⟨e,ne,_⟩
   ·rw [e]
    cases er:s.rg with
    | nil=>exact absurd er rg.ne
    | cons=>exact λ z=>by cases z
   ·rw [e]
    cases er:s.pa with
    | nil=>exact absurd er ne
    | cons=>exact λ z=>by cases z
  have lpl:(p::(s.rg++s.pa).map (·.go)).length<=7:=by
   rw [ia,gG]
   have:=ok.len
   omega
  have lpl2:2<=(p::(s.rg++s.pa).map (·.go)).length:=by
   have:(s.rg++s.pa).length≠0:=λ z=>lne (List.length_eq_zero_iff.mp z)
   rw [ia,gG];omega
  have ecat:nmV s.rg++nmV s.pa=nmV (s.rg++s.pa):=by unfold nmV;rw [gM]
  have lcat:(nmV s.rg).length+(nmV s.pa).length<=sizeLine:=by
   have:=ok.len
   rw [hE] at this;unfold nmV;rw [gG,gG];exact fb (by omega)
  refine ⟨_,rfl,.ref u,s,rfl,st,ok.am,λ H1 s1=>⟨_,rfl,iteF ?_⟩⟩;have SU1:SqT K H1 u _:=SqT.of (s1 _ _ hu);refine ⟨_,rfl,u,_,_,_,rfl,rfl,SU1,rfl,by decide,λ e0 ne0=>?_⟩;have s2:=s1.trans (aB (o:=.lst []) ne0);have he0:upd H1 e0 (.lst []) e0=some (.lst []):=ae;generalize upd H1 e0 (.lst [])=H2 at s2 he0 ⊢;refine ⟨l3,e0,_,rfl,rfl,SqL.of (s2 _ _ h3),SqL.of he0,_,rfl,iteF ?_⟩;refine ⟨_,rfl,u,_,_,_,rfl,rfl,SqT.of (s2 _ _ hu),rfl,by decide,λ e1 ne1=>?_⟩;have s3:=s2.trans (aB (o:=.lst []) ne1);have he1:upd H2 e1 (.lst []) e1=some (.lst []):=ae;generalize upd H2 e1 (.lst [])=H3 at s3 he1 ⊢;refine ⟨l1,e1,_,rfl,rfl,SqL.of (s3 _ _ h1),SqL.of he1,?_⟩;refine ⟨_,rfl,u,_,_,_,rfl,rfl,SqT.of (s3 _ _ hu),rfl,by decide,λ e2 ne2=>?_⟩;have s4:=s3.trans (aB (o:=.lst []) ne2);have he2:upd H3 e2 (.lst []) e2=some (.lst []):=ae;generalize upd H3 e2 (.lst [])=H4 at s4 he2 ⊢;refine ⟨l2,e2,_,rfl,rfl,SqL.of (s4 _ _ h2),SqL.of he2,rfl,_,rfl,cE (gT λ z=>hem (V.bl.inj z)) ?_⟩;refine ⟨_,rfl,u,_,_,_,rfl,rfl,SqT.of (s4 _ _ hu),rfl,q,s.am,rfl,fq.mono s4,λ tp ntp=>?_⟩;have s5:=s4.trans (aB (o:=.tup [.int s.am.num,.int s.am.den]) ntp);have htp:upd H4 tp (.tup [.int s.am.num,.int s.am.den]) tp=some (.tup [.int s.am.num,.int s.am.den]):=ae;generalize upd H4 tp (.tup [.int s.am.num,.int s.am.den])=H5 at s5 htp ⊢;refine ⟨_,rfl,_,rfl,u,_,_,_,rfl,rfl,SqT.of (s5 _ _ hu),rfl,_,rfl,u,_,_,_,rfl,rfl,SqT.of (s5 _ _ hu),rfl,l1,l2,_,_,rfl,rfl,s5 _ _ h1,s5 _ _ h2,lcat,λ lc nlc=>?_⟩;rw [ecat];have s56:=aB (o:=.lst (nmV (s.rg++s.pa))) nlc;have s6:=s5.trans s56;have hlc:upd H5 lc (.lst (nmV (s.rg++s.pa))) lc=some (.lst (nmV (s.rg++s.pa))):=ae;generalize upd H5 lc (.lst (nmV (s.rg++s.pa)))=H6 at s56 s6 hlc ⊢;refine ⟨d,lc,sp,rs,_,p,z,rfl,hR.mono s6,W,hlc,ok.sub,lne,pth,ok.len,λ lp H7 nlp s67 hlp=>?_⟩;have s7:=s6.trans s67;have htp7:=s67 _ _ (s56 _ _ htp);refine ⟨_,rfl,lp,_,rfl,.inl (SqL.of hlp),_,_,rfl,rfl,_,rfl,?_⟩;rw [gG];refine cE (gT (by omega)) ?_;refine ⟨_,rfl,u,_,_,_,rfl,rfl,SqT.of (s7 _ _ hu),rfl,_,rfl,u,_,_,_,rfl,rfl,SqT.of (s7 _ _ hu),rfl,l1,l2,_,_,rfl,rfl,s7 _ _ h1,s7 _ _ h2,lcat,λ lc2 nlc2=>?_⟩;rw [ecat];have s78:=aB (o:=.lst (nmV (s.rg++s.pa))) nlc2;have s8:=s7.trans s78;have hlc2:upd H7 lc2 (.lst (nmV (s.rg++s.pa))) lc2=some (.lst (nmV (s.rg++s.pa))):=ae;generalize upd H7 lc2 (.lst (nmV (s.rg++s.pa)))=H8 at s78 s8 hlc2 ⊢;have htp8:=s78 _ _ htp7;have hlp8:=s78 _ _ hlp;have Dw8:=Dw.mono s8
  have lkw:∀ {ks':List Str},ks'.Nodup->(∀ s∈ks',s∈rs.map (·.nm))->ks'.length<=100:=λ {ks'} g1 g2=>by
   have:=aW g1 g2
   rw [gG] at this
   have:=W.few
   omega
  have lke:∀ {ks':List Str},ks'.Nodup->(∀ s∈ks',s∈ps.map (·.1))->ks'.length<=100:=λ {ks'} g1 g2=>by
   have:=aW g1 g2
   rw [gG] at this
   have:=O.lp
   omega
  have ndl:=ok.nd;generalize hl:s.rg++s.pa=l at pth lne ndl hlc2 hlp8 lpl lpl2;have subl:∀ x∈l,x∈rs.map WR.d:=by rw [<- hl];exact ok.sub
  have esA:∀ n,sdA s n=if n∈l.map (·.nm) then s.am else 0:=λ n=>by rw [<- hl];rfl
  obtain ⟨kvw,hw0,_⟩:=Dw8.ex;refine ⟨lc2,rfl,⟨_,SqL.of hlc2⟩,a9 (K:=K) (a:=lc2) (xs:=nmV l) (λ i σ H9=>i<=l.length/\∃ z7 kw' Fw',σ=[some (.ref d),some (.ref o),some (.ref bw),some (.ref be),some (.ref u),some (.ref tp),some (.ref lp),z7]/\KpD bw H8 H9/\PvD H9 bw kw' Fw'/\(∀ n,(Fw' n).1<=(Fw n).1+(if n∈(l.take i).map (·.nm) then 201 else 0)/\(Fw' n).2=(Fw n).2+(if n∈(l.take i).map (·.nm) then s.am else 0))/\∀ n∈kw',n∈rs.map (·.nm)) ⟨gR _,_,kw,Fw,rfl,λ _ _ _ e=>e,Dw8,λ n=>⟨Nat.le_add_right _ _,?_⟩,subw⟩ (λ i σ H9 _ ⟨_,_,_,_,_,kp,_⟩=>SqL.of (kp _ _ (aF hlc2 hw0 (by intro z;cases z)) hlc2)) ?_ ?_⟩
  ·rw [i7];show (Fw n).2=(Fw n).2+0;grind
  ·rintro i v σ H9 hv ⟨_,z7,kw',Fw',rfl,kp,D9,hF9,sub9⟩;unfold nmV at hv;rw [gK] at hv
   cases ex:l[i]? with
   | none=>rw [ex] at hv;cases hv
   | some x=>
    rw [ex] at hv
    cases hv;have hi:=(gH.mp ex).1
    have ntk:¬ x.nm∈(l.take i).map (·.nm)/\(l.take (i+1)).map (·.nm)=(l.take i).map (·.nm)++[x.nm]:=by
     obtain ⟨g1,g2⟩:=bD ndl (i:=i) (n:=x.nm) (by rw [gK,ex];rfl);rw [List.map_take,List.map_take];exact ⟨g2,g1⟩
    have hx:=hF9 x.nm;rw [if_neg ntk.1,if_neg ntk.1] at hx
    have:=(hF x.nm).1
    have hnx:x.nm∈rs.map (·.nm):=by
     obtain ⟨r,hr,e1,_⟩:=W.row (subl x (gI ex));exact gL.mpr ⟨r,hr,e1⟩
    refine ⟨_,rfl,_,rfl,_,rfl,bw,tp,x.nm,kw',Fw',_,_,200,rfl,D9,kp _ _ (aF htp8 hw0 (by intro z;cases z)) htp8,bd.1,by omega,by rw [iT];exact bd.2,by decide,by omega,lkw D9.nd sub9,λ H10 kp10 D10=>?_⟩;refine ⟨hi,_,_,_,rfl,kp.trans kp10,D10,λ n=>?_,λ n hn=>(mem_addK.mp hn).elim (sub9 n) λ z=>by rw [z];exact hnx⟩;rw [ntk.2];have hn:=hF9 n;unfold upf;by_cases c:n=x.nm
    ·rw [if_pos c,c,if_pos (by simp),if_pos (by simp)];refine ⟨by show (Fw' x.nm).1+200+1<=_;omega,?_⟩;show (Fw' x.nm).2+_=_;rw [hx.2,Rat.num_divInt_den];grind
    ·rw [if_neg c];by_cases c2:n∈(l.take i).map (·.nm)
     ·rw [if_pos c2,if_pos c2] at hn;rw [if_pos (gU _ c2),if_pos (gU _ c2)];exact hn
     ·have c3:¬ n∈(l.take i).map (·.nm)++[x.nm]:=λ z=>(g7.mp z).elim c2 λ q=>c (gN.mp q);rw [if_neg c2,if_neg c2] at hn;rw [if_neg c3,if_neg c3];exact hn
  rintro σ H9 ⟨_,z7,kw',Fw',rfl,kp,D9,hF9,sub9⟩;rw [show (nmV l).length=l.length by unfold nmV;rw [gG],gP] at hF9
  have hFw:∀ n,(Fw' n).1<=(Fw n).1+201/\(Fw' n).2=(Fw n).2+sdA s n:=λ n=>by
   obtain ⟨g1,g2⟩:=hF9 n;rw [esA];refine ⟨gZ g1 (Nat.add_le_add_left ?_ _),g2⟩
   split
   ·exact gJ _
   ·exact gR _
  clear hF9;have up:∀ {b:Addr} {ob:HO},H b=some ob->b≠bw->H9 b=some ob:=λ {b ob} e ne=>kp _ _ ne (s8 _ _ e)
  have uw:∀ {b:Addr} {ob:HO},H b=some ob->(∀ kvs,ob≠.dK kvs)->H9 b=some ob:=λ {b ob} e ne=>up e λ z=>by
   obtain ⟨kv0,hw,_⟩:=Dw.ex;rw [z,hw] at e
   cases e;exact ne _ rfl
  have hu9:=uw hu (by intro _ z;cases z);have hlp9:H9 lp=some (.lst ((p::l.map (·.go)).map V.str)):=kp _ _ (aF hlp8 hw0 (by intro z;cases z)) hlp8;have htp9:H9 tp=some (.tup [.int s.am.num,.int s.am.den]):=kp _ _ (aF htp8 hw0 (by intro z;cases z)) htp8;have De9:=(De.mono s8).kp Dw8 n5.symm kp;have Do9:=(Do.mono s8).kp Dw8 n3 kp;refine ⟨_,rfl,u,_,_,_,rfl,rfl,SqT.of hu9,rfl,by decide,λ e3 ne3=>?_⟩;obtain ⟨HA,zq,sA,he3⟩:=uG (o:=.lst []) ne3;rw [zq];have h2A:=sA _ _ (uw h2 (by intro _ z;cases z));have SLA:SqL K HA lp _:=SqL.of (sA _ _ hlp9);have elast:(p::l.map (·.go)).getLast?=some z:=by rw [pth.all,List.getLast?_append];rfl
  refine ⟨l2,e3,_,rfl,rfl,SqL.of h2A,SqL.of he3,_,rfl,?_⟩;rcases ok.or with ⟨e,rg⟩ | ⟨e,ne,p',z',pth',ndp,so,si⟩
  ·refine eW (by rw [e];rfl) ?_;rw [e,iB] at hl;obtain ⟨p',pth'⟩:=rg.rd;rw [hl] at pth';have hp:=pth.heads lne p;have hp':=pth'.heads lne p;have epz:p=z:=by rw [<- hp.1,<- hp.2,hp'.1,hp'.2]
   refine ⟨_,rfl,lp,_,_,_,rfl,rfl,SLA,atI_nat (j:=0) rfl,_,rfl,_,rfl,lp,_,_,_,rfl,rfl,SLA,at_last elast,rfl,_,rfl,eW (hU (by rw [epz])) ?_⟩;refine ⟨_,rfl,lp,_,rfl,SLA,by omega,λ q nq=>⟨q,_,rfl,ae,by omega,?_⟩⟩;have sB:∀ o,Same HA (upd HA q o):=λ o=>aB nq;generalize heq:upd HA q _=HB;have sB:Same HA HB:=heq ▸ sB _;refine ⟨_,rfl,lp,_,rfl,.inl (sB.seq SLA),_,_,rfl,rfl,rfl,?_⟩;have sAB:=sA.trans sB
   have ln:(cw (p::l.map (·.go))).length=l.length:=by
    have:z∈l.map (·.st):=by
     rw [<- epz,<- hp.1]
     cases hll:l with
     | nil=>exact absurd hll lne
     | cons x r=>simp
    rw [pth.all,dset_in (by rw [<- hl];exact rg.nd) this,gG]
   have ev:decide (V.int ((cw (p::l.map (·.go))).length:Nat)=V.int ((((p::l.map (·.go)).map V.str).length:Nat)-1))=true:=hU (by rw [ln,gG,ia,gG];congr 1;omega);have kk:=k HB kw' ke Fw' Fe (λ c ob hc n6 n7=>sAB _ _ (up hc n6)) (D9.mono sAB) (De9.mono sAB) hFw (λ n=>⟨Nat.le_add_right _ _,?_⟩) sub9 sube
   ·rw [<- ev] at kk;exact kk
   ·unfold sdE;rw [if_pos e];grind
  refine cE ?_ ?_
  ·cases er:s.pa with
   | nil=>exact absurd er ne
   | cons=>rfl
  rw [e,List.nil_append] at hl;rw [hl] at pth' ndp
  have epz:p=p'/\z=z':=by
   have hp:=pth.heads lne p;have hp':=pth'.heads lne p;exact ⟨by rw [<- hp.1,hp'.1],by rw [<- hp.2,hp'.2]⟩
  obtain ⟨rfl,rfl⟩:=epz
  have npz:p≠z:=λ zz=>by
   obtain ⟨x,hx⟩:∃ x,l.getLast?=some x:=by
    cases ex:l.getLast? with
    | none=>exact absurd (List.getLast?_eq_none_iff.mp ex) lne
    | some x=>exact ⟨x,rfl⟩
   refine (iC.mp ndp).1 ?_;rw [zz,<- pth.last x hx];exact gL.mpr ⟨x,List.mem_of_getLast? hx,rfl⟩
  have inp:p∈ps.map (·.1):=by
   have:=(pth.heads lne p).1
   rw [<- this]
   cases hll:l with
   | nil=>exact absurd hll lne
   | cons x r=>
    rw [hll] at subl;exact (O.io x (subl x ie)).1
  have inz:z∈ps.map (·.1):=by
   obtain ⟨x,hx⟩:∃ x,l.getLast?=some x:=by
    cases ex:l.getLast? with
    | none=>exact absurd (List.getLast?_eq_none_iff.mp ex) lne
    | some x=>exact ⟨x,rfl⟩
   rw [<- pth.last x hx];exact (O.io x (subl x (List.mem_of_getLast? hx))).2
  have STA:SqT K HA tp _:=SqT.of (sA _ _ htp9);refine ⟨_,rfl,_,rfl,lp,_,_,_,rfl,rfl,SLA,atI_nat (j:=0) rfl,_,rfl,tp,_,_,_,rfl,rfl,STA,rfl,_,_,rfl,rfl,_,rfl,tp,_,_,_,rfl,rfl,STA,rfl,zL2,λ u2 nu2=>?_⟩;obtain ⟨HB,zq,sAB,hu2⟩:=uG (o:=.tup [.int (0-s.am.num),.int s.am.den]) nu2;rw [zq];have sB:=sA.trans sAB;have DeB:=De9.mono sB;have DoB:=Do9.mono sB;have DwB:=D9.mono sB;obtain ⟨kve,he9,_⟩:=DeB.ex;have b1:(0-s.am.num).natAbs<=2 ^ 200:=by have:=bd.1;omega
  refine ⟨be,u2,p,ke,Fe,_,_,200,rfl,DeB,hu2,b1,by omega,by rw [iT];exact bd.2,by decide,by have:=(hF p).2;omega,lke De.nd sube,λ HC kpC DC=>?_⟩;have nde:∀ {b:Addr} {ob:HO},HB b=some ob->(∀ kvs,ob≠.dK kvs)->b≠be:=λ {b ob} e1 e2=>aF e1 he9 (e2 _);have hlpC:=kpC _ _ (nde (sB _ _ hlp9) (by intro _ z;cases z)) (sB _ _ hlp9);have htpC:=kpC _ _ (nde (sB _ _ htp9) (by intro _ z;cases z)) (sB _ _ htp9);have subC:∀ n∈addK ke p,n∈ps.map (·.1):=λ n hn=>(mem_addK.mp hn).elim (sube n) λ q=>by rw [q];exact inp
  have fz:upf Fe p ((Fe p).1+200+1,(Fe p).2+Rat.divInt (0-s.am.num) s.am.den) z=Fe z:=upf_ne npz.symm;refine ⟨_,rfl,_,rfl,_,rfl,lp,_,_,_,rfl,rfl,SqL.of hlpC,at_last elast,_,rfl,?_⟩;refine ⟨be,tp,z,_,_,_,_,200,rfl,DC,htpC,bd.1,by omega,by rw [iT];exact bd.2,by decide,by rw [fz];have:=(hF z).2;omega,lke DC.nd subC,λ HD kpD DD=>?_⟩;rw [fz] at DD;have hlpD:=kpD _ _ (nde (sB _ _ hlp9) (by intro _ z;cases z)) hlpC;have DoD:=(DoB.kp DeB n4 kpC).kp DC n4 kpD;have DwD:=(DwB.kp DeB n5 kpC).kp DC n5 kpD;have SLD:SqL K HD lp _:=SqL.of hlpD;have subD:∀ n∈addK (addK ke p) z,n∈ps.map (·.1):=λ n hn=>(mem_addK.mp hn).elim (subC n) λ q=>by rw [q];exact inz
  have hFe:∀ n,((upf (upf Fe p ((Fe p).1+200+1,(Fe p).2+Rat.divInt (0-s.am.num) s.am.den)) z ((Fe z).1+200+1,(Fe z).2+Rat.divInt s.am.num s.am.den)) n).1<=(Fe n).1+201/\((upf (upf Fe p ((Fe p).1+200+1,(Fe p).2+Rat.divInt (0-s.am.num) s.am.den)) z ((Fe z).1+200+1,(Fe z).2+Rat.divInt s.am.num s.am.den)) n).2=(Fe n).2+sdE s n:=λ n=>by
   have esE:sdE s n=fS p z s.am n:=by
    unfold sdE;rw [hl,(pth.heads lne n).1,(pth.heads lne n).2,if_neg lne]
   rw [esE,neg_div,Rat.num_divInt_den];unfold upf fS;by_cases c1:n=z
   ·rw [if_pos c1,if_pos c1,if_neg (c:=n=p) (λ q=>npz (by rw [<- q,c1])),c1];exact ⟨by show (Fe z).1+200+1<=_;omega,by show (Fe z).2+s.am=_;grind⟩
   ·rw [if_neg c1,if_neg c1];by_cases c2:n=p
    ·rw [if_pos c2,if_pos c2,c2];exact ⟨by show (Fe p).1+200+1<=_;omega,by show (Fe p).2 + -s.am=_;grind⟩
    ·rw [if_neg c2,if_neg c2];exact ⟨Nat.le_add_right _ _,by grind⟩
  have kD:Kp2 bw be H HD:=λ c ob hc n6 n7=>kpD _ _ n7 (kpC _ _ n7 (sB _ _ (up hc n6)));generalize upf (upf Fe p ((Fe p).1+200+1,(Fe p).2+Rat.divInt (0-s.am.num) s.am.den)) z ((Fe z).1+200+1,(Fe z).2+Rat.divInt s.am.num s.am.den)=Fe' at DD hFe;refine ⟨_,rfl,lp,_,rfl,SLD,by omega,λ q nq=>⟨q,_,rfl,ae,by omega,?_⟩⟩;have sE:∀ o,Same HD (upd HD q o):=λ o=>aB nq;generalize heq:upd HD q _=HE;have sE:Same HD HE:=heq ▸ sE _;refine ⟨_,rfl,lp,_,rfl,.inl (sE.seq SLD),rfl,_,rfl,gB (by rw [gG,(dset_nodup _).mpr ndp]) ?_⟩;have DoE:=DoD.mono sE;obtain ⟨kvo,hoE,_⟩:=DoE.ex;refine ⟨_,rfl,o,rfl,.inl ⟨kvo,.inl hoE⟩,_,rfl,lp,_,_,_,rfl,rfl,sE.seq SLD,atI_nat (j:=0) rfl,zL2,λ y ny=>?_⟩;obtain ⟨HF,zq,sF,hy⟩:=uG (o:=.tup [.int 0,.int 1]) ny;rw [zq];obtain ⟨kvo',v1,hd1',ev1,r1⟩:=DoE.get sF p hy;refine ⟨_,DGet.k (k:=Sum.inr p) hd1',?_⟩;rw [ev1];obtain ⟨t1,c1,d1,rfl,ht1,neg1,_⟩:=r1.sg
  have:=neg1 (by rw [(hFo p).2];exact so)
  refine ⟨t1,_,_,_,rfl,rfl,SqT.of ht1,rfl,_,_,rfl,rfl,_,rfl,cE (gT (by omega)) ?_⟩;have sEF:=sE.trans sF;have DoF:=DoE.mono sF;obtain ⟨kvo2,hoF,_⟩:=DoF.ex;refine ⟨_,rfl,o,rfl,.inl ⟨kvo2,.inl hoF⟩,_,rfl,_,rfl,lp,_,_,_,rfl,rfl,sEF.seq SLD,at_last elast,zL2,λ y2 ny2=>?_⟩;obtain ⟨HG,zq,sG,hy2⟩:=uG (o:=.tup [.int 0,.int 1]) ny2;rw [zq];obtain ⟨kvo3,v2,hd2',ev2,r2⟩:=DoF.get sG z hy2;refine ⟨_,DGet.k (k:=Sum.inr z) hd2',?_⟩;rw [ev2];obtain ⟨t2,c2,d2,rfl,ht2,_,pos2⟩:=r2.sg;have h0:=pos2 (by rw [(hFo z).2];exact si);refine ⟨t2,_,_,_,rfl,rfl,SqT.of ht2,rfl,_,_,rfl,rfl,?_⟩;rw [hU h0];have sDG:=sEF.trans sG;exact k HG kw' _ Fw' Fe' (λ c ob hc n6 n7=>sDG _ _ (kD c ob hc n6 n7)) (DwD.mono sDG) (DD.mono sDG) hFw hFe sub9 subD
theorem DuO.gz {c:Int × Int} (h:DuO c):0<=Rat.divInt c.1 c.2/\Gz (60*10 ^ 30) (Rat.divInt c.1 c.2):=by
 obtain ⟨t,b⟩:=c;obtain ⟨t0,t1,b0,b1⟩:=h;refine ⟨(fc t (by omega)).mpr t0,?_⟩
 have key:∀ k:Int,b*k=60->0<=k->k<=60->Gz (60*10 ^ 30) (Rat.divInt t b):=λ k e k0 k1=>by
  have t1:t<10 ^ 30:=t1;have t0:0<=t:=t0;refine ⟨t*k,?_,?_⟩
  ·have h1:t*k<=10 ^ 30*60:=Int.mul_le_mul (by omega) k1 k0 (by decide);have h2:0<=t*k:=Int.mul_nonneg t0 k0;omega
  ·have hb:(b:Rat)≠0:=by
    have:b≠0:=by omega
    exact_mod_cast this
   have e2:(b:Rat)*(k:Rat)=60:=by exact_mod_cast e
   rw [Rat.divInt_eq_div,Rat.intCast_mul,<- e2]
   have:=Rat.mul_inv_cancel _ hb
   grind
 have hb:b=1∨b=2∨b=3∨b=4∨b=5∨b=6:=by omega
 rcases hb with rfl | rfl | rfl | rfl | rfl | rfl
 ·exact key 60 (by decide) (by decide) (by decide)
 ·exact key 30 (by decide) (by decide) (by decide)
 ·exact key 20 (by decide) (by decide) (by decide)
 ·exact key 15 (by decide) (by decide) (by decide)
 ·exact key 12 (by decide) (by decide) (by decide)
 ·exact key 10 (by decide) (by decide) (by decide)
theorem W39.names {sp:List Str} {rs:List WR} (_:W39 sp rs):(rs.map WR.d).map (·.nm)=rs.map (·.nm):=by
 rw [iF];exact List.map_congr_left λ r _=>WR.d_nm r
theorem W39.ns {sp:List Str} {rs:List WR} {n:Nat} (h:W39 sp rs) (N:Names sp n) (n6:n<=6):NsOk (cu sp) (rs.map WR.d):=by
 refine ⟨by rw [dg];exact N.nd,by unfold cu;rw [gG,N.len];exact n6,by rw [h.names];exact h.nd,by rw [gG];exact h.len,λ d hd=>?_,λ d hd=>?_,λ d hd=>?_⟩
 ·obtain ⟨r,hr,rfl⟩:=gL.mp hd;refine ⟨?_,(WR.d_sm (h.all r hr).gb).1⟩;rw [WR.d_gain (h.all r hr).gb,(h.one r hr).1,(h.one r hr).2];rfl
 ·obtain ⟨r,hr,rfl⟩:=gL.mp hd;rw [WR.d_st,WR.d_go];exact (h.all r hr).ne
 ·obtain ⟨r,hr,rfl⟩:=gL.mp hd;rw [dg,WR.d_st,WR.d_go];exact ⟨(h.all r hr).i1,(h.all r hr).i2⟩
theorem NsOk.sums {ps:List (Str × Rat)} {ns:List WD} {A:Str->Rat} {M:Nat} (O:NsOk ps ns) (hA:∀ n,Gz M (A n)) (hM:24*M<=2 ^ 200):SumOk A ps ns:=by
 have bA:∀ n,SmR (A n):=λ n=>((hA n).bd (n:=200) (by omega) (by decide)).smr (by decide);refine ⟨O.np,by have:=O.lp;omega,O.io,O.ne,λ d hd=>⟨(O.g1 d hd).2,by rw [(O.g1 d hd).1];exact Bd.one.smr (by decide)⟩,λ d hd=>⟨bA _,by rw [(O.g1 d hd).1,Rat.mul_one];exact bA _⟩,λ i s=>?_⟩
 have:=sumF_gz hA (s:=s) (ns.take i) (λ d hd=>O.ne d (List.mem_of_mem_take hd)) λ d hd=>(O.g1 d (List.mem_of_mem_take hd)).1
 refine (this.bd (n:=200) (gZ (Nat.mul_le_mul_right _ ?_) hM) (by decide)).smr (by decide);rw [gS]
 have:=O.ln
 omega
noncomputable def duP (ks:List Str) (g:Str->Int × Int) (n:Str):Nat × Rat:=if n∈ks then (100,duF g n) else (0,0)
theorem duP_pv {H:Hp} {e:Addr} {kvs:List (Key × V)} {ks:List Str} {g:Str->Int × Int} (he:H e=some (.dK kvs)) (tb:Tab DueIs H kvs ks g) (nd:ks.Nodup) (good:∀ n∈ks,DuO (g n)):PvD H e ks (duP ks g):=by
 refine ⟨⟨kvs,he,tb.keys,λ n hn=>?_⟩,nd,λ n hn=>if_neg hn⟩;obtain ⟨v,ev,t,et,ht⟩:=tb.vals n hn;obtain ⟨t0,t1,b0,b1⟩:=good n hn;have p100:(10:Int) ^ 30<=((2 ^ 100:Nat):Int):=by decide
 have p3:(6:Nat)<=2 ^ 100:=by decide
 refine ⟨v,ev,t,_,_,et,ht,?_⟩;unfold duP;rw [if_pos hn];exact ⟨by show (g n).1.natAbs<=2 ^ 100;omega,b0,by show (g n).2.natAbs<=2 ^ 100;omega,rfl⟩
theorem duP_val (ks:List Str) (g:Str->Int × Int) (n:Str):(duP ks g n).2=aE ks (duF g) n/\(duP ks g n).1<=100:=by
 unfold duP aE
 split
 ·exact ⟨rfl,gJ _⟩
 ·exact ⟨rfl,gR _⟩
noncomputable def cnt (ks:List Str) (F:Str->Nat × Rat):List Str:=ks.filter λ n=>decide ((F n).2≠0)
theorem nzc_cnt {α:Type} {f:α->Str} {p:α->Rat} {l:List α} {ks:List Str} {F:Str->Nat × Rat} (nd:(l.map f).Nodup) (h:∀ x∈l,p x≠0->f x∈ks/\(F (f x)).2≠0):nzc p l<=(cnt ks F).length:=by
 unfold nzc;rw [<- gG (f:=f)];refine aW (nd.sublist (List.Sublist.map _ List.filter_sublist)) λ n hn=>?_;obtain ⟨x,hx,rfl⟩:=gL.mp hn;obtain ⟨h1,h2⟩:=iZ.mp hx;obtain ⟨h3,h4⟩:=h x h1 (i5 h2);exact iZ.mpr ⟨h3,hU h4⟩
theorem PvIs.nz {H:Hp} {v:V} {y:Nat × Rat} (h:PvIs H v y):∃ t c d,v=.ref t/\H t=some (.tup [.int c,.int d])/\(c=0↔y.2=0):=by
 obtain ⟨t,c,d,e,h1,_,h3,_,h5⟩:=h;refine ⟨t,c,d,e,h1,λ z=>?_,λ z=>?_⟩
 ·rw [<- h5,z,Rat.zero_divInt]
 ·rw [z] at h5
  have:=(iY (show d≠0 by omega) (show (1:Int)≠0 by decide)).mp (show Rat.divInt c d=Rat.divInt 0 1 by rw [h5];rfl)
  omega
structure St39 (a:Ad) (H:Hp) (ls d e p:Addr) (sp:List Str) (rs:List WR) (kvs:List (Key × V)) (ks:List Str) (g:Str->Int × Int):Prop where
 hl:H ls=some (.lst (sp.map V.str))
 hR:RowsAt H d rs
 he:H e=some (.dK kvs)
 tb:Tab DueIs H kvs ks g
 hn:NetAt a H p (cu sp) (rs.map WR.d)
 W:W39 sp rs
 N:Names sp sp.length
 n6:sp.length<=6
 ndk:ks.Nodup
 good:∀ n∈ks,n∈rs.map (·.nm)/\DuO (g n)
 nde:d≠e
theorem St39.mono {H H':Hp} {ls d e p:Addr} {sp:List Str} {rs:List WR} {kvs:List (Key × V)} {ks:List Str} {g:Str->Int × Int} (h:St39 a H ls d e p sp rs kvs ks g) (s:Same H H'):St39 a H' ls d e p sp rs kvs ks g:=⟨s _ _ h.hl,h.hR.mono s,s _ _ h.he,h.tb.mono λ v x z=>z.mono s,h.hn.mono s,h.W,h.N,h.n6,h.ndk,h.good,h.nde⟩
theorem StIs.kd {H H':Hp} {v:V} {s:SD} (h:StIs a [] H v s) (k:KeepD H H'):StIs a [] H' v s:=by
 obtain ⟨u,l1,l2,l3,q,z,h1,h2,h3,h4,n1,n2,n3,dx,h5⟩:=h;have kk:∀ {b:Addr} {o:HO},H b=some o->(∀ kvs,o≠.dK kvs)->(∀ x y,o≠.frz x y)->H' b=some o:=λ e g1 g2=>k _ _ e g1 g2;exact ⟨u,l1,l2,l3,q,z,kk h1 (by intro _ z;cases z) (by intro _ _ z;cases z),kk h2 (by intro _ z;cases z) (by intro _ _ z;cases z),kk h3 (by intro _ z;cases z) (by intro _ _ z;cases z),kk h4 (by intro _ z;cases z) (by intro _ _ z;cases z),n1,n2,n3,dx,kk h5 (by intro _ z;cases z) (by intro _ _ z;cases z)⟩
theorem ok_law {f:Addr} {fd:FuncData} (N:Fun K "law" "law" s_law f fd) (T:TX K mg a):FnOk P w K mg base CX0 20 f fd ["_law_script"] (spLaw K):=by
 refine N.ok sc_law (λ vs H Q E h=>?_) (λ cdv A outer s H vs Q E hr h=>?_)
 ·obtain ⟨l,ns,rfl,_⟩:=h;rfl
 ·obtain ⟨l,ns,rfl,hS,hlen,hbt,k⟩:=h
  refine ⟨_,(ab (al (i:=1) sc_law.nd rfl (Or.inl rfl) (ax (bg T) hr ak (aa (pv 0) (aa ag ad))))
   (ab (al (i:=2) sc_law.nd rfl (Or.inl rfl) (ax (gr T) hr ak (aa (ax (bg T) hr ak (aa (pv 0) (aa ag ad))) (aa (ao bO ag (ao bv (pv 1) ag)) ad))))
   (ab (al (i:=3) sc_law.nd rfl (Or.inl rfl) (ax (ok_law_ways T) hr ak (aa (pv 0) (aa (pv 2) (aa (ao bO ag (ao bv (ao bO (ao ci (pv 1) ag) (ax (bg T) hr ak (aa (pv 0) (aa ag ad)))) ag)) ad)))))
   (ab (al (i:=4) sc_law.nd rfl (Or.inr rfl) (ax (ok_law_due T) hr ak (aa (pv 0) (aa (pv 3) ad))))
   (aP (al (i:=5) sc_law.nd rfl (Or.inl rfl) (ax (ok_law_net T) hr ak (aa (pv 2) (aa (pv 3) ad))))
   (ab (al (i:=6) sc_law.nd rfl (Or.inl rfl) bf)
   (aP (cB (aS gW rfl (c9 (pv 4)) (au (i:=7) sc_law.nd rfl (Or.inl rfl)) (ah (bo (aH hr) (pv 6) (pv 7) (bp (mk2 T) hr T.mg_Fraction ak (aa (aw az (aU (aH hr) (pv 4) (pv 7) (λ _ _=>rfl)) ag (λ _ _=>rfl)) (aa (aw az (aU (aH hr) (pv 4) (pv 7) (λ _ _=>rfl)) ag (λ _ _=>rfl)) ad))) rfl))))
   (aP (al (i:=8) sc_law.nd rfl (Or.inl rfl) (ax (ok_taken_apart T) hr ak (aa (pv 5) (aa (pv 6) ad))))
   (ab (aL (dv (cv (aD (cY (c:=.type "list")) (by rfl) T.z_isinstance iG (aa (pv 8) (aa (gk (v:=.ty "list") (by rfl) T.z_list iH rfl) ad))))) (ah (ap gl)) aA)
   (ab (al (i:=9) sc_law.nd rfl (Or.inr rfl) (ax (ok_law_changes T) hr ak (aa (pv 3) (aa (pv 4) ad))))
   (ab (al (i:=10) sc_law.nd rfl (Or.inl rfl) bf)
   (ab (al (i:=11) sc_law.nd rfl (Or.inl rfl) bf)
   (aP (aS gW rfl (aZ (pv 8)) (au (i:=12) sc_law.nd rfl (Or.inl rfl)) (ah (aL (dv (cv (ax (ok_law_strand T) hr ak (aa (pv 3) (aa (pv 9) (aa (pv 10) (aa (pv 11) (aa (pv 12) ad)))))))) (ah (ap gl)) aA)))
   (aP (al (i:=13) sc_law.nd rfl (Or.inl rfl) (ao bO (aD aO (by rfl) T.z_len im (aa (gj (b5 (xs:=["_law_name"]) (rest:=["_law_due_here"]) rfl (c9 (pv 4))
   (λ pins fp C' s' H'=>(au (i:=0) (show (["_law_name","_law_due_here"]:List Str).Nodup by decide +kernel) rfl (Or.inl rfl))) (λ pins fp C' s' H'=>(pts_one (ar fI (aw (r:=rIxT K) az (aU (aH hr) (pv 1) (pv 0) (λ _ _=>rfl)) ag (λ _ _=>rfl)) ag (av _))))
   (λ pins fp C' s' H'=>(pv 0))
   (Clos.many (ys:=["_law_due_here"]) rfl ⟨rfl,True.intro⟩ rfl (by decide +kernel)) (Reads.many (ys:=["_law_due_here"]) (js:=[4]) ⟨⟨rfl,rfl,rfl⟩,True.intro⟩))) ad)) (aD aO (by rfl) T.z_len im (aa (gj (b5 (xs:=["_law_spot"]) (rest:=["_law_over"]) rfl (c9 (pv 9))
   (λ pins fp C' s' H'=>(au (i:=0) (show (["_law_spot","_law_over"]:List Str).Nodup by decide +kernel) rfl (Or.inl rfl))) (λ pins fp C' s' H'=>(pts_one (ar fI (aw (r:=rIxT K) az (aU (aH hr) (pv 1) (pv 0) (λ _ _=>rfl)) ag (λ _ _=>rfl)) ag (av _))))
   (λ pins fp C' s' H'=>(pv 0))
   (Clos.many (ys:=["_law_over"]) rfl ⟨rfl,True.intro⟩ rfl (by decide +kernel)) (Reads.many (ys:=["_law_over"]) (js:=[9]) ⟨⟨rfl,rfl,rfl⟩,True.intro⟩))) ad))))
   (ah (ap (pe_and (cD op_le (aD aO (by rfl) T.z_len im (aa (pv 8) ad)) (pv 13) (av _)) (pe_and (ax (gt T) hr ak (aa (bJ (b8 hr.hd) (by rfl) T.z_list iH (aa (pv 3) ad)) (aa (pv 10) (aa (pv 4) ad)))) (pe_one (ax (gt T) hr ak (aa (pv 2) (aa (pv 11) (aa (pv 9) ad))))))))))))))))))))))),?_⟩
  try dsimp only [aI,Cx.nox,Cx.wish]
  generalize hk9:tCut _ _=k9
  revert k9
  refine keepG λ k9 hk9=>?_;refine ⟨_,rfl,l,ns,0,rfl,hS,by decide,by decide,λ c0=>?_⟩;refine ⟨_,rfl,l,ns,1,rfl,hS,by decide,by decide,λ c1=>?_⟩;obtain ⟨a1,a2⟩:=bQ c0 (show (0:Int)<5 by decide);obtain ⟨n,en⟩:=iR (show 0<=2+c0 % 5 by omega);refine ⟨_,rfl,_,_,rfl,rfl,zI5,_,_,rfl,rfl,c1,n,by show [V.int c1,V.int (2+c0 % 5)]=_;rw [en],by omega,λ ls H1 sp nls s1 hls hN=>?_⟩;obtain rfl:sp.length=n:=hN.len;refine ⟨_,rfl,_,rfl,_,rfl,_,_,rfl,rfl,⟨by decide,by decide⟩,_,rfl,l,ns,2,rfl,s1.seq hS,by decide,by decide,λ c2=>?_⟩;obtain ⟨b1,b2⟩:=bQ (c0 / 5+c2) (show (0:Int)<16 by decide);obtain ⟨m,em⟩:=iR (show 0<=1+(c0 / 5+c2) % 16 by omega);refine ⟨_,_,rfl,rfl,_,_,rfl,rfl,zI16,_,_,rfl,rfl,l,ls,ns,sp,sp.length,m,by show [V.ref l,V.ref ls,V.int (1+(c0 / 5+c2) % 16)]=_;rw [em],s1.seq hS,SqL.of hls,hN,by omega,by omega,by omega,λ d H2 rs nd s2 hR W=>?_⟩;have s12:=s1.trans s2;refine ⟨_,rfl,_,rfl,l,d,ns,sp,rs,rfl,s12.seq hS,hR,W,λ e H3 kvs ks g ne s3 he tb ndk good=>?_⟩
  have nde:d≠e:=by
   obtain ⟨kvd,hd,_⟩:=hR;exact aj hd ne
  subst hk9;refine cZ (λ σ' H'=>∃ p,σ'=[some (.ref l),some (.int c0),some (.ref ls),some (.ref d),some (.ref e),some (.ref p),none,none,none,none,none,none,none,none]/\St39 a H' ls d e p sp rs kvs ks g) ?_ ?_
  ·exact ⟨_,rfl,_,rfl,ls,d,sp,rs,rfl,SqL.of (s3 _ _ (s2 _ _ hls)),hN.nd,by omega,hR.mono s3,W.toRsOk,λ p H4 np s4 hn=>⟨p,rfl,s4 _ _ (s3 _ _ (s2 _ _ hls)),(hR.mono s3).mono s4,s4 _ _ he,tb.mono λ v x z=>z.mono s4,hn,W,hN,by omega,ndk,good,nde⟩⟩
  clear nde he tb ne s3 hR nd s2 hls hN nls b1 b2 em a1 a2 en;rintro zU hzU σ' H5 ⟨p,rfl,S⟩;subst hzU;intro r nr;obtain ⟨H6,zq,s6,hr6⟩:=uG (o:=.dK []) nr;rw [zq];have S6:=S.mono s6;have ner:e≠r:=aj S.he nr;have off6:NetOff a H6 p r (cu sp) (rs.map WR.d):=⟨H5,S.hn,s6,nr⟩
  have lks:ks.length<=16:=by
   have:=aW ndk (ys:=rs.map (·.nm)) λ n hn=>(good n hn).1
   rw [gG] at this
   have:=W.few
   omega
  refine cZ (λ σ' H'=>∃ z7 kvp,σ'=[some (.ref l),some (.int c0),some (.ref ls),some (.ref d),some (.ref e),some (.ref p),some (.ref r),z7,none,none,none,none,none,none]/\St39 a H' ls d e p sp rs kvs ks g/\NetOff a H' p r (cu sp) (rs.map WR.d)/\H' r=some (.dK kvp)/\Tab (FrIs a) H' kvp ks (duF g)) ?_ ?_
  ·refine ⟨e,.dK kvs,S6.he,(by intro o z q;cases q),_,rfl,e,kvs,rfl,S6.he,λ o=>?_⟩
   refine for_dict (a:=e) (o:=o) (kvs:=kvs) (λ i σ H2=>i<=ks.length/\∃ z7 kvp,σ=[some (.ref l),some (.int c0),some (.ref ls),some (.ref d),some (.ref e),some (.ref p),some (.ref r),z7,none,none,none,none,none,none]/\H2 e=some (.frz o (.dK kvs))/\(∀ b ob,H6 b=some ob->b≠e->b≠r->H2 b=some ob)/\H2 r=some (.dK kvp)/\Tab (FrIs a) H2 kvp (ks.take i) (duF g))
    ⟨gR _,_,[],rfl,ae,(λ b ob q ne _=>by rw [af ne];exact q),by rw [af ner.symm];exact hr6,by rw [i7];exact Tab.nil⟩ (λ i σ H2 _ ⟨_,_,_,_,h,_⟩=>h) ?_ ?_
   ·rintro i kv σ H2 hkv ⟨_,z7,kvp,rfl,hf,k2,hr2,tp⟩;obtain ⟨nm,enm,e1,ev,t,et,ht⟩:=S6.tb.at_ ndk hkv;have hi:=(gH.mp enm).1;obtain ⟨_,t0,t1,b0,b1⟩:=good nm (gI enm);have ekv:kV kv.1=.str nm:=by rw [e1];rfl
    rw [ekv];rw [et] at ev;have ht2:=k2 _ _ ht (aF ht S6.he (by intro z;cases z)) (aF ht hr6 (by intro z;cases z));refine ⟨_,rfl,_,rfl,e,.ref t,rfl,.inl ⟨kvs,Sum.inr nm,.inr ⟨o,hf⟩,rfl,ev.symm⟩,t,_,_,_,rfl,rfl,SqT.of ht2,rfl,?_⟩;refine ⟨_,rfl,_,rfl,e,.ref t,rfl,.inl ⟨kvs,Sum.inr nm,.inr ⟨o,hf⟩,rfl,ev.symm⟩,t,_,_,_,rfl,rfl,SqT.of ht2,rfl,_,_,rfl,by omega,Sm.of_le (n:=10) (by omega) (by decide),λ q H3 nq s3 f3=>?_⟩;obtain ⟨tk,ntk⟩:=bD ndk enm;refine ⟨_,rfl,_,rfl,r,_,rfl,DPut.k (k:=Sum.inr nm) (s3 _ _ hr2) (aq (by rw [tp.len,gS];omega)),?_⟩;have kp:KeepD H3 (upd H3 r (.dK (bj kvp (Sum.inr nm) (.ref q)))):=KeepD.put (s3 _ _ hr2);have tq:=Tab.put (n:=nm) (tp.mono λ v x z=>(z.mono s3).keep kp) (FrIs.keep (x:=duF g nm) ⟨q,rfl,f3⟩ kp);rw [dN ntk,<- tk] at tq;refine ⟨hi,_,_,rfl,by rw [af ner];exact s3 _ _ hf,(λ b ob z ne nr'=>by rw [af nr'];exact s3 _ _ (k2 _ _ z ne nr')),ae,tq.congr λ n _=>?_⟩;unfold upf
    split
    ·rename_i h;rw [h]
    ·rfl
   ·rintro σ H2 ⟨_,z7,kvp,rfl,hf,k2,hr2,tp⟩;rw [S6.tb.len,gP] at tp
    have sf:Same H5 (upd H2 e (.dK kvs)):=λ b ob q=>by
     by_cases hb:b=e
     ·subst hb;rw [ae,<- S.he,q]
     ·rw [af hb];exact k2 _ _ (s6 _ _ q) hb (aj q nr)
    exact ⟨o,hf,_,kvp,rfl,S.mono sf,⟨H5,S.hn,sf,nr⟩,by rw [af ner.symm];exact hr2,tp.mono λ v x z=>z.keep (.frz hf)⟩
  clear off6 S6 hr6 s6;rintro zU hzU σ' H7 ⟨z7,kvp,rfl,S7,off,hr7,tp⟩;have O:=W.ns S7.N S7.n6
  have gzA:∀ n,Gz (60*10 ^ 30) (aE ks (duF g) n):=λ n=>by
   unfold aE
   split
   ·rename_i h;exact (good n h).2.gz.2
   ·exact Gz.zero.mono (gR _)
  have hin:∀ n∈ks,n∈(rs.map WR.d).map (·.nm):=λ n hn=>by rw [W.names];exact (good n hn).1
  subst hzU;refine cZ (λ σ' H'=>∃ lf ts ss,σ'=[some (.ref l),some (.int c0),some (.ref ls),some (.ref d),some (.ref e),some (.ref p),some (.ref r),z7,some (.ref lf),none,none,none,none,none]/\St39 a H' ls d e p sp rs kvs ks g/\H' lf=some (.lst ts)/\RowAt (StIs a []) H' ts ss/\ApD (aE ks (duF g)) (2 ^ 200) (cu sp) (rs.map WR.d) ss) ?_ ?_
  ·exact ⟨_,rfl,_,rfl,p,r,_,_,kvp,ks,duF g,60*10 ^ 30,rfl,off,O,hr7,tp,ndk,hin,λ n hn=>(good n hn).2.gz,by decide,O.sums gzA (by decide),λ lf H' ts ss s' hlf rws apd=>⟨lf,ts,ss,rfl,S7.mono s',hlf,rws,apd⟩⟩
  clear off hr7 tp S7;rintro zU hzU σ' H8 ⟨lf,ts,ss,rfl,S8,hlf,rws,apd⟩;subst hzU;refine ⟨_,rfl,_,_,_,_,rfl,(λ u h=>h),TyOf.lst hlf,T.k_list_list,_,rfl,iteF ?_⟩;refine ⟨_,rfl,_,rfl,d,e,sp,rs,_,kvs,ks,g,rfl,S8.hR,W,O,S8.nde,S8.he,S8.tb,ndk,good,λ o H9 ko Fo no s9 Do hFo subo=>?_⟩;intro bw nbw;obtain ⟨HA,zq,sA,hbw⟩:=uG (o:=.dK []) nbw;rw [zq];intro be nbe;obtain ⟨HB,zq,sB,hbe⟩:=uG (o:=.dK []) nbe;rw [zq];have sAB:=sA.trans sB;have s8B:=s9.trans sAB;have SB:=S8.mono s8B;have DoB:=Do.mono sAB;have hbwB:=sB _ _ hbw;have hlfB:=s8B _ _ hlf;have rwsB:RowAt (StIs a []) HB ts ss:=rws.mono λ v x z=>z.kd (.of s8B);obtain ⟨kvd,hd8,_⟩:=S8.hR;obtain ⟨kvo,ho9,_⟩:=Do.ex;have ndw:d≠bw:=aj (s9 _ _ hd8) nbw;have nde':d≠be:=aj (sA _ _ (s9 _ _ hd8)) nbe;have now:o≠bw:=aj ho9 nbw;have noe:o≠be:=aj (sA _ _ ho9) nbe;have nwe:bw≠be:=aj hbw nbe;have new:e≠bw:=aj (s9 _ _ S8.he) nbw;have nee:e≠be:=aj (sA _ _ (s9 _ _ S8.he)) nbe;have neo:e≠o:=aj S8.he no;clear nbw nbe hbw sA sB sAB s8B ho9 no hlf rws S8 hd8 Do
  have lss:ss.length<=22:=by
   have h1:=apd.ct;have h2:=nzc_len (λ d:WD=>aE ks (duF g) d.nm) (rs.map WR.d);have h3:=nzc_len (aM (aE ks (duF g)) (rs.map WR.d)) ((cu sp).map (·.1));rw [gG] at h2 h3;have h4:=W.few;have h5:=O.lp;omega
  have lko:ko.length<=6:=by
   have:=aW DoB.nd subo
   rw [gG] at this
   have:=O.lp
   omega
  refine cZ (λ σ' H'=>∃ z12 kw ke Fw Fe,σ'=[some (.ref l),some (.int c0),some (.ref ls),some (.ref d),some (.ref e),some (.ref p),some (.ref r),z7,some (.ref lf),some (.ref o),some (.ref bw),some (.ref be),z12,none]/\Kp2 bw be HB H'/\PvD H' bw kw Fw/\PvD H' be ke Fe/\(∀ n,(Fw n).1<=7000/\(Fw n).2=totA ss n)/\∀ n,(Fe n).1<=7000/\(Fe n).2=totE ss n) ?_ ?_
  ·refine ⟨_,rfl,lf,rfl,⟨_,SqL.of hlfB⟩,a9 (K:=K) (a:=lf) (xs:=ts) (λ i σ H2=>i<=ss.length/\∃ z12 kw ke Fw Fe,σ=[some (.ref l),some (.int c0),some (.ref ls),some (.ref d),some (.ref e),some (.ref p),some (.ref r),z7,some (.ref lf),some (.ref o),some (.ref bw),some (.ref be),z12,none]/\Kp2 bw be HB H2/\PvD H2 bw kw Fw/\PvD H2 be ke Fe/\(∀ n,(Fw n).1<=201*i/\(Fw n).2=totA (ss.take i) n)/\(∀ n,(Fe n).1<=201*i/\(Fe n).2=totE (ss.take i) n)/\(∀ n∈kw,n∈rs.map (·.nm))/\∀ n∈ke,n∈(cu sp).map (·.1)) ⟨gR _,_,[],[],λ _=>(0,0),λ _=>(0,0),rfl,(λ _ _ e _ _=>e),⟨⟨[],hbwB,Tab.nil⟩,jb,λ _ _=>rfl⟩,⟨⟨[],hbe,Tab.nil⟩,jb,λ _ _=>rfl⟩,λ n=>⟨gR _,rfl⟩,λ n=>⟨gR _,rfl⟩,λ n h=>absurd h g9,λ n h=>absurd h g9⟩ (λ i σ H2 _ ⟨_,_,_,_,_,_,_,kp,_⟩=>SqL.of (kp _ _ hlfB (aF hlfB hbwB (by intro z;cases z)) (aF hlfB hbe (by intro z;cases z)))) ?_ ?_⟩
   ·rintro i v σ H2 hv ⟨_,z12,kw,ke,Fw,Fe,rfl,kp,Dw,De,hFw,hFe,subw,sube⟩;obtain ⟨x,ex,st⟩:=rwsB.get hv;have hi:=(gH.mp ex).1;have kd:KeepD HB H2:=λ b ob q g1 _=>kp b ob q (λ z=>by rw [z,hbwB] at q;cases q;exact g1 _ rfl) (λ z=>by rw [z,hbe] at q;cases q;exact g1 _ rfl)
    have hR2:RowsAt H2 d rs:=by
     obtain ⟨kv,h1,h2,h3⟩:=SB.hR;exact ⟨kv,kp _ _ h1 ndw nde',h2,h3.mono λ v x ⟨p,g,z,x1,x2⟩=>⟨p,g,z,kd _ _ x1 (by intro _ z;cases z) (by intro _ _ z;cases z),kd _ _ x2 (by intro _ z;cases z) (by intro _ _ z;cases z)⟩⟩
    have Do2:PvD H2 o ko Fo:=by
     obtain ⟨kv,h1,h2⟩:=DoB.ex;exact ⟨⟨kv,kp _ _ h1 now noe,h2.mono λ v x z=>z.kp kd⟩,DoB.nd,DoB.no⟩
    have tA:∀ n,totA (ss.take (i+1)) n=totA (ss.take i) n+sdA x n:=λ n=>by rw [gQ,ex,gY,totA_snoc]
    have tE:∀ n,totE (ss.take (i+1)) n=totE (ss.take i) n+sdE x n:=λ n=>by rw [gQ,ex,gY,totE_snoc]
    refine ⟨_,rfl,_,rfl,_,rfl,_,rfl,_,rfl,d,o,bw,be,v,sp,rs,_,x,aE ks (duF g),ko,kw,ke,Fo,Fw,Fe,rfl,hR2,W,O,st.kd kd,apd.each x (gI ex),Do2,hFo,Dw,De,ndw,nde',now,noe,nwe,λ n=>⟨by have:=(hFw n).1;omega,by have:=(hFe n).1;omega⟩,subw,sube,λ H3 kw' ke' Fw' Fe' kp3 Dw3 De3 hw he subw' sube'=>⟨_,rfl,iteF ?_⟩⟩;refine ⟨hi,_,kw',ke',Fw',Fe',rfl,λ b ob q g1 g2=>kp3 _ _ (kp _ _ q g1 g2) g1 g2,Dw3,De3,λ n=>⟨by have:=(hw n).1;have:=(hFw n).1;omega,by rw [(hw n).2,(hFw n).2,tA]⟩,λ n=>⟨by have:=(he n).1;have:=(hFe n).1;omega,by rw [(he n).2,(hFe n).2,tE]⟩,subw',sube'⟩
   ·rintro σ H2 ⟨_,z12,kw,ke,Fw,Fe,rfl,kp,Dw,De,hFw,hFe,subw,sube⟩;rw [rwsB.1,gP] at hFw hFe;exact ⟨z12,kw,ke,Fw,Fe,rfl,kp,Dw,De,λ n=>⟨by have:=(hFw n).1;omega,(hFw n).2⟩,λ n=>⟨by have:=(hFe n).1;omega,(hFe n).2⟩⟩
  rintro zU hzU σ' HC ⟨z12,kw,ke,Fw,Fe,rfl,kp,Dw,De,hFw,hFe⟩;have kd:KeepD HB HC:=λ b ob q g1 _=>kp b ob q (λ z=>by rw [z,hbwB] at q;cases q;exact g1 _ rfl) (λ z=>by rw [z,hbe] at q;cases q;exact g1 _ rfl);have hlfC:HC lf=some (.lst ts):=kd _ _ hlfB (by intro _ z;cases z) (by intro _ _ z;cases z);have hlC:HC ls=some (.lst (sp.map V.str)):=kd _ _ SB.hl (by intro _ z;cases z) (by intro _ _ z;cases z);obtain ⟨kvd,hdB,hkd,_⟩:=SB.hR;have hdC:HC d=some (.dK kvd):=kp _ _ hdB ndw nde';have DeC:PvD HC e ks (duP ks g):=duP_pv (kp _ _ SB.he new nee) (SB.tb.mono λ v x z=>z.keep kd) ndk λ n hn=>(good n hn).2
  have DoC:PvD HC o ko Fo:=by
   obtain ⟨kv,h1,h2⟩:=DoB.ex;exact ⟨⟨kv,kp _ _ h1 now noe,h2.mono λ v x z=>z.kp kd⟩,DoB.nd,DoB.no⟩
  clear kd kp DoB SB hlfB hbwB hbe hdB;subst hzU;refine cZ (λ σ' H'=>∃ m:Nat,σ'=[some (.ref l),some (.int c0),some (.ref ls),some (.ref d),some (.ref e),some (.ref p),some (.ref r),z7,some (.ref lf),some (.ref o),some (.ref bw),some (.ref be),z12,some (.int m)]/\Same HC H'/\m=(cnt ks (duP ks g)).length+(cnt ko Fo).length) ?_ ?_
  ·obtain ⟨kv1,he1,tb1⟩:=DeC.ex;refine ⟨e,.dK kv1,he1,(by intro o z q;cases q),_,rfl,e,kv1,rfl,he1,λ o1 l1 nl1=>?_⟩;have nd1:e≠l1:=λ z=>by rw [z,ae] at nl1;cases nl1
   have nl'1:HC l1=none:=by rw [af nd1.symm] at nl1;exact nl1
   refine cX (a:=e) (o:=o1) (kvs:=kv1) (λ i H2=>i<=ks.length/\H2 e=some (.frz o1 (.dK kv1))/\(∀ b ob,HC b=some ob->b≠e->H2 b=some ob)/\∃ ys,H2 l1=some (.lst ys)/\ys.length=(cnt (ks.take i) (duP ks g)).length)
    ⟨gR _,by rw [af nd1,ae],(λ b ob q ne=>by rw [af (aj q nl'1),af ne];exact q),[],ae,by rw [i7];rfl⟩ (λ i H2 ⟨_,h,_⟩=>h) ?_ ?_
   ·rintro i kv H2 hkv ⟨_,hf,k2,ys,hy,ly⟩;obtain ⟨nm,enm,e1,ev,pv⟩:=tb1.at_ DeC.nd hkv;have hi:=(gH.mp enm).1;have ekv:kV kv.1=.str nm:=by rw [e1];rfl
    rw [ekv];obtain ⟨t,c,d',et,ht,hc⟩:=pv.nz;rw [et] at ev;have ht2:=k2 _ _ ht (aF ht he1 (by intro z;cases z));have tk:cnt (ks.take (i+1)) (duP ks g)=cnt (ks.take i) (duP ks g)++cnt [nm] (duP ks g):=by unfold cnt;rw [gQ,enm,gY,i3]
    have ly2:ys.length<=i:=by
     have:(cnt (ks.take i) (duP ks g)).length<=(ks.take i).length:=iA _ _
     rw [gS] at this;omega
    refine g1 ⟨⟨[_],rfl,rfl⟩,?_⟩;refine ⟨_,rfl,_,rfl,e,.ref t,rfl,.inl ⟨kv1,Sum.inr nm,.inr ⟨o1,hf⟩,rfl,ev.symm⟩,t,_,_,_,rfl,rfl,SqT.of ht2,rfl,rfl,_,rfl,?_⟩;by_cases hz:c=0
    ·refine gB (by rw [hz]) (cy (by rw [tb1.len];exact hi) ⟨hi,hf,k2,ys,hy,?_⟩);rw [tk,show cnt [nm] (duP ks g)=[] by unfold cnt;rw [iL (by simpa using hc.mp hz)];rfl,iB];exact ly
    ·refine eW (by show (!decide (V.int c=V.int 0))=true;rw [gT λ z=>hz (V.int.inj z)];rfl) ⟨_,rfl,_,hy,aq (by omega),cy (by rw [tb1.len];exact hi) ⟨hi,by rw [af nd1];exact hf,(λ b ob q ne=>by rw [af (aj q nl'1)];exact k2 _ _ q ne),_,ae,?_⟩⟩;rw [tk,show cnt [nm] (duP ks g)=[nm] by unfold cnt;rw [iK (by simpa using λ z=>hz (hc.mpr z))];rfl,hE,hE,ly];rfl
   rintro H1 ⟨_,hf1,k1,ys1,hy1,ly1⟩;rw [tb1.len,gP] at ly1
   have s1:Same HC (upd H1 e (.dK kv1)):=λ b ob q=>by
    by_cases hb:b=e
    ·subst hb;rw [ae,<- he1,q]
    ·rw [af hb];exact k1 _ _ q hb
   refine ⟨o1,hf1,l1,_,rfl,.inl (SqL.of (show upd H1 e (.dK kv1) l1=some (.lst ys1) by rw [af nd1.symm];exact hy1)),?_⟩;have DoD:=DoC.mono s1;have hlD:upd H1 e (.dK kv1) l1=some (.lst ys1):=by rw [af nd1.symm];exact hy1
   generalize upd H1 e (.dK kv1)=HD at s1 DoD hlD ⊢;obtain ⟨kv2,he2,tb2⟩:=DoD.ex;refine ⟨o,.dK kv2,he2,(by intro o z q;cases q),_,rfl,o,kv2,rfl,he2,λ o2 l2 nl2=>?_⟩;have nd2:o≠l2:=λ z=>by rw [z,ae] at nl2;cases nl2
   have nl'2:HD l2=none:=by rw [af nd2.symm] at nl2;exact nl2
   refine cX (a:=o) (o:=o2) (kvs:=kv2) (λ i H2=>i<=ko.length/\H2 o=some (.frz o2 (.dK kv2))/\(∀ b ob,HD b=some ob->b≠o->H2 b=some ob)/\∃ ys,H2 l2=some (.lst ys)/\ys.length=(cnt (ko.take i) Fo).length)
    ⟨gR _,by rw [af nd2,ae],(λ b ob q ne=>by rw [af (aj q nl'2),af ne];exact q),[],ae,by rw [i7];rfl⟩ (λ i H2 ⟨_,h,_⟩=>h) ?_ ?_
   ·rintro i kv H2 hkv ⟨_,hf,k2,ys,hy,ly⟩;obtain ⟨nm,enm,e1,ev,pv⟩:=tb2.at_ DoD.nd hkv;have hi:=(gH.mp enm).1;have ekv:kV kv.1=.str nm:=by rw [e1];rfl
    rw [ekv];obtain ⟨t,c,d',et,ht,hc⟩:=pv.nz;rw [et] at ev;have ht2:=k2 _ _ ht (aF ht he2 (by intro z;cases z));have tk:cnt (ko.take (i+1)) Fo=cnt (ko.take i) Fo++cnt [nm] Fo:=by unfold cnt;rw [gQ,enm,gY,i3]
    have ly2:ys.length<=i:=by
     have:(cnt (ko.take i) Fo).length<=(ko.take i).length:=iA _ _
     rw [gS] at this;omega
    refine g1 ⟨⟨[_],rfl,rfl⟩,?_⟩;refine ⟨_,rfl,_,rfl,o,.ref t,rfl,.inl ⟨kv2,Sum.inr nm,.inr ⟨o2,hf⟩,rfl,ev.symm⟩,t,_,_,_,rfl,rfl,SqT.of ht2,rfl,rfl,_,rfl,?_⟩;by_cases hz:c=0
    ·refine gB (by rw [hz]) (cy (by rw [tb2.len];exact hi) ⟨hi,hf,k2,ys,hy,?_⟩);rw [tk,show cnt [nm] Fo=[] by unfold cnt;rw [iL (by simpa using hc.mp hz)];rfl,iB];exact ly
    ·refine eW (by show (!decide (V.int c=V.int 0))=true;rw [gT λ z=>hz (V.int.inj z)];rfl) ⟨_,rfl,_,hy,aq (by omega),cy (by rw [tb2.len];exact hi) ⟨hi,by rw [af nd2];exact hf,(λ b ob q ne=>by rw [af (aj q nl'2)];exact k2 _ _ q ne),_,ae,?_⟩⟩;rw [tk,show cnt [nm] Fo=[nm] by unfold cnt;rw [iK (by simpa using λ z=>hz (hc.mpr z))];rfl,hE,hE,ly];rfl
   rintro H2 ⟨_,hf2,k2,ys2,hy2,ly2⟩;rw [tb2.len,gP] at ly2
   have s2:Same HD (upd H2 o (.dK kv2)):=λ b ob q=>by
    by_cases hb:b=o
    ·subst hb;rw [ae,<- he2,q]
    ·rw [af hb];exact k2 _ _ q hb
   refine ⟨o2,hf2,l2,_,rfl,.inl (SqL.of (show upd H2 o (.dK kv2) l2=some (.lst ys2) by rw [af nd2.symm];exact hy2)),?_⟩;refine ⟨_,_,rfl,rfl,_,?_,s1.trans s2,rfl⟩;rw [ly1,ly2];rfl
  rintro zU hzU σ' HD ⟨m,rfl,sD,em⟩
  have ct:ss.length<=m:=by
   have h0:=apd.ct;have h1:=nzc_cnt (f:=λ d:WD=>d.nm) (p:=λ d:WD=>aE ks (duF g) d.nm) (l:=rs.map WR.d) (ks:=ks) (F:=duP ks g) O.nd λ x _ h=>⟨hX λ q=>h (if_neg q),by rw [(duP_val ks g x.nm).1];exact h⟩;have h2:=nzc_cnt (f:=λ s:Str=>s) (p:=aM (aE ks (duF g)) (rs.map WR.d)) (l:=(cu sp).map (·.1)) (ks:=ko) (F:=Fo) (by rw [List.map_id'];exact O.np) λ s _ h=>⟨hX λ q=>h (by rw [<- (hFo s).2,DoC.no s q]),by rw [(hFo s).2];exact h⟩;omega
  subst hzU;refine ⟨_,rfl,lf,_,rfl,.inl (SqL.of (sD _ _ hlfC)),_,rfl,_,_,rfl,rfl,_,rfl,eW (hU (by rw [rwsB.1];omega)) ?_⟩;refine ⟨_,rfl,d,kvd,rfl,.inl (sD _ _ hdC),λ l1 nl1=>?_⟩
  have ek:(kvd.map λ kv=>kV kv.1)=(rs.map (·.nm)).map V.str:=by
   have:=ix (List.map kV) hkd
   rw [iF,iF] at this;rw [iF];exact this
  rw [ek];have sE:=sD.trans (aB (o:=.lst ((rs.map (·.nm)).map V.str)) nl1);have hl1:upd HD l1 (.lst ((rs.map (·.nm)).map V.str)) l1=some (.lst ((rs.map (·.nm)).map V.str)):=ae;generalize upd HD l1 (.lst ((rs.map (·.nm)).map V.str))=HE at sE hl1 ⊢;refine ⟨_,rfl,_,rfl,l1,bw,e,rs.map (·.nm),kw,ks,Fw,duP ks g,rfl,SqL.of hl1,Dw.mono sE,DeC.mono sE,λ n _=>⟨?_,by have:=(hFw n).1;omega,by have:=(duP_val ks g n).2;omega⟩,λ HF sF=>⟨_,rfl,iteT ?_⟩⟩
  ·rw [(hFw n).2,(duP_val ks g n).1,apd.am n]
  have sEF:=sE.trans sF;exact ⟨_,rfl,_,rfl,_,rfl,ls,be,o,sp,ke,ko,Fe,Fo,rfl,SqL.of (sEF _ _ hlC),De.mono sEF,DoC.mono sEF,λ n _=>⟨by rw [(hFe n).2,(hFo n).2,apd.sm n],by have:=(hFe n).1;omega,by have:=(hFo n).1;omega⟩,λ HG sG=>k HG⟩
end
end G
namespace G
open PySem L2
theorem ln1 {α:Type} {P:List α->Prop} (h:∀ a,P [a]):∀ us:List α,us.length=1->P us
 | [a],_=>h a
theorem ln2 {α:Type} {P:List α->Prop} (h:∀ a b,P [a,b]):∀ us:List α,us.length=2->P us
 | [a,b],_=>h a b
theorem ln3 {α:Type} {P:List α->Prop} (h:∀ a b c,P [a,b,c]):∀ us:List α,us.length=3->P us
 | [a,b,c],_=>h a b c
theorem ln4 {α:Type} {P:List α->Prop} (h:∀ a b c d,P [a,b,c,d]):∀ us:List α,us.length=4->P us
 | [a,b,c,d],_=>h a b c d
theorem ln5 {α:Type} {P:List α->Prop} (h:∀ a b c d e,P [a,b,c,d,e]):∀ us:List α,us.length=5->P us
 | [a,b,c,d,e],_=>h a b c d e
theorem ln6 {α:Type} {P:List α->Prop} (h:∀ a b c d e f,P [a,b,c,d,e,f]):∀ us:List α,us.length=6->P us
 | [a,b,c,d,e,f],_=>h a b c d e f
theorem ln7 {α:Type} {P:List α->Prop} (h:∀ a b c d e f g,P [a,b,c,d,e,f,g]):∀ us:List α,us.length=7->P us
 | [a,b,c,d,e,f,g],_=>h a b c d e f g
section
variable {K:W.Frag} {h:Heap} {mg:Str->Option Value} {x qual:Str} {st:Stmt} {f C T:Addr} {fd:FuncData} {ps:List Str} {ds:Array Value} {oc:Value} {od an:Option Addr} {osl:Array (Option Value)} {kV doc pm cdv ct:Value}
noncomputable def BA (x qual:Str) (st:Stmt) (ps:List Str) (us:List Value):Prop:=∀ (kV doc pm:Value) (an:Option Addr) (cdv ct:Value),bindArgs (W.fnOf x qual (b7 st) (bh st) (ai st) .none kV doc pm an cdv ct) ⟨us,[]⟩=pure (ps.zip us)
noncomputable def BE (x qual:Str) (st:Stmt) (ps:List Str) (ds:Array Value) (es us:List Value):Prop:=∀ (T:Addr) (kV doc pm:Value) (an:Option Addr) (cdv ct:Value),∃ k,bindArgs (W.fnOf x qual (b7 st) (bh st) (ai st) (.ref T) kV doc pm an cdv ct) ⟨us,[]⟩=seqItems? (.ref T) >>= k/\k (some ds)=pure (ps.zip (us++es))
theorem bi (N:Fun K x qual st f fd) (b:∀ us:List Value,us.length=ps.length->BA x qual st ps us):Binds K fd ps []:=N.binds λ kV doc pm an cdv ct us hl=>b us hl kV doc pm an cdv ct
theorem biD {es:List Value} {n:Nat} (N:FunD K x qual st f fd ds) (e:n+es.length=ps.length) (b:∀ us:List Value,us.length=n->BE x qual st ps ds es us):Binds K fd ps es:=N.binds λ T kV doc pm an cdv ct us hl=>b us (by rw [hE] at hl;omega) T kV doc pm an cdv ct
theorem mD (X:K.In h) (G:h.Ns mainGlobals mg) (a:W.nsIn K mainGlobals x=some (some (.ref f))) (N:Fun K x x st f fd) (b:∀ us:List Value,us.length=ps.length->BA x x st ps us):FDe K mg x st ps:=⟨_,_,N,W.mg_of X G a,bi N b⟩
theorem mM (a:W.findIn K (.ref C) x=some (some (.ref f))) (N:Fun K x qual st f fd) (i:W.isFn K (.ref f)=true) (b:∀ us:List Value,us.length=ps.length->BA x qual st ps us):MDe K C x qual st ps:=⟨_,_,N,⟨a,i,N.kp⟩,bi N b⟩
theorem mI (a:W.findIn K (.ref C) "__init__"=some (some (.ref f))) (N:Fun K "__init__" qual st f fd) (m:W.makesIn K C=true) (i:W.isFn K (.ref f)=true) (k:W.keepIn K (.ref C)=true) (b:∀ us:List Value,us.length=ps.length->BA "__init__" qual st ps us):IDe K C qual st ps [[]]:=⟨_,_,N.gen,⟨m,a,i,k⟩,λ dvs hd=>by cases gN.mp hd;exact ⟨[],.nil,bi N b⟩⟩
theorem mJ {dvss:List (List V)} (a:W.findIn K (.ref C) "__init__"=some (some (.ref f))) (N:FunD K "__init__" qual st f fd ds) (m:W.makesIn K C=true) (i:W.isFn K (.ref f)=true) (k:W.keepIn K (.ref C)=true) (b:FunD K "__init__" qual st f fd ds->∀ dvs∈dvss,∃ es,Vals dvs es/\Binds K fd ps es):IDe K C qual st ps dvss:=⟨_,_,N.gen,⟨m,a,i,k⟩,b N⟩
theorem all0 {P:List V->Prop}:∀ d∈([]:List (List V)),P d:=λ _ h=>nomatch h
theorem all1 {P:List V->Prop} {d:List V} {r:List (List V)} (h:P d) (k:∀ d∈r,P d):∀ e∈d::r,P e:=λ e he=>by
 rcases hV.mp he with rfl | q
 ·exact h
 ·exact k e q
theorem mCD {n:Nat} (a:W.findCls K (.ref C) (.type "type") "__init__"=some (.val (.ref f))) (N:FunD K "__init__" qual st f fd ds) (r:W.readsIn K C (.type "type")=true) (s:W.specialIn K (.ref C) "__getattribute__"=some (some (.builtin "type.__getattribute__"))) (k:W.keepIn K (.ref f)=true) (e:n=ps.length) (b:∀ us:List Value,us.length=n->BE "__init__" qual st ps ds [] us):CDe K C qual st ps:=⟨_,_,N.gen,⟨r,s⟩,a,k,biD (es:=[]) N e b⟩
theorem mGi {v:Int} {t:Tok} (X:K.In h) (G:h.Ns mainGlobals mg) (a:W.nsIn K mainGlobals x=some (some (.int v t))):∃ tk,mg x=some (.int v tk):=⟨_,W.mg_of X G a⟩
end
theorem top {l:W.OpenLaw} {w:World} {K:W.Frag} {mg:Str->Option Value} {fa A0 A1 A2 A3 A4 A5 A6 A7 A8 A9 A10 A11 A12 A13 A14 A15:Addr} (hfa:mg "law"=some (.ref fa)) (T:TX K mg ⟨A0,A1,A2,A3,A4,A5,A6,A7,A8,A9,A10,A11,A12,A13,A14,A15⟩) :
  ∃ fd:FuncData,(∀ (s:Shared) (v:Value),BindsTo s fd ⟨[v],[]⟩ [("_law_script",v)])/\∀ base:Heap,K.In base->base.Ns mainGlobals mg->FnOk l.prog w K mg base CX0 20 fa fd ["_law_script"] (spLaw K):=by
 obtain ⟨f,fd,N,e,_⟩:=T.d_law
 cases hfa.symm.trans e;obtain ⟨oc,od,kV,doc,pm,an,cdv,ct,osl,rfl,_,_⟩:=N.ex;exact ⟨_,λ s v=>.of_eq rfl,λ base _ _=>zz_all (λ T f fd N=>ok_law N T) ⟨l.prog,w,K,mg,base,_⟩ T _ _ N⟩
theorem walkL {l:PySem.W.OpenLaw} {q:Program} {loose:List Str} {XP:(Str->Option Value)->Heap->Prop} {YP:World->Heap->Prop} {d:DefRec} {K:Params->W.Frag} (hn:l.most=some 63) (hdf:d.params.defaults=[])
  (hY:∀ (w:World) (h:Heap),YP w h->(K w.params).In h)
  (F:∀ (w:World) (mg:Str->Option Value) (fa:Addr) (h:Heap),(K w.params).In h->h.Ns mainGlobals mg->mg d.name=some (.ref fa)->
   ∃ fd:FuncData,(∀ (s:Shared) (u:Value),BindsTo s fd ⟨[u],[]⟩ [("_law_script",u)])/\∀ base:Heap,(K w.params).In base->base.Ns mainGlobals mg->FnOk l.prog w (K w.params) mg base CX0 20 fa fd ["_law_script"] (spLaw (K w.params))) :
  PySem.W.WalkO q loose XP YP l.row.toRowW d [] (λ f vs=>PySem.call f vs):=
 L2.walk_ofB (n:=63) (k:=20) (x:="_law_script") (CX:=λ _=>CX0) (sp:=λ w=>spLaw (K w.params)) hn (by decide) hdf ⟨rfl,by decide,by decide⟩ hY F (λ _ _ a ns hl hb _ hS=>⟨a,ns,rfl,hS,hl,λ i hi=>⟨hb i hi⟩,λ _=>rfl⟩) λ _ _ _ _ _ z=>z
end G
inductive PySem.W.Fast:Prop | tw6171863622506042051 | tw15710885465176049285 | tw17771857173847030160 | tw1158847363932632659 | tw2060078801217070508 | tw8513081970399437234 | tw8659882746796903937 | tw13467164282713482259 | tw12101092458562180510 | tw15544112446886036493 | tw3322901875603999541 | tw15075616086082037075 | tw15175776439862381136 | tw4473820425027441920 | tw2122121695692407164 | tw5922435744569426010 | tw12631338573218412454 | tw4932800180119936713 | tw16961937999218716170 | tw536069210490589801 | tw16903072950275349121 | tw3545096948030994840 | tw1088554392334383417 | tw7197640266286970833 | tw769830526053340273 | tw15206725733422603252 | tw7867347448676348773 | tw4583690659516036522 | tw9122793831764125771 | tw17173329319661099056 | tw13748120171842114194 | tw16392766107207461198 | tw3107705308678438148 | tw6143817765803917925 | tw4212422128452346696 | tw6291528638971864791 | tw15119977392517589599 | tw3366456273987550162 | tw7761707090476822855 | tw17252652942775568251 | tw9716155870549333549 | tw8919597105238558737 | tw11946415558368932041 | tw531181672267909941 | tw12553197874803556353 | tw7516163054638325619 | tw18417483385281578732 | tw3006161517191245575 | tw2441485769728452442 | tw14576124603958501486 | tw10495195909553424757 | tw6337594467553809913 | tw15441710059792446124 | tw5664567301979304974 | tw15421355171900582431 | tw15341002885408664304 | tw1227866615112697947 | tw703147339455731531 | tw5001852452080422203 | tw5628208767071927074 | tw11861580066637455123 | tw12918142744390822882 | tw6744422257344523074 | tw4218912691512771685 | tw2220718557466808868 | tw16674919841106248415 | tw2263500287293374464 | tw16648801262220355491 | tw10251133605778271314 | tw11239574338972993933 | tw18185861944589084738 | tw2217454987912959992 | tw13629283890723245849 | tw2184977652230790038 | tw15589395073523210686 | tw11125897406091946427 | tw5558770606682766822 | tw2932769286782798813 | tw10343867265335714969 | tw13544519201739130602 | tw17129416625531450203 | tw5671844844041491972 | tw10260240769471222266 | tw14210582937573300153 | tw3098908564707404154 | tw5994949096580034556 | tw5425039741852902549 | tw12392505859458857878 | tw9241541174054117189 | tw3963683100441269440 | tw755969719760247495 | tw18231407795402792022 | tw11812500669933005200 | tw12930532243354618717 | tw16394171393743846807 | tw11709094348989717575 | tw4888680756692160244 | tw8168775736926763074 | tw9999248706680836263 | tw8622431709040721940 | tw16439365278660665220 | tw5885888439931473730 | tw4003252570721347596 | tw7157416920164879428 | tw3423562337325071233 | tw1294838080584093834 | tw10399862688852133199 | tw12481255683651563089 | tw2202292788635257621 | tw4836038090620196570 | tw10109527952534126949 | tw14886716786193796807 | tw5405248058132321484 | tw15239330104071935780 | tw17679464245496390607 | tw491088655687249435 | tw1122586867195050420 | tw6436069710551092051 | tw17371407601636077149 | tw15607591941211555364 | tw9588336151780853146 | tw8584052216055478604
open PySem L2 in
local macro_rules | `(tactic| walk_at $s:str) => do
  let v := (s.getString.splitOn " ").toArray
  if v.size < 3 then Lean.Macro.throwUnsupported
  let id (i : Nat) := Lean.mkIdent (Lean.Name.mkSimple s!"o{i}")
  let KX := Lean.mkIdent `KX
  let GN := Lean.mkIdent `GN
  let ln (n : Nat) := Lean.mkIdent (Lean.Name.mkStr2 "G" s!"ln{n}")
  let us (n : Nat) : Lean.MacroM (Lean.TSyntax `term) := do
    let hs ← (Array.range n).mapM fun _ => `(Lean.Parser.Term.funBinder| _)
    `(fun $hs:funBinder* => rfl)
  let ks ← `(tactic| (try dsimp only) <;> k_is)
  if v[0]! == "H" then
    let hs ← (Array.range v[2]!.toNat!).mapM fun i => `(?$(id i):ident)
    return ← `(tactic| refine' G.top $(Lean.mkIdent `hmg) ⟨$hs,*⟩)
  let i0 := v[1]!.toNat!
  let mut ts : Array (Lean.TSyntax `tactic) := #[]
  for (t, j) in (v.extract 2 v.size).zipIdx do
    let c := t.take 1 |>.toString
    let n := (t.drop 1).toString.toNat!
    let i := id (i0 + j)
    if (c == "m") != (v[0]! == "m") then continue
    let r ← match c with
      | "m" => `(tactic| case $i:ident => refine' W.mg_of $KX $GN ?_; k_is)
      | "d" => `(tactic| case $i:ident => refine' G.mD $KX $GN ?a (fun_mk ?l ?c ?k) ($(ln n) $(← us (n + 6))); (case a => k_is); (case l => k_is); (case c => k_is); (case k => k_is))
      | "M" => `(tactic| case $i:ident => dsimp only; refine' G.mM ?a (fun_mk ?l ?c ?k) ?i ($(ln n) $(← us (n + 6))); (case a => k_is); (case l => k_is); (case c => k_is); (case k => k_is); (case i => k_is))
      | "I" => `(tactic| case $i:ident => dsimp only; refine' G.mI ?a (fun_mk ?l ?c ?k) ?m ?i ?j ($(ln n) $(← us (n + 6))); (case a => k_is); (case l => k_is); (case c => k_is); (case k => k_is); (case m => k_is); (case i => k_is); (case j => k_is))
      | "X" => `(tactic| case $i:ident => dsimp only; refine' G.mX ?a (fun_mk ?l ?c ?k) ?t ?e ($(ln n) $(← us (n + 6))); (case a => k_is); (case l => k_is); (case c => k_is); (case k => k_is); (case t => k_is); (case e => kernel_rfl))
      | "C" => `(tactic| case $i:ident => dsimp only; refine' G.mC ?a (fun_mk ?l ?c ?k) ?r ?s ($(ln n) $(← us (n + 6))); (case a => k_is); (case l => k_is); (case c => k_is); (case k => k_is); (case r => k_is); (case s => k_is))
      | "c" => `(tactic| case $i:ident => refine' ⟨?_, ?_, ?_, ?_⟩ <;> $ks:tactic)
      | "n" => `(tactic| case $i:ident => refine' (?_ : W.findIn _ _ _ = _); $ks:tactic)
      | "k" => `(tactic| case $i:ident => $ks:tactic)
      | "t" => `(tactic| case $i:ident => (try dsimp only); kit_is)
      | "x" => `(tactic| case $i:ident => (try dsimp only); k_exc)
      | "e" => `(tactic| case $i:ident => refine' G.mE0 ?a; (case a => $ks:tactic))
      | "b" => `(tactic| case $i:ident => refine' ⟨?_, ?_⟩ <;> $ks:tactic)
      | "g" => `(tactic| case $i:ident => refine' G.mGi $KX $GN ?a; (case a => k_is))
      | "s" => `(tactic| case $i:ident => refine' G.mGs $KX $GN ?a; (case a => k_is))
      | "z" => `(tactic| case $i:ident => refine' W.mg_none_of $KX $GN ?_; k_is)
      | "E" => do
        let e := Lean.mkIdent (Lean.Name.mkStr2 "G" s!"mE{n}")
        `(tactic| case $i:ident => dsimp only; refine' $e ?a ?b ?c ?d; (case a => k_is); (case b => rfl); (case c => rfl); (case d => k_is))
      | _ => continue
    ts := ts.push r
  `(tactic| ($[$ts];*))
open PySem PySem.W PyProof.Rows
set_option maxRecDepth 100000 in
set_option maxHeartbeats 0 in
theorem PySem.Challenge.cw_gainstream_k39_whole_plain_ways_holds : PySem.Challenge.rw_gainstream_k39_whole_plain_ways.Holds := by
 w_on;o_law;k_head;(case hw=>w_witness2)
 k_fill
 refine G.walkL (l:=PySem.Challenge.rw_gainstream_k39_whole_plain_ways) rfl rfl (λ w h Y=>by first | exact PySem.W.kIn_of Y | exact PySem.W.km_in_of Y) ?F
 case F=>
  intro w mg fa h KX GN hmg
  walk_at "H 16 163"
  walk_at "m 0 d2 d2 d1 d2 d1 d2 d2 d2 d2 d2 d2 d2 d2 d3 d2 d1 d1 d2 d2 d3 d2 d1 d3 d2 d2 d2 d2 d2 d2 d1 d1 d1 d3 d2 d3 d2 d2 d5 d3 d1 c0 m0 n0 n0 w0 M2 M2 M2 M2 M2 M1 k0 k0 c0 m0 n0 n0 n0 I4 c0"
  walk_at "m 60 m0 n0 n0 n0 n0 n0 I3 M4 M2 M2 M2 M4 c0 m0 n0 n0 n0 n0 n0 w0 w0 M1 M2 k0 k0 c0 m0 n0 n0 n0 n0 n0 n0 w0 M1 M2 k0 k0 c0 m0 n0 n0 n0 n0 n0 n0 w0 M1 M2 k0 k0 c0 m0 n0 n0 n0 n0 n0 n0 M1"
  walk_at "m 120 M2 k0 k0 c0 m0 n0 n0 I3 M1 M2 M1 k0 k0 k0 k0 m0 m0 m0 m0 m0 m0 m0 m0 t0 t0 t0 t0 t0 t0 t0 t0 g0 g0 z0 z0 z0 z0 z0 z0 z0 z0 z0 z0"
  walk_at "r 0 d2 d2 d1 d2 d1 d2 d2 d2 d2 d2 d2 d2 d2 d3 d2 d1 d1 d2 d2 d3 d2 d1 d3 d2 d2 d2 d2 d2 d2 d1 d1 d1 d3 d2 d3 d2 d2 d5 d3 d1 c0 m0 n0 n0 w0 M2 M2 M2 M2 M2 M1 k0 k0 c0 m0 n0 n0 n0 I4 c0"
  walk_at "r 60 m0 n0 n0 n0 n0 n0 I3 M4 M2 M2 M2 M4 c0 m0 n0 n0 n0 n0 n0 w0 w0 M1 M2 k0 k0 c0 m0 n0 n0 n0 n0 n0 n0 w0 M1 M2 k0 k0 c0 m0 n0 n0 n0 n0 n0 n0 w0 M1 M2 k0 k0 c0 m0 n0 n0 n0 n0 n0 n0 M1"
  walk_at "r 120 M2 k0 k0 c0 m0 n0 n0 I3 M1 M2 M1 k0 k0 k0 k0 m0 m0 m0 m0 m0 m0 m0 m0 t0 t0 t0 t0 t0 t0 t0 t0 g0 g0 z0 z0 z0 z0 z0 z0 z0 z0 z0 z0"
  (case o44=>dsimp only;refine' G.mJ ?a (L2.funD_mk ?l ?c ?t ?d) ?m ?i ?k ?b;(case a=>k_is);(case l=>k_is);(case c=>k_is);(case t=>k_is);(case d=>rfl);(case m=>k_is);(case i=>k_is);(case k=>k_is);(case b=>exact λ N=>G.all1 ⟨[],.nil,G.biD N rfl (G.ln3 λ _ _ _ _ _ _ _ _ _ _=>⟨_,rfl,rfl⟩)⟩ (G.all1 ⟨[.int 1 _],(.cons ⟨_,rfl⟩ (.nil)),G.biD N rfl (G.ln2 λ _ _ _ _ _ _ _ _ _=>⟨_,rfl,rfl⟩)⟩ (G.all0))))
  (case o79=>dsimp only;refine' G.mJ ?a (L2.funD_mk ?l ?c ?t ?d) ?m ?i ?k ?b;(case a=>k_is);(case l=>k_is);(case c=>k_is);(case t=>k_is);(case d=>rfl);(case m=>k_is);(case i=>k_is);(case k=>k_is);(case b=>exact λ N=>G.all1 ⟨[],.nil,G.biD N rfl (G.ln6 λ _ _ _ _ _ _ _ _ _ _ _ _ _=>⟨_,rfl,rfl⟩)⟩ (G.all1 ⟨[.none,.none],(.cons rfl (.cons rfl (.nil))),G.biD N rfl (G.ln4 λ _ _ _ _ _ _ _ _ _ _ _=>⟨_,rfl,rfl⟩)⟩ (G.all0))))
  (case o80=>dsimp only;refine' G.mCD ?a (L2.funD_mk ?l ?c ?t ?d) ?r ?s ?k rfl ?b;(case a=>k_is);(case l=>k_is);(case c=>k_is);(case t=>k_is);(case d=>rfl);(case r=>k_is);(case s=>k_is);(case k=>k_is);(case b=>exact G.ln6 λ _ _ _ _ _ _ _ _ _ _ _ _ _=>⟨_,rfl,rfl⟩))
  (case o93=>dsimp only;refine' G.mJ ?a (L2.funD_mk ?l ?c ?t ?d) ?m ?i ?k ?b;(case a=>k_is);(case l=>k_is);(case c=>k_is);(case t=>k_is);(case d=>rfl);(case m=>k_is);(case i=>k_is);(case k=>k_is);(case b=>exact λ N=>G.all1 ⟨[],.nil,G.biD N rfl (G.ln7 λ _ _ _ _ _ _ _ _ _ _ _ _ _ _=>⟨_,rfl,rfl⟩)⟩ (G.all1 ⟨[.none,.none],(.cons rfl (.cons rfl (.nil))),G.biD N rfl (G.ln5 λ _ _ _ _ _ _ _ _ _ _ _ _=>⟨_,rfl,rfl⟩)⟩ (G.all0))))
  (case o106=>dsimp only;refine' G.mJ ?a (L2.funD_mk ?l ?c ?t ?d) ?m ?i ?k ?b;(case a=>k_is);(case l=>k_is);(case c=>k_is);(case t=>k_is);(case d=>rfl);(case m=>k_is);(case i=>k_is);(case k=>k_is);(case b=>exact λ N=>G.all1 ⟨[],.nil,G.biD N rfl (G.ln7 λ _ _ _ _ _ _ _ _ _ _ _ _ _ _=>⟨_,rfl,rfl⟩)⟩ (G.all1 ⟨[.none,.none],(.cons rfl (.cons rfl (.nil))),G.biD N rfl (G.ln5 λ _ _ _ _ _ _ _ _ _ _ _ _=>⟨_,rfl,rfl⟩)⟩ (G.all0))))
#print axioms PySem.Challenge.cw_gainstream_k39_whole_plain_ways_holds
