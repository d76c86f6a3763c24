import PyProof.Rows.All
import Wide.All
import OpenK.AllK
import Wide.FinOn
import Lean
import PyProof.EqAt
import PyProof.EqKinds
import PyProof.TupleCall
import PySem.Challenge.RW_gainstream_k36_whole_taken_apart
set_option compiler.extract_closed false
theorem zL0:0<=PySem.sizeLine:=by decide
theorem zL1:1<=PySem.sizeLine:=by decide
theorem zL2:2<=PySem.sizeLine:=by decide
theorem zL3:3<=PySem.sizeLine:=by decide
theorem zL4:4<=PySem.sizeLine:=by decide
theorem zL5:5<=PySem.sizeLine:=by decide
theorem zI1:(0:Int)<1:=by decide
theorem zI1000003:(0:Int)<1000003:=by decide
theorem zI11:(0:Int)<11:=by decide
theorem zI12:(0:Int)<12:=by decide
theorem zI2:(0:Int)<2:=by decide
theorem zI3:(0:Int)<3:=by decide
theorem zI4:(0:Int)<4:=by decide
theorem zI5:(0:Int)<5:=by decide
theorem zI6:(0:Int)<6:=by decide
theorem zI8:(0:Int)<8:=by decide
def jF.{u0,u1}:=@List.length_map.{u0,u1}
def jG.{u0}:=@List.getElem?_eq_some_iff.{u0}
def jH.{u0}:=@List.getElem?_eq_getElem.{u0}
def jI.{u0}:=@List.mem_of_getElem?.{u0}
def jJ:=@Nat.le_refl
def jK.{u0,u1}:=@List.getElem?_map.{u0,u1}
def jL.{u0,u1}:=@List.mem_map.{u0,u1}
def jM.{u0,u1}:=@List.map_append.{u0,u1}
def jN.{u0}:=@List.mem_singleton.{u0}
def jO.{u0}:=@List.length_append.{u0}
def jP.{u0}:=@List.mem_append.{u0}
def jQ.{u0}:=@List.take_length.{u0}
def jR:=@PySem.PassesOwn.never
def jS.{u0}:=@List.take_add_one.{u0}
def jT.{u0}:=@List.length_take.{u0}
def jU:=@Nat.zero_le
def jV:=@Nat.le_trans
def jW.{u0}:=@List.mem_cons_of_mem.{u0}
def jX.{u0}:=@List.mem_append_left.{u0}
def jY:=@decide_eq_false
def jZ:=@PySem.Heap.get?_push_of_some
def j0.{u0}:=@Option.toList_some.{u0}
def j3.{u0}:=@List.mem_cons.{u0}
def j4.{u0}:=@List.mem_cons_self.{u0}
def j5.{u0}:=@List.size_toArray.{u0}
def j6:=@decide_eq_true
def j7:=@Rat.mul_inv_cancel
def j8.{u0}:=@List.mem_append_right.{u0}
def j9.{u0}:=@List.not_mem_nil.{u0}
def kc:=@Bool.false_ne_true
def ke.{u0,u1}:=@List.lookup_cons.{u0,u1}
def kf:=@PySem.Heap.lt_size
def kg.{u0}:=@Option.some.inj.{u0}
def kh.{u0}:=@List.mem_iff_getElem?.{u0}
def ki:=@PySem.F.plainAttrs_list
def kj:=@Nat.lt_of_le_of_lt
def km:=@PySem.boot_len
def kn:=@Classical.byContradiction
def kq:=@PySem.Heap.get?_push_size
def kr.{u0}:=@List.length_singleton.{u0}
def ky.{u0}:=@List.nodup_append.{u0}
def kz.{u0}:=@List.length_cons.{u0}
def kA.{u0,u1}:=@congrArg.{u0,u1}
def kB:=@Int.natAbs_mul
def kC:=@PySem.F.slot_list_append
def kD:=@PySem.F.type_list_append
def kF:=@Nat.lt_of_lt_of_le
def kG:=@Nat.pow_le_pow_right
def kH:=@Rat.div_def
def kI:=@Rat.le_of_lt
def kJ:=@PySem.wpAny_bind
def kK:=@PyProof.Rows.boot_list
def kL:=@Nat.mod_lt
def kM.{u0}:=@List.nodup_cons.{u0}
def kN:=@Int.mul_comm
def kO.{u0,u1,u2}:=@List.map_map.{u0,u1,u2}
def kP.{u0}:=@List.getElem?_append_right.{u0}
def kQ:=@Nat.ne_of_lt
def kR.{u0}:=@List.getElem?_inj.{u0}
def kS.{u0}:=@List.filter_cons_of_pos.{u0}
def kU.{u0,u1}:=@Option.map_some.{u0,u1}
def kW:=@PyProof.Rows.boot_isinstance
def kX:=@Rat.div_mul_cancel
def kY.{u0}:=@List.getElem_toArray.{u0}
def kZ.{u0}:=@List.mem_of_mem_take.{u0}
def k8:=@Rat.intCast_mul
def lg:=@PySem.wpAny_pure
def lj.{u0}:=@List.filter_cons_of_neg.{u0}
def lv.{u0,u1}:=@List.map_cons.{u0,u1}
def ly.{u0}:=@List.append_nil.{u0}
def lz.{u0}:=@List.length_drop.{u0}
def lA:=@Rat.divInt_eq_div
def lB.{u0}:=@List.length_filter_le.{u0}
def lC:=@Rat.mul_le_mul_of_nonneg_right
def lD:=@Int.dvd_trans
def lF:=@Int.mul_pos
def lG.{u0}:=@List.getElem?_append_left.{u0}
def lH.{u0,u1}:=@Option.map_eq_some_iff.{u0,u1}
def lI.{u0}:=@List.getElem?_take.{u0}
def lJ.{u0}:=@List.nodup_nil.{u0}
def lK:=@PySem.mem_of_lookup
def lL.{u0,u1}:=@List.foldl_append.{u0,u1}
def lM:=@List.length_range
def lN:=@Nat.pow_add
def lO:=@Nat.mul_le_mul
def lP.{u0}:=@List.take_zero.{u0}
def lQ:=@PySem.W.kia_one
def lR.{u0}:=@beq_eq_false_iff_ne.{u0}
def lS:=@Int.mul_assoc
def lT.{u0}:=@List.mem_filter.{u0}
def lU:=@Int.natAbs_natCast
def lV:=@Int.eq_ofNat_of_zero_le
def lW:=@Nat.lt_irrefl
def lX:=@of_decide_eq_true
def lY:=@Int.ne_of_gt
def lZ.{u0,u1}:=@List.foldl_cons.{u0,u1}
def l0:=@PySem.wpAny_mono
def l6:=@Int.gcd_dvd_left
def l7.{u0}:=@List.filter_append.{u0}
def l9.{u0,u1}:=@List.map_nil.{u0,u1}
def ma.{u0,u1}:=@Sum.inr.inj.{u0,u1}
set_option Elab.async false
set_option linter.all false
set_option maxRecDepth 100000
namespace L2
open PySem PySem.Spec PyProof.Rows
noncomputable abbrev Key:=Sum Int Str
noncomputable def keyIs:Key->Value->Bool
 |.inl k,v=>Value.isInt k v
 |.inr x,v=>Value.isStrOf x v
noncomputable def keyH(w:World):Key->Int
 |.inl k=>hashInt k
 |.inr x=>hashStr w x
theorem bH:∀{k:Key}{v:Value},keyIs k v=true->(∃i t,k=Sum.inl i/\v=Value.int i t)∨(∃x t,k=Sum.inr x/\v=Value.str x t)
 |.inl i,v,h=>by
  obtain⟨t,e⟩:=Value.isInt_shape (k:=i) (v:=v) h;exact .inl ⟨i,t,rfl,e⟩
 |.inr x,v,h=>by
  obtain⟨t,e⟩:=Value.isStrOf_shape (x:=x) (v:=v) h;exact .inr ⟨x,t,rfl,e⟩
theorem keyIs_int(i:Int)(t:Tok):keyIs (.inl i) (.int i t)=true:=by simp[keyIs,Value.isInt]
theorem keyIs_str(x:Str)(t:Tok):keyIs (.inr x) (.str x t)=true:=by simp[keyIs,Value.isStrOf]
theorem key_ll(a b:Int):decide ((Sum.inl a:Key)=Sum.inl b)=(a==b):=by
 by_cases e:a=b
 ·subst e;simp
 ·have h:¬(Sum.inl a:Key)=Sum.inl b:=λq=>e (Sum.inl.inj q);rw[jY h];exact(lR.mpr e).symm
theorem key_rr(a b:Str):decide ((Sum.inr a:Key)=Sum.inr b)=decide (a=b):=by
 by_cases e:a=b
 ·subst e;simp
 ·have h:¬(Sum.inr a:Key)=Sum.inr b:=λq=>e (ma q);rw[jY h,jY e]
theorem key_lr(a:Int)(b:Str):decide ((Sum.inl a:Key)=Sum.inr b)=false:=jY (λq=>nomatch q)
theorem key_rl(a:Str)(b:Int):decide ((Sum.inr a:Key)=Sum.inl b)=false:=jY (λq=>nomatch q)
noncomputable def bt(prog:Program)(w:World):PySem.KeyKind prog w Key where
 is:=keyIs
 hash:=keyH w
 inj:=λv a b ha hb=>by
  rcases bH ha with⟨i,t,rfl,rfl⟩|⟨x,t,rfl,rfl⟩
  ·rcases bH hb with⟨j,u,rfl,e⟩|⟨y,u,rfl,e⟩
   ·injection e with e1 _;rw[e1]
   ·exact nomatch e
  ·rcases bH hb with⟨j,u,rfl,e⟩|⟨y,u,rfl,e⟩
   ·exact nomatch e
   ·injection e with e1 _;rw[e1]
 byValue:=λk v h=>by
  rcases bH h with⟨i,t,rfl,rfl⟩|⟨x,t,rfl,rfl⟩<;>rfl
 pyHash:=λhv h=>by
  rcases bH hv with⟨i,t,rfl,rfl⟩|⟨x,t,rfl,rfl⟩
  ·exact wpAny_pyHash_int h
  ·exact wpAny_pyHash_str h
 eqBool:=λhu hv h=>by
  rcases bH hu with⟨i,t,rfl,rfl⟩|⟨x,t,rfl,rfl⟩
  ·rcases bH hv with⟨j,u,rfl,rfl⟩|⟨y,u,rfl,rfl⟩
   ·rw[key_ll]at h;exact wpAny_eqBool_int h
   ·rw[key_lr]at h;exact SeqAt.EqAt.int_str i t y u _ _ _ _ h
  ·rcases bH hv with⟨j,u,rfl,rfl⟩|⟨y,u,rfl,rfl⟩
   ·rw[key_rl]at h;exact SeqAt.EqAt.str_int x t j u _ _ _ _ h
   ·rw[key_rr]at h;exact wpAny_eqBool_str h
 «strs»:=λk x t v h=>by
  rcases bH h with⟨i,u,rfl,e⟩|⟨y,u,rfl,e⟩
  ·exact nomatch e
  ·injection e with e1 _
   subst e1
   cases v<;>rfl
theorem mixKind_int(prog:Program)(w:World)(i:Int)(t:Tok):(bt prog w).is (.inl i) (.int i t)=true:=keyIs_int i t
theorem mixKind_str(prog:Program)(w:World)(x:Str)(t:Tok):(bt prog w).is (.inr x) (.str x t)=true:=keyIs_str x t
inductive V where
 |non|bl(b:Bool)|int(i:Int)|str(x:Str)|byt(b:Array UInt8)|flt(b:UInt64)|ref(a:Addr)|ty(n:String)
 deriving DecidableEq
noncomputable def RelV:V->Value->Prop
 |.non,u=>u=Value.none
 |.bl b,u=>u=Value.bool b
 |.int i,u=>∃t,u=Value.int i t
 |.str x,u=>∃t,u=Value.str x t
 |.byt b,u=>∃t,u=Value.bytes b t
 |.flt b,u=>∃t,u=Value.float b t
 |.ref a,u=>u=Value.ref a
 |.ty n,u=>u=Value.type n
noncomputable abbrev Vals:List V->List Value->Prop:=Paired RelV
theorem Vals.length(r:Vals xs us):xs.length=us.length:=Paired.length r
theorem Vals.get:∀{xs:List V}{us:List Value}{i:Nat}{x:V},Vals xs us->xs[i]?=some x->∃u,us[i]?=some u/\RelV x u
 |_,_,_,_,.nil,e=>by simp at e
 |_,_,0,_,.cons r _,e=>by simp at e;subst e;exact⟨_,rfl,r⟩
 |_,_,i+1,x,.cons _ t,e=>by
  obtain⟨u,h1,h2⟩:=Vals.get (i:=i) (x:=x) t (by simpa using e);exact⟨u,by simpa using h1,h2⟩
theorem Vals.append:∀{xs ys:List V}{us ws:List Value},Vals xs us->Vals ys ws->Vals (xs++ys) (us++ws)
 |_,_,_,_,.nil,s=>s
 |_,_,_,_,.cons r t,s=>.cons r (Vals.append t s)
theorem Vals.take:∀{xs:List V}{us:List Value}(n:Nat),Vals xs us->Vals (xs.take n) (us.take n)
 |_,_,0,_=>.nil
 |_,_,_+1,.nil=>.nil
 |_,_,n+1,.cons r t=>.cons r (Vals.take n t)
theorem Vals.drop:∀{xs:List V}{us:List Value}(n:Nat),Vals xs us->Vals (xs.drop n) (us.drop n)
 |_,_,0,r=>r
 |_,_,_+1,.nil=>.nil
 |_,_,n+1,.cons _ t=>Vals.drop n t
noncomputable def RelO:Option V->Option Value->Prop
 |some v,some u=>RelV v u
 |none,none=>True
 |_,_=>False
noncomputable def KV{κ:Type}:List (κ×V)->List (κ×Value)->Prop:=Paired λ(p:κ×V)(q:κ×Value)=>p.1=q.1/\RelV p.2 q.2
noncomputable def kV:Key->V
 |.inl i=>.int i
 |.inr x=>.str x
inductive HO where
 |lst(xs:List V)
 |tup(xs:List V)
 |dK(kvs:List (Key×V))|dT(kvs:List (List Key×V))
 |set(S:Int->Bool)(n:Nat)
 |ins(C dx:Addr)(fs:List (Str×V))
 |own(x:Addr)
 |xd(fs:List (Str×V))
 |met(f x:Addr)
 |rng(lo hi:Int)
 |frz(o:Obj)(u:HO)
 |tbl(ps:Array Value)
 |ext(φ:Heap->Prop)
noncomputable abbrev Hp:=Addr->Option HO
noncomputable def upd(H:Hp)(a:Addr)(o:HO):Hp:=λb=>if b=a then some o else H b
theorem ag:upd H a o a=some o:=by unfold upd;rw[if_pos rfl]
theorem ai(h:b≠a):upd H a o b=H b:=by unfold upd;rw[if_neg h]
theorem ie:upd (upd H a o) a u=upd H a u:=by
 funext b;unfold upd;split<;>rfl
theorem aG{H:Hp}(h:H a=some o)(h':H b=some u)(d:o≠u):a≠b:=by
 intro e;subst e;rw[h]at h';exact d (kg h')
theorem ar{H:Hp}(h:H a=some o)(h':H b=none):a≠b:=by
 intro e;subst e;rw[h]at h';cases h'
section
variable(P:Program)(w:World)
noncomputable def ObjOk(H:Hp)(h:Heap)(a:Addr):HO->Prop
 |.lst xs=>xs.length<=sizeLine/\∃(its:List Value)(n:Nat),Vals xs its/\h.get? a=some {cls:=.type "list",data:=.seq its.toArray n}
 |.tup xs=>xs.length<=sizeLine/\∃its:List Value,Vals xs its/\IsTup h a its.toArray
 |.dK kvs=>kvs.length<=sizeLine/\(a==sysModules)=false/\∃vs,KV kvs vs/\h.DictOf (bt P w) a vs
 |.dT kvs=>kvs.length<=sizeLine/\(a==sysModules)=false/\∃xs:List (List Key×Addr×Value),
   Paired (λ(p:List Key×V)(q:List Key×Addr×Value)=>p.1=q.1/\H q.2.1=some (.tup (p.1.map kV))/\RelV p.2 q.2.2) kvs xs/\
   ∃o es ep,h.get? a=some o/\o.ExactDict/\o.data=.dict es ep/\es.toList=xs.map (entryOfKey (tupleKind (bt P w)))/\(xs.map (·.1)).Nodup
 |.set S n=>h.SetOf (intKind P w) a S n
 |.ins C dx fs=>H dx=some (.own a)/\fs.length<=1000/\dx≠a/\h.get? a=some (PySem.W.instObj C dx)/\
   ∃mA,h.Ns1 dx mA/\(∀f,RelO (fs.lookup f) (mA f))/\PySem.Within mA (fs.map (·.1))
 |.own _=>∃o,h.get? a=some o
 |.xd fs=>∃mA,h.Ns1 a mA/\∀f,RelO (fs.lookup f) (mA f)
 |.rng lo hi=>∃t u v,h.get? a=some {cls:=.type "range",data:=.fields #[.int lo t,.int hi u,.int 1 v]}
 |.frz o u=>h.get? a=some o/\ObjOk H h a u
 |.tbl ps=>h.get? a=some {cls:=.none,data:=.fields ps}
 |.met f x=>h.get? a=some (PySem.W.methodObj (.ref f) (.ref x))
 |.ext φ=>φ h/\(∃o,h.get? a=some o)/\∀h1 h2:Heap,φ h1->(∀o,h1.get? a=some o->h2.get? a=some o)->φ h2
noncomputable def HOk(H:Hp)(h:Heap):Prop:=∀a o,H a=some o->ObjOk P w H h a o
end
section
variable{P:Program}{w:World}{H H':Hp}{h h':Heap}{a:Addr}{o:HO}
theorem ObjOk.lt(x:ObjOk P w H h a o):a<h.objs.size:=by
 cases o with
 |lst xs=>obtain⟨_,_,_,_,e⟩:=x;exact kf e
 |tup xs=>obtain⟨_,_,_,p⟩:=x;exact p.lt
 |dK kvs=>obtain⟨_,_,_,_,o,_,_,e,_⟩:=x;exact kf e
 |dT kvs=>obtain⟨_,_,_,_,o,_,_,e,_⟩:=x;exact kf e
 |set S n=>obtain⟨o,_,_,_,e,_⟩:=x;exact kf e
 |ins C dx fs=>obtain⟨_,_,_,e,_⟩:=x;exact kf e
 |own y=>obtain⟨_,e⟩:=x;exact kf e
 |xd fs=>obtain⟨_,⟨_,_,_,e,_⟩,_⟩:=x;exact kf e
 |rng lo hi=>obtain⟨_,_,_,e⟩:=x;exact kf e
 |frz ob u=>obtain⟨e,_⟩:=x;exact kf e
 |tbl ps=>exact kf (show h.get? a=some _ from x)
 |met f y=>exact kf (show h.get? a=some _ from x)
 |ext φ=>obtain⟨_,⟨_,e⟩,_⟩:=x;exact kf e
theorem Paired.mapP:∀{l₁:List α}{l₂:List β},Paired F l₁ l₂->(∀a b,F a b->G a b)->Paired G l₁ l₂
 |_,_,.nil,_=>.nil
 |_,_,.cons r t,f=>.cons (f _ _ r) (Paired.mapP t f)
theorem ObjOk.stay(x:ObjOk P w H h a o)(k:∀b u,(b=a∨H b=some (.own a))->h.get? b=some u->h'.get? b=some u)
  (ho:∀b,H b=some (.own a)->H' b=some (.own a))(ht:∀b xs,H b=some (.tup xs)->H' b=some (.tup xs)):ObjOk P w H' h' a o:=by
 induction o with
 |lst xs=>obtain⟨z,its,n,r,e⟩:=x;exact⟨z,its,n,r,k _ _ (.inl rfl) e⟩
 |tup xs=>obtain⟨z,its,r,ob,e,c⟩:=x;exact⟨z,its,r,ob,k _ _ (.inl rfl) e,c⟩
 |dK kvs=>obtain⟨z,y,vs,r,ob,es,ep,e,c⟩:=x;exact⟨z,y,vs,r,ob,es,ep,k _ _ (.inl rfl) e,c⟩
 |dT kvs=>
  obtain⟨z,y,xs,r,ob,es,ep,e,c⟩:=x;exact⟨z,y,xs,Paired.mapP r λp q z=>⟨z.1,ht _ _ z.2.1,z.2.2⟩,ob,es,ep,k _ _ (.inl rfl) e,c⟩
 |set S n=>obtain⟨ob,es,ep,t,e,c⟩:=x;exact⟨ob,es,ep,t,k _ _ (.inl rfl) e,c⟩
 |ins C dx fs=>
  obtain⟨d,z,ne,e,mA,⟨od,es,ep,e2,c⟩,r⟩:=x;exact⟨ho _ d,z,ne,k _ _ (.inl rfl) e,mA,⟨od,es,ep,k _ _ (.inr d) e2,c⟩,r⟩
 |own y=>obtain⟨ob,e⟩:=x;exact⟨ob,k _ _ (.inl rfl) e⟩
 |xd fs=>obtain⟨mA,⟨od,es,ep,e,c⟩,r⟩:=x;exact⟨mA,⟨od,es,ep,k _ _ (.inl rfl) e,c⟩,r⟩
 |rng lo hi=>obtain⟨t,u,v,e⟩:=x;exact⟨t,u,v,k _ _ (.inl rfl) e⟩
 |frz ob u ih=>obtain⟨e,q⟩:=x;exact⟨k _ _ (.inl rfl) e,ih q⟩
 |tbl ps=>
  have e:h.get? a=some {cls:=.none,data:=.fields ps}:=x;show h'.get? a=some {cls:=.none,data:=.fields ps};exact k a _ (.inl rfl) e
 |met f y=>
  have e:h.get? a=some (PySem.W.methodObj (.ref f) (.ref y)):=x;show h'.get? a=some (PySem.W.methodObj (.ref f) (.ref y));exact k a _ (.inl rfl) e
 |ext φ=>obtain⟨p,⟨o,e⟩,st⟩:=x;exact⟨st _ _ p λo q=>k _ _ (.inl rfl) q,⟨o,k _ _ (.inl rfl) e⟩,st⟩
theorem HOk.lt(x:HOk P w H h)(e:H a=some o):a<h.objs.size:=(x a o e).lt
theorem HOk.fresh(x:HOk P w H h)(e:h.objs.size<=a):H a=none:=by
 cases q:H a with
 |none=>rfl
 |some u=>exact absurd (kF (x.lt q) e) (lW _)
theorem HOk.kept(x:HOk P w H h)(k:∀b u,h.get? b=some u->h'.get? b=some u):HOk P w H h':=λa o e=>
 (x a o e).stay (λb u _ q=>k b u q) (λ_ q=>q) λ_ _ q=>q
theorem HOk.laid(x:HOk P w H h)(k:∀b u,h.get? b=some u->h'.get? b=some u)(hp:h.objs.size<=a)(new:ObjOk P w (upd H a o) h' a o):HOk P w (upd H a o) h':=λb u e=>by
 have hn:=x.fresh hp;by_cases hb:b=a
 ·subst hb;rw[ag]at e;cases e;exact new
 ·rw[ai hb]at e;exact(x b u e).stay (λc v _ q=>k c v q) (λc q=>by rw[ai (ar q hn)];exact q) λc xs q=>by rw[ai (ar q hn)];exact q
end
noncomputable def Rd(H:Hp)(a:Addr)(u:HO):Prop:=H a=some u∨∃o,H a=some (.frz o u)
theorem Rd.ok(r:Rd H a u)(x:HOk P w H h):ObjOk P w H h a u:=by
 rcases r with r|⟨o,r⟩
 ·exact x a u r
 ·obtain⟨_,q⟩:=x a _ r;exact q
noncomputable def Mut:Option HO->Prop
 |some (.lst _)=>True
 |some (.dK _)=>True
 |some (.dT _)=>True
 |some (.set _ _)=>True
 |some (.ins _ _ _)=>True
 |some (.ext _)=>True
 |_=>False
section
variable{P:Program}{w:World}{H:Hp}{h h':Heap}{x e:Addr}{o':HO}
theorem HOk.write(ok:HOk P w H h)(mu:Mut (H x))(he:e=x∨H e=some (.own x))(k:∀b u,b≠e->h.get? b=some u->h'.get? b=some u)(heo:∃u,h'.get? e=some u)
  (new:ObjOk P w (upd H x o') h' x o'):HOk P w (upd H x o') h':=λb u q=>by
 have nown:∀c y,H c=some (.own y)->c≠x:=λc y r z=>by subst z;rw[r]at mu;exact mu
 have ntup:∀c xs,H c=some (.tup xs)->c≠x:=λc xs r z=>by subst z;rw[r]at mu;exact mu
 by_cases hb:b=x
 ·subst hb;rw[ag]at q;cases q;exact new
 ·rw[ai hb]at q;by_cases hbe:b=e
  ·have q':H b=some (.own x):=by
    rcases he with z|z
    ·exact absurd (hbe.trans z) hb
    ·rw[hbe];exact z
   rw[q]at q';cases q';obtain⟨v,hv⟩:=heo;exact⟨v,by rw[hbe];exact hv⟩
  ·refine(ok b u q).stay (λc v hc r=>k c v ?_ r) (λc r=>by rw[ai (nown c b r)];exact r) λc xs r=>by rw[ai (ntup c xs r)];exact r
   rcases hc with rfl|hc
   ·exact hbe
   ·rintro rfl;rcases he with z|z
    ·exact nown c b hc z
    ·rw[hc]at z;cases z;exact hb rfl
end
structure Un(fs ex:List Addr)(H H':Hp)(h h':Heap):Prop where
 keep:∀b o,h.get? b=some o->H b=none->b∉fs->b∉ex->h'.get? b=some o
 slot:∀b o,h.get? b=some o->H b=none->b∈fs->b∉ex->∃sl,h'.get? b=some {o with slots:=sl}
 free:∀b o,h.get? b=some o->H b=none->b∉ex->H' b=none
 there:∀b o,h.get? b=some o->b∉ex->∃o',h'.get? b=some o'
 tups:∀b xs,H b=some (.tup xs)->H' b=some (.tup xs)
 frzs:∀b o u,H b=some (.frz o u)->H' b=some (.frz o u)
 tbls:∀b ps,H b=some (.tbl ps)->∃more,H' b=some (.tbl (ps++more))
section
variable{fs fs' ex ex':List Addr}{H H1 H2:Hp}{h h1 h2 h':Heap}{a x e:Addr}{o:HO}
theorem Un.any(u:Un fs ex H H1 h h1)(q:h.get? b=some ob)(n:H b=none)(hx:b∉ex):∃sl,h1.get? b=some {ob with slots:=sl}:=by
 by_cases hb:b∈fs
 ·exact u.slot b ob q n hb hx
 ·exact⟨ob.slots,u.keep b ob q n hb hx⟩
theorem Un.kept(k:∀b u,h.get? b=some u->h'.get? b=some u):Un fs ex H H h h':=
 ⟨λb ob q _ _ _=>k b ob q,λb ob q _ _ _=>⟨ob.slots,k b ob q⟩,λ_ _ _ n _=>n,λb ob q _=>⟨ob,k b ob q⟩,λ_ _ q=>q,λ_ _ _ q=>q,λ_ ps q=>⟨#[],by rw[q];simp⟩⟩
theorem Un.refl:Un fs ex H H h h:=Un.kept λ_ _ q=>q
theorem Un.laid(k:∀b u,h.get? b=some u->h'.get? b=some u)(hp:h.objs.size<=a)(hn:H a=none):Un fs ex H (upd H a o) h h' where
 keep:=λb u q _ _ _=>k b u q
 slot:=λb u q _ _ _=>⟨u.slots,k b u q⟩
 free:=λb u q n _=>by rw[ai (kQ (kF (kf q) hp))];exact n
 there:=λb u q _=>⟨u,k b u q⟩
 tups:=λb xs q=>by rw[ai (ar q hn)];exact q
 frzs:=λb u xs q=>by rw[ai (ar q hn)];exact q
 tbls:=λb ps q=>⟨#[],by rw[ai (ar q hn),q];simp⟩
theorem Un.write(mu:Mut (H x))(he:e=x∨H e=some (.own x))(k:∀b u,b≠e->h.get? b=some u->h'.get? b=some u)(heo:∃u,h'.get? e=some u):Un fs ex H (upd H x o) h h':=by
 have hx:∀b,H b=none->b≠x:=λb n z=>by subst z;rw[n]at mu;exact mu
 have hb:∀b,H b=none->b≠e:=λb n z=>by
  subst z;rcases he with r|r
  ·exact hx b n r
  ·rw[n]at r;cases r
 have hm:∀b u,H b=some u->¬Mut (some u)->b≠x:=λb u q nm z=>by subst z;rw[q]at mu;exact nm mu
 refine⟨λb u q n _ _=>k b u (hb b n) q,λb u q n _ _=>⟨u.slots,k b u (hb b n) q⟩,λb u q n _=>by rw[ai (hx b n)];exact n,λb u q _=>?_,
  λb xs q=>by rw[ai (hm b _ q λz=>z)];exact q,λb u xs q=>by rw[ai (hm b _ q λz=>z)];exact q,λb ps q=>⟨#[],by rw[ai (hm b _ q λz=>z),q];simp⟩⟩
 by_cases hbe:b=e
 ·subst hbe;exact heo
 ·exact⟨u,k b u hbe q⟩
end
noncomputable def trk(h:Heap)(H:Hp):List Addr:=(List.range h.objs.size).filter λa=>(H a).isSome
noncomputable def hidT(h:Heap)(H:Hp):Heap:=PySem.W.hideAll h (trk h H)
theorem hidT_size(h:Heap)(H:Hp):(hidT h H).objs.size=h.objs.size:=PySem.W.hideAll_size _ _
theorem hidT_get(e:h.get? b=some o)(n:H b=none):(hidT h H).get? b=some o:=
 PySem.W.hideAll_get _ e λhm=>by
  have q:(H b).isSome=true:=(lT.mp hm).2;rw[n]at q;simp at q
theorem of_hidT(e:(hidT h H).get? b=some o):h.get? b=some o/\H b=none:=by
 have e':h.get? b=some o:=PySem.W.of_hideAll (trk h H) e;refine⟨e',?_⟩
 cases q:H b with
 |none=>rfl
 |some x=>
  have hm:b∈trk h H:=lT.mpr ⟨List.mem_range.mpr (kf e'),by simp[q]⟩;have z:(hidT h H).get? b=none:=PySem.W.hideAll_none (trk h H) hm;rw[z]at e;cases e
noncomputable def allNews(g h:Heap)(L:Addr):List (Addr×Obj):=(List.range h.objs.size).filterMap λa=>if a=L∨(g.get? a).isSome=true then none else(h.get? a).map λo=>(a,o)
noncomputable def rest(g h:Heap)(L d:Addr):List (Addr×Obj):=(allNews g h L).filter λp=>decide (p.1≠d)
structure Mod(K:W.Frag)(mg:Str->Option Value)(base:Heap):Prop where
 kin:K.In base
 glob:base.Ns mainGlobals mg
 blt:∃mb,base.Ns builtinsNs mb/\∀x:Str,x≠"__name__"->mb x=bootBuiltins x
 nolimit:base.NoLimit
structure Cx where
 prog:Program
 w:World
 K:W.Frag
 mg:Str->Option Value
 base:Heap
 A:Around
 N:List Str
 s₀:Shared
 H₀:Hp
 env:Env
 outer:List Env
 stack:List Env
 ex:List Addr
 fn:Str->Bool
 calm:Bool
 pn:List (Addr×Obj)
 xe:Value->Shared->Prop
noncomputable def frs(l:List Env):List Addr:=l.filterMap (·.frame)
noncomputable abbrev Cx.fs(X:Cx):List Addr:=frs X.outer
noncomputable def Vis(sc:Scope)(x:Str):Prop:=sc.names.lookup x=some .local∨sc.names.lookup x=some .cell∨sc.names.lookup x=some .free
noncomputable def Loc(sc:Scope)(x:Str):Prop:=sc.names.lookup x=some .local∨sc.names.lookup x=some .cell
noncomputable def Look(env:Env)(h:Heap)(m:Str->Option Value)(x:Str)(u:Value):Prop:=
 (env.kindOf x=some .local/\m x=some u)∨((env.kindOf x=some .cell∨env.kindOf x=some .free)/\∃c,env.cells.lookup x=some c/\h.IsCell c (some u))
structure Cx.Ok(X:Cx):Prop where
 mod:Mod X.K X.mg X.base
 kind:X.env.scope.kind=.function
 glob:X.env.globals=mainGlobals
 blt:X.env.builtins=builtinsNs
 above:X.s₀.heap.objs.size<=X.env.locals
 inj:∀x y c,X.env.cells.lookup x=some c->X.env.cells.lookup y=some c->x=y
 has:∀x,(X.env.kindOf x=some .cell∨X.env.kindOf x=some .free)->∃c,X.env.cells.lookup x=some c
 cab:∀x c,X.fn x=true->X.env.cells.lookup x=some c->X.s₀.heap.objs.size<=c
 hd:X.calm=true->X.A.handled=none
 frames:X.A.frames=some X.stack
 stk:X.stack=X.outer∨(X.stack=X.env::X.outer/\X.env.frame=some X.env.locals)
 exf:∀b∈X.ex,b≠X.env.locals/\∀x c,X.env.cells.lookup x=some c->c≠b
 bs:∀b o,X.base.get? b=some o->X.s₀.heap.get? b=some o/\X.H₀ b=none
 bsz:X.base.objs.size<=X.s₀.heap.objs.size
 noex:∀b o,X.base.get? b=some o->b∉X.ex
 exfs:∀b∈X.ex,b∉X.fs
 funs:X.s₀.heap.FunFrames X.base X.outer
 frf:∀b∈X.fs,X.H₀ b=none
structure Inv(X:Cx)(pins:List (Addr×Obj))(σ:List (Option V))(H:Hp)(s:Shared):Prop where
 ok:X.Ok
 os:s.os=X.s₀.os
 bare:AllBare s.gens
 base:Un X.fs X.ex X.H₀ H X.s₀.heap s.heap
 loc:∃m,s.heap.Ns X.env.locals m/\∀(i:Nat)(x:Str)(v:V),X.N[i]?=some x->σ[i]?=some (some v)->Vis X.env.scope x->∃u,RelV v u/\Look X.env s.heap m x u
 cell:∀x c,X.env.cells.lookup x=some c->∃v,s.heap.IsCell c v
 free:H X.env.locals=none
 freeC:∀x c,X.env.cells.lookup x=some c->H c=none
 pin:∀p∈X.pn++pins,s.heap.get? p.1=some p.2/\H p.1=none/\p.1≠X.env.locals/\p.1∉X.fs/\∀v,p.2.data≠.cell v
 hok:HOk X.prog X.w H s.heap
 len:σ.length=X.N.length
section
variable{X:Cx}{pins:List (Addr×Obj)}{σ:List (Option V)}{H H':Hp}{s:Shared}{h':Heap}
theorem Cx.Ok.nofr(ok:X.Ok)(e:X.base.get? b=some o):b∉X.fs:=λhb=>by
 have:=(ok.funs.mem hb).1
 rw[e]at this;cases this
theorem Inv.bs(I:Inv X pins σ H s):∀b o,X.base.get? b=some o->s.heap.get? b=some o/\H b=none:=λb o e=>
 ⟨I.base.keep b o (I.ok.bs b o e).1 (I.ok.bs b o e).2 (I.ok.nofr e) (I.ok.noex b o e),I.base.free b o (I.ok.bs b o e).1 (I.ok.bs b o e).2 (I.ok.noex b o e)⟩
theorem Inv.bk(I:Inv X pins σ H s):∀b o,X.base.get? b=some o->s.heap.get? b=some o:=λb o e=>(I.bs b o e).1
theorem Inv.mod(I:Inv X pins σ H s):Mod X.K X.mg X.base:=I.ok.mod
theorem Inv.kIn(I:Inv X pins σ H s):X.K.In s.heap:=I.ok.mod.kin.keeps I.bk
theorem Inv.lt(I:Inv X pins σ H s):X.env.locals<s.heap.objs.size:=by
 obtain⟨_,hn,_⟩:=I.loc;exact hn.lt
theorem Inv.sz(I:Inv X pins σ H s):X.s₀.heap.objs.size<=s.heap.objs.size:=jV I.ok.above (Nat.le_of_lt I.lt)
theorem Inv.nofs(I:Inv X pins σ H s)(h:s.heap.objs.size<=a):a∉X.fs:=λhb=>by
 obtain⟨_,o,ho,_⟩:=I.ok.funs.mem hb;exact absurd (kF (kf ho) (jV I.sz h)) (lW _)
theorem Inv.cne(I:Inv X pins σ H s):∀x c,X.env.cells.lookup x=some c->c≠X.env.locals:=λx c e z=>by
 obtain⟨v,o,ho,hd⟩:=I.cell x c e;obtain⟨m,⟨o',es,ep,ho',hd',_⟩,_⟩:=I.loc;rw[z,ho']at ho;cases ho;rw[hd']at hd;cases hd
theorem Inv.funs(I:Inv X pins σ H s):s.heap.FunFrames X.base X.outer:=by
 have all:∀(l:List Env),(∀b∈frs l,b∈X.fs)->X.s₀.heap.FunFrames X.base l->s.heap.FunFrames X.base l:=by
  intro l
  induction l with
  |nil=>intro _ _;trivial
  |cons env r ih=>
   intro hs hl;obtain⟨hk,⟨L,o,hf,hn,ho,hd⟩,hr⟩:=hl;have hL:L∈X.fs:=hs L (by unfold frs;rw[List.filterMap_cons,hf];exact j4);obtain⟨sl,e⟩:=I.base.slot L o ho (I.ok.frf L hL) hL λz=>I.ok.exfs L z hL;exact⟨hk,⟨L,_,hf,hn,e,hd⟩,ih (λb hb=>hs b (by unfold frs;rw[List.filterMap_cons,hf];exact jW _ hb)) hr⟩
 exact all X.outer (λ_ hb=>hb) I.ok.funs
theorem Inv.stack(I:Inv X pins σ H s):s.heap.FunFrames X.base X.stack:=by
 rcases I.ok.stk with e|⟨e,hf⟩
 ·rw[e];exact I.funs
 ·rw[e];obtain⟨m,hn,_⟩:=I.loc;refine .cons (by rw[I.ok.kind];decide) hf hn ?_ I.funs;exact Heap.get?_none_of_le (jV I.ok.bsz I.ok.above)
theorem Inv.stkSub(I:Inv X pins σ H s):∀b∈frs X.stack,b∈X.env.locals::X.fs:=λb hb=>by
 rcases I.ok.stk with e|⟨e,hf⟩
 ·rw[e]at hb;exact jW _ hb
 ·rw[e]at hb;unfold frs at hb;rw[List.filterMap_cons,hf]at hb;exact hb
theorem Inv.stkFree(I:Inv X pins σ H s):∀b∈frs X.stack,H b=none:=λb hb=>by
 rcases j3.mp (I.stkSub b hb)with e|hb
 ·rw[e];exact I.free
 ·obtain⟨_,o,ho,_⟩:=I.ok.funs.mem hb;exact I.base.free b o ho (I.ok.frf b hb) λz=>I.ok.exfs b z hb
theorem Inv.step{ch:List Addr}(I:Inv X pins σ H s)
  (hch:∀b∈ch,(b∈X.ex∨X.s₀.heap.objs.size<=b)/\b≠X.env.locals/\(∀x c,X.env.cells.lookup x=some c->c≠b)/\∀p∈X.pn++pins,p.1≠b)
  (keep:∀b o,b≠X.env.locals->b∉X.fs->b∉ch->s.heap.get? b=some o->H b=none->h'.get? b=some o)
  (slot:∀b o,b≠X.env.locals->b∈X.fs->b∉ch->s.heap.get? b=some o->H b=none->∃sl,h'.get? b=some {o with slots:=sl})(free:∀b o,b∉ch->s.heap.get? b=some o->H b=none->H' b=none)
  (there:∀b o,b∉ch->s.heap.get? b=some o->∃o',h'.get? b=some o')
  (tups:∀b xs,H b=some (.tup xs)->H' b=some (.tup xs))(frzs:∀b o u,H b=some (.frz o u)->H' b=some (.frz o u))(tbls:∀b ps,H b=some (.tbl ps)->∃more,H' b=some (.tbl (ps++more)))
  (ns:∀m,s.heap.Ns X.env.locals m->h'.Ns X.env.locals m)(hok:HOk X.prog X.w H' h')(hg:AllBare g'):
  Inv X pins σ H' {s with heap:=h',gens:=g',drawn:=d',toks:=t'}:=by
 have neL:∀b o,X.s₀.heap.get? b=some o->b≠X.env.locals:=λb o e=>kQ (kF (kf e) I.ok.above)
 have neC:∀b o,X.s₀.heap.get? b=some o->b∉X.ex->b∉ch:=λb o e hx hb=>by
  rcases(hch b hb).1 with z|z
  ·exact hx z
  ·exact absurd (kF (kf e) z) (lW _)
 have cellK:∀x c,X.env.cells.lookup x=some c->∀v,s.heap.IsCell c v->h'.IsCell c v:=λx c e v⟨o,ho,hd⟩=>by
  have nch:c∉ch:=λz=>(hch c z).2.2.1 x c e rfl;by_cases hc:c∈X.fs
  ·obtain⟨sl,q⟩:=slot c o (I.cne x c e) hc nch ho (I.freeC x c e);exact⟨_,q,hd⟩
  ·exact⟨o,keep c o (I.cne x c e) hc nch ho (I.freeC x c e),hd⟩
 refine⟨I.ok,I.os,hg,⟨λb o e n hb hx=>?_,λb o e n hb hx=>?_,λb o e n hx=>?_,λb o e hx=>?_,λb xs e=>tups b xs (I.base.tups b xs e),λb o xs e=>frzs b o xs (I.base.frzs b o xs e),λb ps e=>?_⟩,?_,λx c e=>?_,?_,λx c e=>?_,λp hp=>?_,hok,I.len⟩
 ·exact keep b o (neL b o e) hb (neC b o e hx) (I.base.keep b o e n hb hx) (I.base.free b o e n hx)
 ·obtain⟨sl,e1⟩:=I.base.slot b o e n hb hx;obtain⟨sl',e2⟩:=slot b _ (neL b o e) hb (neC b o e hx) e1 (I.base.free b o e n hx);exact⟨sl',e2⟩
 ·obtain⟨o',e1⟩:=I.base.there b o e hx;exact free b o' (neC b o e hx) e1 (I.base.free b o e n hx)
 ·obtain⟨o',e1⟩:=I.base.there b o e hx;exact there b o' (neC b o e hx) e1
 ·obtain⟨m1,e1⟩:=I.base.tbls b ps e;obtain⟨m2,e2⟩:=tbls b _ e1;exact⟨m1++m2,by rw[e2,Array.append_assoc]⟩
 ·obtain⟨m,hn,hl⟩:=I.loc;refine⟨m,ns m hn,λi x v e1 e2 e3=>?_⟩;obtain⟨u,r,l⟩:=hl i x v e1 e2 e3;refine⟨u,r,?_⟩;rcases l with l|⟨k,c,e,z⟩
  ·exact .inl l
  ·exact .inr ⟨k,c,e,cellK x c e _ z⟩
 ·obtain⟨v,z⟩:=I.cell x c e;exact⟨v,cellK x c e v z⟩
 ·obtain⟨m,⟨o,_,_,ho,_⟩,_⟩:=I.loc;exact free _ o (λz=>(hch _ z).2.1 rfl) ho I.free
 ·obtain⟨v,o,ho,hd⟩:=I.cell x c e;exact free c o (λz=>(hch c z).2.2.1 x c e rfl) ho (I.freeC x c e)
 ·obtain⟨e,n,ne,nf,d⟩:=I.pin p hp;have nch:p.1∉ch:=λz=>(hch p.1 z).2.2.2 p hp rfl;exact⟨keep p.1 p.2 ne nf nch e n,free p.1 p.2 nch e n,ne,nf,d⟩
theorem Inv.un(I:Inv X pins σ H s)(u:Un X.fs [] H H' s.heap h')(hok:HOk X.prog X.w H' h'):Inv X pins σ H' {s with heap:=h',toks:=t'}:=by
 obtain⟨m,⟨o,es,ep,ho,r⟩,_⟩:=id I.loc;obtain⟨sl,hL⟩:=u.any ho I.free (by simp)
 exact I.step (g':=s.gens) (d':=s.drawn) (ch:=[]) (λ_ z=>nomatch z) (λb o _ hb _ e n=>u.keep b o e n hb (by simp)) (λb o _ hb _ e n=>u.slot b o e n hb (by simp)) (λb o _ e n=>u.free b o e n (by simp)) (λb o _ e=>u.there b o e (by simp)) u.tups u.frzs u.tbls (λm' hm=>by
  obtain⟨o',es',ep',ho',r'⟩:=hm;rw[ho]at ho';cases ho';exact⟨_,es',ep',hL,r'⟩) hok I.bare
theorem Inv.call(I:Inv X pins σ H s)(u:Un (frs X.stack) ch H H' s.heap h')(hok:HOk X.prog X.w H' h')(hg:AllBare g')
  (hch:∀b∈ch,(b∈X.ex∨X.s₀.heap.objs.size<=b)/\b≠X.env.locals/\(∀x c,X.env.cells.lookup x=some c->c≠b)/\∀p∈X.pn++pins,p.1≠b):
  Inv X pins σ H' {s with heap:=h',gens:=g',drawn:=d',toks:=t'}:=by
 obtain⟨m,⟨o,es,ep,ho,r⟩,_⟩:=id I.loc;obtain⟨sl,hL⟩:=u.any ho I.free λz=>(hch _ z).2.1 rfl
 exact I.step (ch:=ch) hch (λb o hL hb hc e n=>u.keep b o e n (λz=>(j3.mp (I.stkSub b z)).elim hL hb) hc) (λb o _ _ hc e n=>u.any e n hc) (λb o hc e n=>u.free b o e n hc) (λb o hc e=>u.there b o e hc) u.tups u.frzs u.tbls (λm' hm=>by
  obtain⟨o',es',ep',ho',r'⟩:=hm;rw[ho]at ho';cases ho';exact⟨_,es',ep',hL,r'⟩) hok hg
theorem Inv.turned(I:Inv X pins σ H s)(k:∀b o,b≠it->s.heap.get? b=some o->h'.get? b=some o)(hn:H it=none)(hL:it≠X.env.locals)
  (h1:it∈X.ex∨X.s₀.heap.objs.size<=it)(h2:∀x c,X.env.cells.lookup x=some c->c≠it)(h3:∀p∈X.pn++pins,p.1≠it):Inv X pins σ H {s with heap:=h',toks:=t'}:=by
 have nit:∀b u,H b=some u->b≠it:=λb u e z=>by rw[z,hn]at e;cases e
 refine I.step (g':=s.gens) (d':=s.drawn) (ch:=[it]) (λb hb=>?_) (λb o _ _ hc e _=>k b o (λz=>hc (by simp[z])) e) (λb o _ _ hc e _=>⟨o.slots,k b o (λz=>hc (by simp[z])) e⟩) (λ_ _ _ _ n=>n)
  (λb o hc e=>⟨o,k b o (λz=>hc (by simp[z])) e⟩) (λ_ _ e=>e) (λ_ _ _ e=>e) (λb ps e=>⟨#[],by rw[e];simp⟩) (λm hm=>?_) (λb u e=>?_) I.bare
 ·have e:b=it:=by simpa using hb
  subst e;exact⟨h1,hL,h2,h3⟩
 ·obtain⟨o,es,ep,ho,r⟩:=hm;exact⟨o,es,ep,k _ o (Ne.symm hL) ho,r⟩
 ·refine(I.hok b u e).stay (λc v hc q=>k c v ?_ q) (λ_ q=>q) λ_ _ q=>q;rcases hc with z|z
  ·rw[z];exact nit b u e
  ·exact nit c _ z
theorem Inv.tok(I:Inv X pins σ H s)(t:Nat):Inv X pins σ H {s with toks:=t}:=I.un (h':=s.heap) (t':=t) Un.refl I.hok
theorem Inv.kept(I:Inv X pins σ H s)(k:∀b u,s.heap.get? b=some u->h'.get? b=some u):Inv X pins σ H {s with heap:=h',toks:=t'}:=I.un (Un.kept k) (I.hok.kept k)
theorem Inv.laid(I:Inv X pins σ H s)(k:∀b u,s.heap.get? b=some u->h'.get? b=some u)(hp:s.heap.objs.size<=a)(new:ObjOk X.prog X.w (upd H a o) h' a o):
  Inv X pins σ (upd H a o) {s with heap:=h',toks:=t'}:=I.un (Un.laid k hp (I.hok.fresh hp)) (I.hok.laid k hp new)
theorem Inv.write(I:Inv X pins σ H s)(mu:Mut (H x))(he:e=x∨H e=some (.own x))(k:∀b u,b≠e->s.heap.get? b=some u->h'.get? b=some u)(heo:∃u,h'.get? e=some u)
  (new:ObjOk X.prog X.w (upd H x o) h' x o):Inv X pins σ (upd H x o) {s with heap:=h',toks:=t'}:=I.un (Un.write mu he k heo) (I.hok.write mu he k heo new)
theorem Inv.pins_of(I:Inv X pins σ H s)(h:∀p∈pins',s.heap.get? p.1=some p.2/\H p.1=none/\p.1≠X.env.locals/\p.1∉X.fs/\∀v,p.2.data≠.cell v):Inv X pins' σ H s:=
 ⟨I.ok,I.os,I.bare,I.base,I.loc,I.cell,I.free,I.freeC,λp hp=>(jP.mp hp).elim (λz=>I.pin p (jX _ z)) (h p),I.hok,I.len⟩
theorem nodup_ix{N:List Str}(hN:N.Nodup){i j:Nat}(a:N[i]?=some x)(b:N[j]?=some x):i=j:=by
 obtain⟨h1,e1⟩:=jG.mp a;obtain⟨h2,e2⟩:=jG.mp b;exact(List.getElem_inj hN).mp (e1.trans e2.symm)
theorem store_ok2(I:Inv X pins σ H s)(hN:X.N.Nodup)(hi:X.N[i]?=some x)(hx:Loc X.env.scope x)(r:RelV v u)
  (h:∀s',Inv X pins (σ.set i (some v)) H s'->(∃a,Heap.SameBut a s.heap s'.heap/\(a=X.env.locals∨X.env.cells.lookup x=some a))->Q () s')(hf:X.fn x=true∨X.env.scope.names.lookup x=some .local:=by first|exact .inl rfl|exact .inr rfl|assumption):wpAny M A (storeName X.env x u) Q E s:=by
 obtain⟨m,hn,hl⟩:=id I.loc;have hcls:(X.env.scope.kind==.class||(X.env.scope.kind==.module&&X.env.locals !=X.env.globals))=false:=by rw[I.ok.kind];rfl
 have hiσ:i<σ.length:=by rw[I.len];exact(jG.mp hi).1
 have cne:=I.cne
 have tracked:∀{a:Addr}{h':Heap},(∃o,s.heap.get? a=some o/\H a=none)->Heap.SameBut a s.heap h'->HOk X.prog X.w H h':=λ{a h'}ha hs b ob e=>by
  obtain⟨_,_,hfree⟩:=ha;refine(I.hok b ob e).stay (λc w' hc q=>(hs.2 c ?_).trans q) (λ_ q=>q) λ_ _ q=>q;rintro rfl;rcases hc with rfl|hc
  ·rw[hfree]at e;cases e
  ·rw[hfree]at hc;cases hc
 rcases hx with hk|hk
 ·refine wpAny_storeName_local hk hn (λh' hn' hs=>?_) hcls;obtain⟨oL,_,_,hoL,_⟩:=id hn;refine h _ ⟨I.ok,I.os,I.bare,⟨λb o e n hb hx=>?_,λb o e n hb hx=>?_,I.base.free,λb o e hx=>?_,I.base.tups,I.base.frzs,I.base.tbls⟩,⟨_,hn',λj y v' e1 e2 e3=>?_⟩,λy c e=>?_,I.free,I.freeC,λp hp=>?_,tracked ⟨oL,hoL,I.free⟩ hs,by simpa using I.len⟩ ⟨_,hs,.inl rfl⟩
  ·exact(hs.2 b (kQ (kF (kf e) I.ok.above))).trans (I.base.keep b o e n hb hx)
  ·obtain⟨sl,e1⟩:=I.base.slot b o e n hb hx;exact⟨sl,(hs.2 b (kQ (kF (kf e) I.ok.above))).trans e1⟩
  ·obtain⟨o',e1⟩:=I.base.there b o e hx;exact⟨o',(hs.2 b (kQ (kF (kf e) I.ok.above))).trans e1⟩
  ·by_cases hj:j=i
   ·subst hj;rw[hi]at e1;cases e1;rw[List.getElem?_set_self hiσ]at e2
    cases e2;exact⟨u,r,.inl ⟨hk,by simp⟩⟩
   ·rw[List.getElem?_set_ne (Ne.symm hj)]at e2;obtain⟨u',r',q⟩:=hl j y v' e1 e2 e3;refine⟨u',r',?_⟩;rcases q with⟨k,e⟩|⟨k,c,e,z⟩
    ·refine .inl ⟨k,?_⟩
     have:y≠x:=λe=>hj (nodup_ix hN e1 (e▸hi))
     simp[this,e]
    ·exact .inr ⟨k,c,e,z.sameBut hs (cne y c e)⟩
  ·obtain⟨w',z⟩:=I.cell y c e;exact⟨w',z.sameBut hs (cne y c e)⟩
  ·obtain⟨e,n,ne,nf,d⟩:=I.pin p hp;exact⟨(hs.2 p.1 ne).trans e,n,ne,nf,d⟩
 ·have hfn:X.fn x=true:=by
   rcases hf with z|z
   ·exact z
   ·rw[z]at hk;cases hk
  obtain⟨c,hc⟩:=I.ok.has x (.inl hk);obtain⟨w',z⟩:=I.cell x c hc;refine wpAny_storeName_cell I.ok.kind hk hc z (λh' hc' hs=>?_);obtain⟨oc,hoc,hocd⟩:=id z;refine h {s with heap:=h'} ⟨I.ok,I.os,I.bare,⟨λb o e n hb hx=>?_,λb o e n hb hx=>?_,I.base.free,λb o e hx=>?_,I.base.tups,I.base.frzs,I.base.tbls⟩,⟨m,hn.sameBut hs (Ne.symm (cne x c hc)),λj y v' e1 e2 e3=>?_⟩,λy c' e=>?_,I.free,I.freeC,λp hp=>?_,tracked ⟨oc,hoc,I.freeC x c hc⟩ hs,by simpa using I.len⟩ ⟨c,hs,.inr hc⟩
  ·exact(hs.2 b (kQ (kF (kf e) (I.ok.cab x c hfn hc)))).trans (I.base.keep b o e n hb hx)
  ·obtain⟨sl,e1⟩:=I.base.slot b o e n hb hx;exact⟨sl,(hs.2 b (kQ (kF (kf e) (I.ok.cab x c hfn hc)))).trans e1⟩
  ·obtain⟨o',e1⟩:=I.base.there b o e hx;exact⟨o',(hs.2 b (kQ (kF (kf e) (I.ok.cab x c hfn hc)))).trans e1⟩
  ·by_cases hj:j=i
   ·subst hj;rw[hi]at e1;cases e1;rw[List.getElem?_set_self hiσ]at e2
    cases e2;exact⟨u,r,.inr ⟨.inl hk,c,hc,hc'⟩⟩
   ·rw[List.getElem?_set_ne (Ne.symm hj)]at e2;obtain⟨u',r',q⟩:=hl j y v' e1 e2 e3;refine⟨u',r',?_⟩;rcases q with q|⟨k,c',e,z'⟩
    ·exact .inl q
    ·refine .inr ⟨k,c',e,z'.sameBut hs ?_⟩;rintro rfl;exact hj (nodup_ix hN e1 (I.ok.inj _ _ _ e hc▸hi))
  ·by_cases hcc:c'=c
   ·subst hcc;exact⟨_,hc'⟩
   ·obtain⟨w2,z2⟩:=I.cell y c' e;exact⟨w2,z2.sameBut hs hcc⟩
  ·obtain⟨e,n,ne,nf,d⟩:=I.pin p hp;refine⟨(hs.2 p.1 ?_).trans e,n,ne,nf,d⟩;intro q;rw[q,hoc]at e;have q':oc=p.2:=kg e;exact d w' (by rw[<-q'];exact hocd)
theorem store_ok(I:Inv X pins σ H s)(hN:X.N.Nodup)(hi:X.N[i]?=some x)(hx:Loc X.env.scope x)(r:RelV v u)
  (h:∀s',Inv X pins (σ.set i (some v)) H s'->Q () s')(hf:X.fn x=true∨X.env.scope.names.lookup x=some .local:=by first|exact .inl rfl|exact .inr rfl|assumption):wpAny M A (storeName X.env x u) Q E s:=
 store_ok2 I hN hi hx r (λs' I' _=>h s' I') hf
theorem Inv.call'(I:Inv X pins σ H s)(ho:s'.os=s.os)(u:Un (frs X.stack) ch H H' s.heap s'.heap)(hok:HOk X.prog X.w H' s'.heap)(hg:AllBare s'.gens)
  (hch:∀b∈ch,(b∈X.ex∨X.s₀.heap.objs.size<=b)/\b≠X.env.locals/\(∀x c,X.env.cells.lookup x=some c->c≠b)/\∀p∈X.pn++pins,p.1≠b):Inv X pins σ H' s':=by
 obtain⟨h',g',d',t',o'⟩:=s';have e:o'=s.os:=ho;subst e;exact I.call (g':=g') (t':=t') (d':=d') u hok hg hch
end
noncomputable abbrev XK:=Value->Option Addr->Hp->Prop
noncomputable abbrev St:=List (Option V)
noncomputable abbrev VK:=V->Hp->Prop
noncomputable abbrev TE:=St->Hp->VK->Prop
noncomputable abbrev TT:=St->Hp->(Bool->Hp->Prop)->Prop
noncomputable abbrev TA:=St->Hp->(List V->Hp->Prop)->Prop
structure Ends where
 nx:St->Hp->Prop
 rt:VK
 bk:St->Hp->Prop:=λ_ _=>False
 ct:St->Hp->Prop:=λ_ _=>False
noncomputable abbrev TS:=Ends->St->Hp->Prop
noncomputable def EP(X:Cx)(pins:List (Addr×Obj))(σ:St)(Q:VK)(u:Value)(s':Shared):Prop:=∃v H',Inv X pins σ H' s'/\RelV v u/\Q v H'
noncomputable def TP(X:Cx)(pins:List (Addr×Obj))(σ:St)(Q:Bool->Hp->Prop)(b:Bool)(s':Shared):Prop:=∃H',Inv X pins σ H' s'/\Q b H'
noncomputable def AP(X:Cx)(pins:List (Addr×Obj))(σ:St)(Q:List V->Hp->Prop)(us:List Value)(s':Shared):Prop:=∃vs H',Inv X pins σ H' s'/\Vals vs us/\Q vs H'
noncomputable def SP(X:Cx)(pins:List (Addr×Obj))(D:Ends)(f:Flow)(s':Shared):Prop:=
 match f with
 |.next=>∃σ' H',Inv X pins σ' H' s'/\D.nx σ' H'
 |.brk=>∃σ' H',Inv X pins σ' H' s'/\D.bk σ' H'
 |.cont=>∃σ' H',Inv X pins σ' H' s'/\D.ct σ' H'
 |.ret u=>∃v σ' H',Inv X pins σ' H' s'/\RelV v u/\D.rt v H'
noncomputable def PE(X:Cx)(e:Expr)(t:TE):Prop:=
 ∀(pins:List (Addr×Obj))(s:Shared)(σ:St)(H:Hp)(Q:VK),Inv X pins σ H s->t σ H Q->wpAny (model X.prog X.w) X.A (eval e X.env) (EP X pins σ Q) X.xe s
noncomputable def PT(X:Cx)(e:Expr)(t:TT):Prop:=
 ∀(pins:List (Addr×Obj))(s:Shared)(σ:St)(H:Hp)(Q:Bool->Hp->Prop),Inv X pins σ H s->t σ H Q->wpAny (model X.prog X.w) X.A (isTrue e X.env (eval e X.env)) (TP X pins σ Q) X.xe s
noncomputable def PW(X:Cx)(e:Expr)(t:TT):Prop:=
 ∀(whole:Sem Value)(pins:List (Addr×Obj))(s:Shared)(σ:St)(H:Hp)(Q:Bool->Hp->Prop),Inv X pins σ H s->t σ H Q->wpAny (model X.prog X.w) X.A (isTrue e X.env whole) (TP X pins σ Q) X.xe s
theorem PW.pt(h:PW X e t):PT X e t:=h _
noncomputable def PA(X:Cx)(es:List Expr)(t:TA):Prop:=
 ∀(pos:Pos)(pins:List (Addr×Obj))(s:Shared)(σ:St)(H:Hp)(Q:List V->Hp->Prop),Inv X pins σ H s->t σ H Q->wpAny (model X.prog X.w) X.A (spliced (backTo pos (starEach es X.env))) (AP X pins σ Q) X.xe s
noncomputable def PS(X:Cx)(st:Stmt)(t:TS):Prop:=
 ∀(pins:List (Addr×Obj))(s:Shared)(σ:St)(H:Hp)(D:Ends),Inv X pins σ H s->t D σ H->wpAny (model X.prog X.w) X.A (exec st X.env) (SP X pins D) X.xe s
noncomputable def PSs(X:Cx)(st:List Stmt)(t:TS):Prop:=
 ∀(pins:List (Addr×Obj))(s:Shared)(σ:St)(H:Hp)(D:Ends),Inv X pins σ H s->t D σ H->wpAny (model X.prog X.w) X.A (execs st X.env) (SP X pins D) X.xe s
theorem thn(h:wpAny M A t Q E s)(hQ:∀a s,Q a s->Q' a s):wpAny M A t Q' E s:=l0 h hQ λ_ _ x=>x
section
variable{X:Cx}
inductive ItVar(i:Nat)(σ:St)(H:Hp)(Q:VK):Prop
 |mk(v:_)(h1:σ[i]?=some (some v))(h2:Q v H):ItVar i σ H Q
noncomputable def ix(i:Nat):TE:=λσ H Q=>ItVar i σ H Q
noncomputable def tC(v:V):TE:=λ_ H Q=>Q v H
theorem pe_var(hN:X.N[i]?=some x)(hv:Vis X.env.scope x)(hd:(x==("__debug__":Str))=false:=by decide)(hcd:(x==("__classdict__":Str))=false:=by decide):PE X (.Name x pos) (ix i):=by
 intro pins s σ H Q I h;obtain⟨v,e,h⟩:=h;obtain⟨m,hn,hl⟩:=I.loc;obtain⟨u,r,l⟩:=hl i x v hN e hv;have fin:EP X pins σ Q u s:=⟨v,H,I,r,h⟩;rcases l with⟨hk,hm⟩|⟨hk,c,hc,hcell⟩
 ·exact wpAny_Name (wpAny_loadName_local I.ok.kind hk hn hm fin) hd
 ·rcases hk with hk|hk
  ·exact wpAny_Name (wpAny_loadName_cell I.ok.kind hk hc hcell fin) hd
  ·exact wpAny_Name (wpAny_loadName_free I.ok.kind hk hc hcell fin hcd) hd
theorem ab:PE X (.Constant (.int i) j pos) (tC (.int i)):=λ_ _ _ H _ I h=>wpAny_Constant_int ⟨.int i,H,I.tok _,⟨_,rfl⟩,h⟩
theorem gj:PE X (.Constant (.bool b) j pos) (tC (.bl b)):=λ_ _ _ H _ I h=>Constant_bool ⟨.bl b,H,I,rfl,h⟩
theorem pe_non:PE X (.Constant .none j pos) (tC .non):=λ_ _ _ H _ I h=>Constant_none ⟨.non,H,I,rfl,h⟩
theorem bW:PE X (.Constant (.str x) j pos) (tC (.str x)):=λ_ _ _ H _ I h=>Calls.Constant_str ⟨.str x,H,I.tok _,⟨_,rfl⟩,h⟩
noncomputable def Gl(X:Cx)(x:Str):Prop:=X.env.kindOf x=some .globalImplicit
theorem jx(I:Inv X pins σ H s)(hg:Gl X x)(hm:X.mg x=some u)(h:Q u s)
  (hd:(x==("__debug__":Str))=false:=by decide):wpAny (model X.prog X.w) X.A (eval (.Name x pos) X.env) Q E s:=
 Calls.Name_function_global I.ok.kind hg (Calls.loadGlobal_global (by rw[I.ok.glob];exact I.mod.glob.keeps I.bk) hm h) hd
theorem ld_blt(I:Inv X pins σ H s)(hg:Gl X x)(hm:X.mg x=none)(hv:bootBuiltins x=some u)(h:Q u s)
  (hn:x≠"__name__":=by decide)(hd:(x==("__debug__":Str))=false:=by decide):wpAny (model X.prog X.w) X.A (eval (.Name x pos) X.env) Q E s:=by
 obtain⟨mb,h1,h2⟩:=I.mod.blt;exact Calls.Name_function_global I.ok.kind hg (Calls.loadGlobal_builtin (by rw[I.ok.glob];exact I.mod.glob.keeps I.bk) hm (by rw[I.ok.blt];exact h1.keeps I.bk) ((h2 x hn).trans hv) h) hd
theorem pe_glob(hg:Gl X x)(hm:X.mg x=some u)(r:RelV v u)(hd:(x==("__debug__":Str))=false:=by decide):PE X (.Name x pos) (tC v):=
 λ_ _ _ H _ I h=>jx I hg hm ⟨v,H,I,r,h⟩ hd
theorem im(hg:Gl X x)(hm:X.mg x=none)(hv:bootBuiltins x=some u)(r:RelV v u)(hn:x≠"__name__":=by decide)(hd:(x==("__debug__":Str))=false:=by decide):PE X (.Name x pos) (tC v):=
 λ_ _ _ H _ I h=>ld_blt I hg hm hv ⟨v,H,I,r,h⟩ hn hd
noncomputable def t2I(ta tb:TE)(k:Int->Int->Hp->Prop):St->Hp->Prop:=λσ H=>ta σ H λx H1=>tb σ H1 λy H2=>∃i j,x=.int i/\y=.int j/\k i j H2
variable{a b:Expr}{ta tb:TE}{pos:Pos}
noncomputable def PC(X:Cx)(op:CmpOp)(a b:Expr)(t:TE):Prop:=
 ∀(pins:List (Addr×Obj))(s:Shared)(σ:St)(H:Hp)(Q:VK),Inv X pins σ H s->t σ H Q->
  wpAny (model X.prog X.w) X.A (eval a X.env) (λv s₁=>wpAny (model X.prog X.w) X.A (eval b X.env) (λu s₂=>wpAny (model X.prog X.w) X.A (compareOp op v u) (EP X pins σ Q) X.xe s₂) X.xe s₁) X.xe s
noncomputable def tCmp(p:Int->Int->Bool)(ta tb:TE):TE:=λσ H Q=>t2I ta tb (λi j H2=>Q (.bl (p i j)) H2) σ H
inductive ItB(Q:Bool->Hp->Prop)(x:V)(H1:Hp):Prop
 |mk(c:_)(h1:x=.bl c)(h2:Q c H1):ItB Q x H1
noncomputable def tB(t:TE):TT:=λσ H Q=>t σ H λx H1=>ItB Q x H1
theorem eN(h:PC X op a b t)(h1:behindInMarks op b=false:=by first|exact nobehind _ (by decide) (by decide)|rfl):PT X (.Compare a [op] [b] pos) (tB t):=by
 intro pins s σ H Q I hw;refine wpAny_isTrue_Compare1 (thn (h pins s σ H _ I hw) λv s1 h1=>thn h1 λu s2 h2=>thn h2 λc s3⟨x,H1,I1,r1,q1⟩=>?_) h1;obtain⟨d,rfl,q⟩:=q1
 cases r1;exact wpAny_truthy_bool ⟨H1,I1,q⟩
theorem cI(h:PE X e t)(he:∀whole,isTrue e X.env whole=(do let v<-whole;standAt e.pos;holding [v] (truthy v)):=by intro _;rfl):PT X e (tB t):=by
 intro pins s σ H Q I hw;refine isTrue_plain (thn (h pins s σ H _ I hw) λv s1⟨x,H1,I1,r1,q1⟩=>?_) (he _);obtain⟨d,rfl,q⟩:=q1
 cases r1;exact wpAny_truthy_bool ⟨H1,I1,q⟩
variable{tA tB':TT}{rest:List Expr}
noncomputable def tAnd(t u:TT):TT:=λσ H Q=>t σ H λc H1=>if c=true then u σ H1 Q else Q false H1
noncomputable def tOr(t u:TT):TT:=λσ H Q=>t σ H λc H1=>if c=true then Q true H1 else u σ H1 Q
noncomputable def tNot(t:TT):TT:=λσ H Q=>t σ H λc H1=>Q (!c) H1
theorem cH(ha:PT X a tA):PW X (.BoolOp .And [a] pos) tA:=by
 intro wh pins s σ H Q I h;refine isTrue_and (thn (ha pins s σ H Q I h) λc s1 e=>?_)
 cases c with
 |true=>exact isTrue_and_nil e
 |false=>exact e
theorem dI(ha:PT X a tA):PW X (.BoolOp .Or [a] pos) tA:=by
 intro wh pins s σ H Q I h;refine isTrue_or (thn (ha pins s σ H Q I h) λc s1 e=>?_)
 cases c with
 |false=>exact isTrue_or_nil e
 |true=>exact e
theorem c8(ha:PT X a tA)(hb:PW X (.BoolOp .And (b::rest) pos) tB'):PW X (.BoolOp .And (a::b::rest) pos) (tAnd tA tB'):=by
 intro wh pins s σ H Q I h;refine isTrue_and (thn (ha pins s σ H _ I h) λc s1⟨H1,I1,q1⟩=>?_)
 cases c with
 |true=>exact hb wh pins s1 σ H1 Q I1 q1
 |false=>exact⟨H1,I1,q1⟩
theorem fE(ha:PT X a tA)(hb:PW X (.BoolOp .Or (b::rest) pos) tB'):PW X (.BoolOp .Or (a::b::rest) pos) (tOr tA tB'):=by
 intro wh pins s σ H Q I h;refine isTrue_or (thn (ha pins s σ H _ I h) λc s1⟨H1,I1,q1⟩=>?_)
 cases c with
 |true=>exact⟨H1,I1,q1⟩
 |false=>exact hb wh pins s1 σ H1 Q I1 q1
theorem dJ(ha:PT X a tA):PT X (.UnaryOp .Not a pos) (tNot tA):=by
 intro pins s σ H Q I h;exact isTrue_not (ha pins s σ H (λc H1=>Q (!c) H1) I h)
noncomputable def tAndV(ta tb:TE):TE:=λσ H Q=>ta σ H λx H1=>∃c,x=.bl c/\if c=true then tb σ H1 Q else Q (.bl false) H1
noncomputable def tNotV(ta:TE):TE:=λσ H Q=>ta σ H λx H1=>∃c,x=.bl c/\Q (.bl (!c)) H1
theorem pe_one(h:PE X a t):PE X (.BoolOp op [a] pos) t:=λpins s σ H Q I hw=>BoolOp_one (h pins s σ H Q I hw)
theorem pe_and(ha:PE X a ta)(hb:PE X (.BoolOp .And (b::rest) pos) tb):PE X (.BoolOp .And (a::b::rest) pos) (tAndV ta tb):=by
 intro pins s σ H Q I h;refine BoolOp_and (thn (ha pins s σ H _ I h) λv s1⟨x,H1,I1,r1,q1⟩=>?_);obtain⟨c,rfl,q1⟩:=q1
 cases r1;refine wpAny_truthy_bool ?_
 cases c with
 |true=>exact hb pins s1 σ H1 Q I1 q1
 |false=>exact⟨.bl false,H1,I1,rfl,q1⟩
theorem pe_not(ha:PE X a ta):PE X (.UnaryOp .Not a pos) (tNotV ta):=by
 intro pins s σ H Q I h;refine UnaryOp_ (thn (ha pins s σ H _ I h) λv s1⟨x,H1,I1,r1,q1⟩=>?_);obtain⟨c,rfl,q1⟩:=q1
 cases r1;exact not_of (wpAny_truthy_bool ⟨.bl (!c),H1,I1,rfl,q1⟩)
noncomputable def tIf(t:TT)(ta tb:TE):TE:=λσ H Q=>t σ H λc H1=>if c=true then ta σ H1 Q else tb σ H1 Q
theorem pe_ifExp(hc:PT X c tA)(ha:PE X a ta)(hb:PE X b tb):PE X (.IfExp c a b pos) (tIf tA ta tb):=by
 intro pins s σ H Q I h;refine wpAny_IfExp (thn (hc pins s σ H _ I h) λd s1⟨H1,I1,q1⟩=>?_)
 cases d with
 |true=>exact ha pins s1 σ H1 Q I1 q1
 |false=>exact hb pins s1 σ H1 Q I1 q1
end
noncomputable def SqL(K:W.Frag)(H:Hp)(a:Addr)(xs:List V):Prop:=
 Rd H a (.lst xs)∨
  ∃(o:Obj)(its:Array Value)(n:Nat),K.lookup a=some o/\o.cls=.type "list"/\o.dict=none/\o.data=.seq its n/\its.size<=sizeLine/\Vals xs its.toList
noncomputable def SqT(K:W.Frag)(H:Hp)(a:Addr)(xs:List V):Prop:=
 Rd H a (.tup xs)∨
  ∃(o:Obj)(its:Array Value)(n:Nat),K.lookup a=some o/\o.cls=.type "tuple"/\o.data=.seq its n/\its.size<=sizeLine/\Vals xs its.toList
noncomputable def absV:Value->Option V
 |.none=>some .non
 |.bool b=>some (.bl b)
 |.int i _=>some (.int i)
 |.str x _=>some (.str x)
 |.bytes b _=>some (.byt b)
 |.float b _=>some (.flt b)
 |.ref a=>some (.ref a)
 |.type n=>some (.ty n)
 |_=>none
theorem RelV.abs(r:RelV x u):absV u=some x:=by
 cases x with
 |non=>cases r;rfl
 |bl _=>cases r;rfl
 |int _=>obtain⟨t,rfl⟩:=r;rfl
 |str _=>obtain⟨t,rfl⟩:=r;rfl
 |byt _=>obtain⟨t,rfl⟩:=r;rfl
 |flt _=>obtain⟨t,rfl⟩:=r;rfl
 |ref _=>cases r;rfl
 |ty _=>cases r;rfl
theorem RelV.inj(r:RelV x u)(q:RelV y u):x=y:=kg (r.abs.symm.trans q.abs)
theorem Vals.inj:∀{xs ys:List V}{us:List Value},Vals xs us->Vals ys us->xs=ys
 |_,_,_,.nil,.nil=>rfl
 |_,_,_,.cons r t,.cons r' t'=>by rw[r.inj r',Vals.inj t t']
section
variable{X:Cx}{pins:List (Addr×Obj)}{σ:St}{H:Hp}{s:Shared}{a:Addr}{xs ys:List V}
theorem SqL.of{K:W.Frag}(h:H a=some (.lst xs)):SqL K H a xs:=.inl (.inl h)
theorem SqT.of{K:W.Frag}(h:H a=some (.tup xs)):SqT K H a xs:=.inl (.inl h)
theorem Inv.list(I:Inv X pins σ H s)(h:SqL X.K H a xs):∃its:List Value,Vals xs its/\PlainL s.heap a its.toArray/\xs.length<=sizeLine:=by
 rcases h with h|⟨o,its,n,hk,hc,hd,hs,hz,r⟩
 ·obtain⟨z,its,n,r,e⟩:=h.ok I.hok;exact⟨its,r,⟨_,n,e,rfl,rfl,rfl⟩,z⟩
 ·refine⟨its.toList,r,⟨o,n,I.kIn a o hk,hc,hd,by simpa using hs⟩,?_⟩;have e:=r.length;simp only[Array.length_toList]at e
  lia
theorem Inv.tuple(I:Inv X pins σ H s)(h:SqT X.K H a xs):∃its:List Value,Vals xs its/\IsTup s.heap a its.toArray/\xs.length<=sizeLine:=by
 rcases h with h|⟨o,its,n,hk,hc,hs,hz,r⟩
 ·obtain⟨z,its,r,p⟩:=h.ok I.hok;exact⟨its,r,p,z⟩
 ·refine⟨its.toList,r,⟨o,I.kIn a o hk,hc,n,by simpa using hs⟩,?_⟩;have e:=r.length;simp only[Array.length_toList]at e
  lia
theorem Inv.list_inj(I:Inv X pins σ H s)(h:SqL X.K H a xs)(h':SqL X.K H a ys):xs=ys:=by
 obtain⟨its,r,⟨o,n,e,_,_,d⟩,_⟩:=I.list h;obtain⟨its',r',⟨o',n',e',_,_,d'⟩,_⟩:=I.list h';rw[e]at e';cases e';rw[d]at d';injection d' with d1 _
 have:its=its':=by simpa using kA Array.toList d1
 subst this;exact r.inj r'
theorem Inv.tuple_inj(I:Inv X pins σ H s)(h:SqT X.K H a xs)(h':SqT X.K H a ys):xs=ys:=by
 obtain⟨its,r,⟨o,e,_,n,d⟩,_⟩:=I.tuple h;obtain⟨its',r',⟨o',e',_,n',d'⟩,_⟩:=I.tuple h';rw[e]at e';cases e';rw[d]at d';injection d' with d1 _
 have:its=its':=by simpa using kA Array.toList d1
 subst this;exact r.inj r'
end
noncomputable abbrev Cx.wish(X:Cx)(E:Value->Shared->Prop):Cx:={X with xe:=E}
noncomputable abbrev Cx.nox(X:Cx):Cx:=X.wish λ_ _=>False
theorem Cx.Ok.wish{X:Cx}(ok:X.Ok)(E:Value->Shared->Prop):(X.wish E).Ok:=
 ⟨ok.mod,ok.kind,ok.glob,ok.blt,ok.above,ok.inj,ok.has,ok.cab,ok.hd,ok.frames,ok.stk,ok.exf,ok.bs,ok.bsz,ok.noex,ok.exfs,ok.funs,ok.frf⟩
theorem Cx.Ok.unwish{X:Cx}(ok:(X.wish E).Ok):X.Ok:=
 ⟨ok.mod,ok.kind,ok.glob,ok.blt,ok.above,ok.inj,ok.has,ok.cab,ok.hd,ok.frames,ok.stk,ok.exf,ok.bs,ok.bsz,ok.noex,ok.exfs,ok.funs,ok.frf⟩
section
variable{X:Cx}{pins:List (Addr×Obj)}{σ:St}{H:Hp}{s:Shared}{E:Value->Shared->Prop}
theorem Inv.wish(I:Inv X pins σ H s)(E:Value->Shared->Prop):Inv (X.wish E) pins σ H s:=⟨I.ok.wish E,I.os,I.bare,I.base,I.loc,I.cell,I.free,I.freeC,I.pin,I.hok,I.len⟩
theorem Inv.unwish(I:Inv (X.wish E) pins σ H s):Inv X pins σ H s:=⟨I.ok.unwish,I.os,I.bare,I.base,I.loc,I.cell,I.free,I.freeC,I.pin,I.hok,I.len⟩
theorem SP.unwish(h:SP (X.wish E) pins D f s'):SP X pins D f s':=by
 cases f with
 |next=>obtain⟨σ',H',I,q⟩:=h;exact⟨σ',H',I.unwish,q⟩
 |brk=>obtain⟨σ',H',I,q⟩:=h;exact⟨σ',H',I.unwish,q⟩
 |cont=>obtain⟨σ',H',I,q⟩:=h;exact⟨σ',H',I.unwish,q⟩
 |ret u=>obtain⟨v,σ',H',I,r,q⟩:=h;exact⟨v,σ',H',I.unwish,r,q⟩
theorem PSs.nox{st:List Stmt}(h:PSs X.nox st t):PSs X st t:=λpins s σ H D I hw=>
 l0 (h pins s σ H D (I.wish _) hw) (λ_ _ q=>q.unwish) λ_ _ z=>False.elim z
end
section
variable{X:Cx}{st:Stmt}{rest:List Stmt}{t u:TS}{e:Expr}{te:TE}{pos:Pos}
noncomputable def tNext:TS:=λD σ H=>D.nx σ H
noncomputable def tSeq(t u:TS):TS:=λD σ H=>t {D with nx:=u D} σ H
theorem aA:PSs X [] tNext:=λ_ _ σ H _ I h=>wpAny_execs_nil ⟨σ,H,I,h⟩
theorem af(h1:PS X st t)(h2:PSs X rest u):PSs X (st::rest) (tSeq t u):=by
 intro pins s σ H D I h;refine wpAny_execs_cons (thn (h1 pins s σ H {D with nx:=u D} I h) λf s1 q=>?_)
 cases f with
 |next=>
  obtain⟨σ',H',I',q⟩:=q;exact h2 pins s1 σ' H' D I' q
 |ret v=>exact q
 |brk=>exact q
 |cont=>exact q
theorem ah(h1:PS X st t):PSs X [st] t:=by
 intro pins s σ H D I h;refine wpAny_execs_cons (thn (h1 pins s σ H D I h) λf s1 q=>?_)
 cases f with
 |next=>exact wpAny_execs_nil q
 |ret v=>exact q
 |brk=>exact q
 |cont=>exact q
theorem Inv.quiet(I:Inv X pins σ H s):interactive X.env=false:=by simp[interactive,I.ok.kind]
noncomputable def tDrop(te:TE):TS:=λD σ H=>te σ H λ_ H1=>D.nx σ H1
theorem aT(he:PE X e te)(hs:swapsWith e none pos.line X.env=pure false:=by rfl):PS X (.Expr e pos) (tDrop te):=by
 intro pins s σ H D I h;exact wpAny_Expr_any (thn (he pins s σ H _ I h) (by rintro v s1⟨x,H1,I1,r1,q1⟩;exact⟨σ,H1,I1,q1⟩)) I.quiet hs
noncomputable def tRet(te:TE):TS:=λD σ H=>te σ H D.rt
theorem ax(he:PE X e te):PS X (.Return (some e) pos) (tRet te):=by
 intro pins s σ H D I h;exact wpAny_Return_some (thn (he pins s σ H _ I h) (by rintro v s1⟨x,H1,I1,r1,q1⟩;exact⟨x,σ,H1,I1,r1,q1⟩))
noncomputable def tRetN:TS:=λD _ H=>D.rt .non H
theorem ps_retN:PS X (.Return none pos) tRetN:=λ_ _ σ H _ I h=>wpAny_Return_none ⟨.non,σ,H,I,rfl,h⟩
noncomputable def tIfS(c:TT)(t u:TS):TS:=λD σ H=>c σ H λb H1=>if b=true then t D σ H1 else u D σ H1
theorem aN(hc:PT X c tc)(ha:PSs X a t)(hb:PSs X b u):PS X (.If c a b pos) (tIfS tc t u):=by
 intro pins s σ H D I h;refine wpAny_If (thn (hc pins s σ H _ I h) λd s1⟨H1,I1,q1⟩=>?_)
 cases d with
 |true=>exact ha pins s1 σ H1 D I1 q1
 |false=>exact hb pins s1 σ H1 D I1 q1
noncomputable def tNever:TS:=λ_ _ _=>False
theorem bP:PS X st tNever:=λ_ _ _ _ _ _ h=>h.elim
end
noncomputable abbrev TG:=V->St->Hp->(St->Hp->Prop)->Prop
noncomputable abbrev TGs:=List V->St->Hp->(St->Hp->Prop)->Prop
noncomputable def PG(X:Cx)(target:Expr)(t:TG):Prop:=
 ∀(pins:List (Addr×Obj))(s:Shared)(σ:St)(H:Hp)(v:V)(u:Value)(Q:St->Hp->Prop),Inv X pins σ H s->RelV v u->t v σ H Q->
  wpAny (model X.prog X.w) X.A (assign target X.env u) (λ_ s'=>∃σ' H',Inv X pins σ' H' s'/\Q σ' H') X.xe s
noncomputable def PGs(X:Cx)(ts:List Expr)(t:TGs):Prop:=
 ∀(pins:List (Addr×Obj))(s:Shared)(σ:St)(H:Hp)(vs:List V)(us:List Value)(Q:St->Hp->Prop),Inv X pins σ H s->Vals vs us->t vs σ H Q->
  wpAny (model X.prog X.w) X.A (assignInOrder ((assignEach ts X.env).map (·.2)) us) (λ_ s'=>∃σ' H',Inv X pins σ' H' s'/\Q σ' H') X.xe s
noncomputable abbrev TSet:=V->V->V->Hp->(Hp->Prop)->Prop
noncomputable abbrev TIp:=V->V->Hp->VK->Prop
section
variable{X:Cx}{pos:Pos}
noncomputable def gName(i:Nat):TG:=λv σ H Q=>Q (σ.set i (some v)) H
theorem aw(hN:X.N.Nodup)(hi:X.N[i]?=some x:=by rfl)(hx:Loc X.env.scope x:=by first|exact Or.inl rfl|exact Or.inr rfl)(hf:X.fn x=true∨X.env.scope.names.lookup x=some .local:=by first|exact .inl rfl|exact .inr rfl|assumption):PG X (.Name x pos) (gName i):=by
 intro pins s σ H v u Q I r h;exact wpAny_assign_Name (store_ok I hN hi hx r (λs' I'=>⟨_,H,I',h⟩) hf)
noncomputable def gNil:TGs:=λvs σ H Q=>vs=[]/\Q σ H
inductive IgCons(t:TG)(u:TGs)(vs:List V)(σ:St)(H:Hp)(Q:St->Hp->Prop):Prop
 |mk(v:_)(r:_)(h1:vs=v::r)(h2:t v σ H λσ' H'=>u r σ' H' Q):IgCons t u vs σ H Q
noncomputable def gCons(t:TG)(u:TGs):TGs:=λvs σ H Q=>IgCons t u vs σ H Q
theorem dP:PGs X [] gNil:=by
 intro pins s σ H vs us Q I r h;obtain⟨e,h⟩:=h;subst e
 cases r;exact assignInOrder_nil ⟨σ,H,I,h⟩
theorem bu(h1:PG X e t)(h2:PGs X es u)
  (hs:(assignEach (e::es) X.env).map (·.2)=assign e X.env::(assignEach es X.env).map (·.2):=by rfl):PGs X (e::es) (gCons t u):=by
 intro pins s σ H vs us Q I r h;obtain⟨v,vr,e1,h⟩:=h;subst e1
 cases r with
 |cons r rr=>
  rw[hs];refine assignInOrder_cons (thn (h1 pins s σ H _ _ _ I r h) λ_ s1⟨σ1,H1,I1,q1⟩=>?_);exact h2 pins s1 σ1 H1 _ _ Q I1 rr q1
inductive IgTup(K:W.Frag)(n:Nat)(t:TGs)(v:V)(σ:St)(H:Hp)(Q:St->Hp->Prop):Prop
 |mk(a:_)(xs:_)(h1:v=.ref a)(h2:SqT K H a xs)(h3:xs.length=n)(h4:t xs σ H Q):IgTup K n t v σ H Q
noncomputable def gTup(K:W.Frag)(n:Nat)(t:TGs):TG:=λv σ H Q=>IgTup K n t v σ H Q
theorem gB(hc:X.calm=true)(h:PGs X es t)
  (hn:(assignEach es X.env).length=n:=by rfl)(hst:(assignEach es X.env).findIdx? (·.1)=none:=by rfl):PG X (.Tuple es k pos) (gTup X.K n t):=by
 intro pins s σ H v u Q I r hw;obtain⟨a,xs,e1,hq,hl,hw⟩:=hw;subst e1
 cases r;obtain⟨its,rv,ht,hz⟩:=I.tuple hq;refine assign_Tuple_tuple (I.ok.hd hc) ht (by simp[hn,<-hl,rv.length]) hst λh' hx=>?_;have I1:Inv X pins σ H {s with heap:=h'}:=I.kept (t':=s.toks) λb o e=>hx b o (kQ (kf e)) e;exact h pins _ σ H xs _ Q I1 (by simpa using rv) hw
noncomputable def tAsg(te:TE)(g:TG):TS:=λD σ H=>te σ H λx H1=>g x σ H1 D.nx
theorem ps_asg(he:PE X e te)(hg:PG X tg g)(hs:swapsWithSole [tg] e pos.line X.env=pure false:=by rfl)(hw:swappedStores [tg] e X.env=pure none:=by rfl)
  (h1:(assignEach [tg] X.env).map (·.2)=[assign tg X.env]:=by rfl):PS X (.Assign [tg] e pos) (tAsg te g):=by
 intro pins s σ H D I h;refine wpAny_Assign_stores (thn (he pins s σ H _ I h) λv s1⟨x,H1,I1,r1,q1⟩=>?_) hs hw;rw[h1];exact thn (hg pins s1 σ H1 x v _ I1 r1 q1) λ_ s2 q=>q
theorem aj(hN:X.N.Nodup)(he:PE X e te)(hi:X.N[i]?=some x:=by rfl)(hx:Loc X.env.scope x:=by first|exact Or.inl rfl|exact Or.inr rfl)(hs:swapsWith e (some (.Name x pos')) pos.line X.env=pure false:=by rfl)(hf:X.fn x=true∨X.env.scope.names.lookup x=some .local:=by first|exact .inl rfl|exact .inr rfl|assumption):
  PS X (.Assign [.Name x pos'] e pos) (tAsg te (gName i)):=by
 intro pins s σ H D I h;refine wpAny_Assign_Name (thn (he pins s σ H _ I h) λv s1⟨y,H1,I1,r1,q1⟩=>?_) hs;exact store_ok I1 hN hi hx r1 (λs2 I2=>⟨_,H1,I2,q1⟩) hf
inductive ItPar(i:Nat)(j:Nat)(D:Ends)(σ:St)(vs:List V)(H1:Hp):Prop
 |mk(v:_)(w:_)(h1:vs=[v,w])(h2:D.nx ((σ.set i (some v)).set j (some w)) H1):ItPar i j D σ vs H1
end
section
variable{X:Cx}{pos:Pos}
noncomputable def tWhile(c:TT)(tb:TS):TS:=λD σ H=>∃W:Nat->St->Hp->Prop,(∃m,W m σ H)/\∀m σ H,W m σ H->
 c σ H λb H1=>if b=true then∃N:St->Hp->Prop,(∀σ' H',N σ' H'->∃m',m'<m/\W m' σ' H')/\tb {D with nx:=N,ct:=N,bk:=D.nx} σ H1 else D.nx σ H1
theorem gc(hp:PassesOwn (model X.prog X.w) X.A X.env X.xe)(hc:PT X c tc)(hb:PSs X body tb):PS X (.While c body [] pos) (tWhile tc tb):=by
 intro pins s σ H D I h;obtain⟨W,⟨m0,w0⟩,turn⟩:=h;refine wpAny_While (codeAny_whileLoop (λn s'=>∃σ' H',Inv X pins σ' H' s'/\W n σ' H') ?_ m0 ⟨σ,H,I,w0⟩);rintro n s1⟨σ1,H1,I1,w1⟩;refine wpAny_passesOwn hp (thn (hc pins s1 σ1 H1 _ I1 (turn n σ1 H1 w1)) λb s2⟨H2,I2,q2⟩=>?_)
 cases b with
 |true=>
  obtain⟨N,hN,q2⟩:=q2;rw[if_pos rfl];refine wpAny_passesOwn hp (thn (hb pins s2 σ1 H2 _ I2 q2) λf s3 q3=>?_)
  cases f with
  |next=>
   obtain⟨σ3,H3,I3,n3⟩:=q3;obtain⟨m',hm,w3⟩:=hN σ3 H3 n3;exact⟨m',hm,σ3,H3,I3,w3⟩
  |cont=>
   obtain⟨σ3,H3,I3,n3⟩:=q3;obtain⟨m',hm,w3⟩:=hN σ3 H3 n3;exact⟨m',hm,σ3,H3,I3,w3⟩
  |brk=>exact q3
  |ret v=>exact q3
 |false=>
  rw[if_neg kc];exact wpAny_execs_nil ⟨σ1,H2,I2,q2⟩
end
structure It where
 go:Nat->Hp->Prop
 yld:Nat->Hp->V->Hp->Prop
 stop:Nat->Hp->Prop
noncomputable def FpOk(X:Cx)(pins:List (Addr×Obj))(H:Hp)(b:Addr):Prop:=
 H b=none/\b≠X.env.locals/\b∉X.fs/\(b∈X.ex∨X.s₀.heap.objs.size<=b)/\(∀x c,X.env.cells.lookup x=some c->c≠b)/\∀p∈X.pn++pins,p.1≠b
theorem Inv.fpOk(I:Inv X pins σ H s)(hb:s.heap.objs.size<=b)(hn:H' b=none):FpOk X pins H' b:=by
 refine⟨hn,Nat.ne_of_gt (kF I.lt hb),I.nofs hb,.inr (jV I.sz hb),λx c e z=>?_,λp hp z=>?_⟩
 ·obtain⟨v,q⟩:=I.cell x c e;exact absurd (kF q.lt (by rw[z];exact hb)) (lW _)
 ·exact absurd (kF (kf (I.pin p hp).1) (by rw[z];exact hb)) (lW _)
structure Turn(P:Program)(w:World)(K:W.Frag)(tg:Expr)(J:It)(fp:List Addr)(it:Addr)(tn:Nat->Heap->Prop):Prop where
 mem:it∈fp
 obj:∀i h,tn i h->∀b∈fp,∃o,h.get? b=some o/\∀v,o.data≠.cell v
 keep:∀i h h',tn i h->(∀b∈fp,∀o,h.get? b=some o->h'.get? b=some o)->tn i h'
 item:∀(X:Cx),X.prog=P->X.w=w->X.K=K->X.calm=true->∀(i:Nat)(pins:List (Addr×Obj))(s:Shared)(σ:St)(H:Hp)(E:Value->Shared->Prop),Inv X pins σ H s->(∀b∈fp,FpOk X pins H b)->tn i s.heap->J.go i H->
  wpAny (model P w) X.A (pyNext (.ref it)) (λr s1=>∃u,r=some u/\
   wpAny (model P w) X.A (letOwnedTupleGo tg (.ref it) u) (λ_ s2=>∃x H',Inv X pins σ H' s2/\RelV x u/\J.yld i H x H'/\tn (i+1) s2.heap/\∀b∈fp,H' b=none) E s1) E s
 done:∀(X:Cx),X.prog=P->X.w=w->X.K=K->X.calm=true->∀(i:Nat)(pins:List (Addr×Obj))(s:Shared)(σ:St)(H:Hp)(E:Value->Shared->Prop),Inv X pins σ H s->(∀b∈fp,FpOk X pins H b)->tn i s.heap->J.stop i H->
  wpAny (model P w) X.A (pyNext (.ref it)) (λr s1=>r=none/\Inv X pins σ H s1) E s
 self:∀(A:Around)(i:Nat)(s:Shared)(Q:Value->Shared->Prop)(E:Value->Shared->Prop),tn i s.heap->Q (.ref it) s->wpAny (model P w) A (pyIter (.ref it)) Q E s
noncomputable abbrev TI:=St->Hp->(It->Hp->Prop)->Prop
noncomputable def PIE(X:Cx)(pins:List (Addr×Obj))(σ:St)(tg:Expr)(R:It->Hp->Prop)(itv:Value)(s2:Shared):Prop:=
 ∃(it:Addr)(fp:List Addr)(tn:Nat->Heap->Prop)(J:It)(H':Hp),itv=.ref it/\Inv X pins σ H' s2/\Turn X.prog X.w X.K tg J fp it tn/\tn 0 s2.heap/\(∀b∈fp,FpOk X pins H' b)/\R J H'
noncomputable def PI(X:Cx)(tg iter:Expr)(wi:TI):Prop:=
 ∀(pins:List (Addr×Obj))(s:Shared)(σ:St)(H:Hp)(R:It->Hp->Prop),Inv X pins σ H s->wi σ H R->
  wpAny (model X.prog X.w) X.A (eval iter X.env) (λv s1=>wpAny (model X.prog X.w) X.A (pyIter v) (PIE X pins σ tg R) X.xe s1) X.xe s
theorem go_of(ho:s.heap.get? it=some o)(hc:o.cls=.type n)(hd:o.data=.fields vs)
    (hn:["enumerate","zip","dict_itemiterator","dict_reverseitemiterator","odict_iterator","itertools.zip_longest","itertools.pairwise"].contains n=false)(hQ:Q () s):wpAny M A (letOwnedTupleGo tg (.ref it) u) Q E s:=by
  unfold letOwnedTupleGo
  cases tg<;>first
    |exact lg hQ
    |(cases u<;>first
        |exact lg hQ
        | (refine kJ (wpAny_load ho ?_)
           rw[hc,hd];show wpAny M A (if(["enumerate","zip","dict_itemiterator","dict_reverseitemiterator","odict_iterator","itertools.zip_longest","itertools.pairwise"].contains n&&vs[0]?==some (rawInt _))=true then _ else _) Q E s;rw[if_neg (by intro h;rw[hn,Bool.false_and]at h;cases h)];exact lg hQ))
noncomputable def Itl(K:W.Frag)(a:Addr):It:=
 ⟨λi H=>∃xs x,SqL K H a xs/\xs[i]?=some x,λi H x H'=>H'=H/\∀xs,SqL K H a xs->xs[i]?=some x,λi H=>∃xs,SqL K H a xs/\xs.length<=i⟩
noncomputable def Itt(K:W.Frag)(a:Addr):It:=
 ⟨λi H=>∃xs x,SqT K H a xs/\xs[i]?=some x,λi H x H'=>H'=H/\∀xs,SqT K H a xs->xs[i]?=some x,λi H=>∃xs,SqT K H a xs/\xs.length<=i⟩
noncomputable def Itr(lo:Int)(n:Nat):It:=⟨λi _=>i<n,λi H x H'=>H'=H/\x=.int (lo+i),λi _=>n<=i⟩
theorem turn_list{K:W.Frag}(a it:Addr):Turn P w K tg (Itl K a) [it] it (λi h=>h.IsListIter it a i)where
 mem:=by simp
 obj:=λi h st b hb=>by
  have e:b=it:=by simpa using hb
  subst e;obtain⟨o,e,c,d⟩:=st;exact⟨o,e,λv z=>by rw[d]at z;cases z⟩
 keep:=λi h h' st k=>st.at λo e=>k it (by simp) o e
 item:=by
  intro X hP hw hK hc i pins s σ H E I hf st hg;subst hP hw hK;obtain⟨xs,x,hq,hx⟩:=hg;obtain⟨its,rv,p,hz⟩:=I.list hq;obtain⟨u,hu,ru⟩:=rv.get hx;obtain⟨f0,f1,f2,f3,f4,f5⟩:=hf it (by simp);refine wpAny_pyNext_list_item st p.isList (x:=u) (by simpa using hu) λh' st' sb=>?_;have I1:Inv X pins σ H {s with heap:=h'}:=I.turned (t':=s.toks) (λb o hb e=>(sb.2 b hb).trans e) f0 f1 f3 f4 f5;obtain⟨o,e,c,d⟩:=id st';exact⟨u,rfl,go_of (s:={s with heap:=h'}) e c d (by decide) ⟨x,H,I1,ru,⟨rfl,λys hy=>by rw[I.list_inj hy hq];exact hx⟩,st',λb hb=>(hf b hb).1⟩⟩
 done:=by
  intro X hP hw hK hc i pins s σ H E I hf st hg;subst hP hw hK;obtain⟨xs,hq,hx⟩:=hg;obtain⟨its,rv,p,hz⟩:=I.list hq;obtain⟨f0,f1,f2,f3,f4,f5⟩:=hf it (by simp);have hl:=rv.length;exact wpAny_pyNext_list_end (I.ok.hd hc) st p.isList (by simp;lia) λh' eb=>⟨rfl,I.turned (t':=s.toks) (λb o hb e=>eb b o hb e) f0 f1 f3 f4 f5⟩
 self:=λ_ _ _ _ _ st h=>wpAny_pyIter_listiter st h
theorem turn_tuple{K:W.Frag}(a it:Addr):Turn P w K tg (Itt K a) [it] it (λi h=>h.IsTupleIter it a i) where
 mem:=by simp
 obj:=λi h st b hb=>by
  have e:b=it:=by simpa using hb
  subst e;obtain⟨o,e,c,d⟩:=st;exact⟨o,e,λv z=>by rw[d]at z;cases z⟩
 keep:=λi h h' st k=>st.at λo e=>k it (by simp) o e
 item:=by
  intro X hP hw hK hc i pins s σ H E I hf st hg;subst hP hw hK;obtain⟨xs,x,hq,hx⟩:=hg;obtain⟨its,rv,p,hz⟩:=I.tuple hq;obtain⟨u,hu,ru⟩:=rv.get hx;obtain⟨f0,f1,f2,f3,f4,f5⟩:=hf it (by simp);refine wpAny_pyNext_tuple_item st (show s.heap.IsTuple a its.toArray from p) (x:=u) (by simpa using hu) λh' st' sb=>?_;have I1:Inv X pins σ H {s with heap:=h'}:=I.turned (t':=s.toks) (λb o hb e=>(sb.2 b hb).trans e) f0 f1 f3 f4 f5;obtain⟨o,e,c,d⟩:=id st';exact⟨u,rfl,go_of (s:={s with heap:=h'}) e c d (by decide) ⟨x,H,I1,ru,⟨rfl,λys hy=>by rw[I.tuple_inj hy hq];exact hx⟩,st',λb hb=>(hf b hb).1⟩⟩
 done:=by
  intro X hP hw hK hc i pins s σ H E I hf st hg;subst hP hw hK;obtain⟨xs,hq,hx⟩:=hg;obtain⟨its,rv,p,hz⟩:=I.tuple hq;obtain⟨f0,f1,f2,f3,f4,f5⟩:=hf it (by simp);have hl:=rv.length;exact wpAny_pyNext_tuple_end (I.ok.hd hc) st (show s.heap.IsTuple a its.toArray from p) (by simp;lia) λh' eb=>⟨rfl,I.turned (t':=s.toks) (λb o hb e=>eb b o hb e) f0 f1 f3 f4 f5⟩
 self:=λ_ _ _ _ _ st h=>wpAny_pyIter_tupleiter st h
theorem turn_range{K:W.Frag}(it:Addr)(lo:Int)(n:Nat):Turn P w K tg (Itr lo n) [it] it (λi h=>IsRangeIter h it (lo+(i:Nat)*1) ((n:Int)-(i:Nat)) 1) where
 mem:=by simp
 obj:=λi h st b hb=>by
  have e:b=it:=by simpa using hb
  subst e
  exact⟨_,st,λv z=>by
   have z':Data.fields _=Data.cell v:=z
   cases z'⟩
 keep:=λi h h' st k=>k it (by simp) _ st
 item:=by
  intro X hP hw hK hc i pins s σ H E I hf st hg;subst hP hw hK;obtain⟨f0,f1,f2,f3,f4,f5⟩:=hf it (by simp);have W:=Walks.range (prog:=X.prog) (w:=X.w) (I.ok.hd hc) it lo 1 n;refine W.item i s _ _ hg st λv h' tk hv st' kk=>?_;obtain⟨t,rfl⟩:=hv;have I1:Inv X pins σ H {s with heap:=h',toks:=tk}:=I.turned (λb o hb e=>kk b o (by simpa using hb) e) f0 f1 f3 f4 f5;refine⟨_,rfl,go_of (s:={s with heap:=h',toks:=tk}) (n:="range_iterator") st' rfl rfl (by decide) ⟨.int (lo+i),H,I1,⟨t,?_⟩,⟨rfl,rfl⟩,st',λb hb=>(hf b hb).1⟩⟩;rw[Int.mul_one]
 done:=by
  intro X hP hw hK hc i pins s σ H E I hf st hg;subst hP hw hK;obtain⟨f0,f1,f2,f3,f4,f5⟩:=hf it (by simp);exact wpAny_pyNext_range_end (I.ok.hd hc) st (by have:n<=i:=hg;lia) λh' eb=>⟨rfl,I.turned (t':=s.toks) (λb o hb e=>eb b o hb e) f0 f1 f3 f4 f5⟩
 self:=λ_ _ _ _ _ st h=>wpAny_pyIter_rangeiter st h
section
variable{X:Cx}{tg:Expr}
inductive IiList(K:W.Frag)(R:It->Hp->Prop)(x:V)(H1:Hp):Prop
 |mk(a:_)(h1:x=.ref a)(h2:(∃xs,SqL K H1 a xs))(h3:R (Itl K a) H1):IiList K R x H1
noncomputable def iList(K:W.Frag)(tl:TE):TI:=λσ H R=>tl σ H λx H1=>IiList K R x H1
inductive IiTup(K:W.Frag)(R:It->Hp->Prop)(x:V)(H1:Hp):Prop
 |mk(a:_)(h1:x=.ref a)(h2:(∃xs,SqT K H1 a xs))(h3:R (Itt K a) H1):IiTup K R x H1
noncomputable def iTup(K:W.Frag)(tl:TE):TI:=λσ H R=>tl σ H λx H1=>IiTup K R x H1
theorem a5(hl:PE X l tl):PI X tg l (iList X.K tl):=by
 intro pins s σ H R I h;refine thn (hl pins s σ H _ I h) λv s1⟨x,H1,I1,r1,q1⟩=>?_;obtain⟨a,e,⟨xs,hq⟩,q⟩:=q1;subst e
 cases r1;obtain⟨its,rv,p,hz⟩:=I1.list hq;refine wpAny_pyIter_list p.isList ?_;refine⟨s1.heap.objs.size,[s1.heap.objs.size],_,_,H1,rfl,I1.kept (t':=s1.toks) λb o e=>jZ _ e,turn_list a _,⟨_,kq _ rfl,rfl,rfl⟩,λb hb=>?_,q⟩;have e:b=s1.heap.objs.size:=by simpa using hb
 subst e;exact I1.fpOk (jJ _) (I1.hok.fresh (jJ _))
theorem pi_tup(hl:PE X l tl):PI X tg l (iTup X.K tl):=by
 intro pins s σ H R I h;refine thn (hl pins s σ H _ I h) λv s1⟨x,H1,I1,r1,q1⟩=>?_;obtain⟨a,e,⟨xs,hq⟩,q⟩:=q1;subst e
 cases r1;obtain⟨its,rv,p,hz⟩:=I1.tuple hq;refine wpAny_pyIter_tuple (show s1.heap.IsTuple a its.toArray from p) ?_;refine⟨s1.heap.objs.size,[s1.heap.objs.size],_,_,H1,rfl,I1.kept (t':=s1.toks) λb o e=>jZ _ e,turn_tuple a _,⟨_,kq _ rfl,rfl,rfl⟩,λb hb=>?_,q⟩;have e:b=s1.heap.objs.size:=by simpa using hb
 subst e;exact I1.fpOk (jJ _) (I1.hok.fresh (jJ _))
theorem range_it{lo hi:Int}(I:Inv X pins σ H s)(h1:-(2^62)<=lo)(h2:lo<2^62)(h3:-(2^62)<=hi)(h4:hi<2^62)
  (q:R (Itr lo (hi-lo).toNat) H):wpAny (model X.prog X.w) X.A (pyIter (.ref s.heap.objs.size)) (PIE X pins σ tg R) E {s with heap:=s.heap.push {cls:=.type "range",data:=.fields #[.int lo t,.int hi u,.int 1 v]},toks:=tk}:=by
 refine wpAny_pyIter_range (IsRange.new ..) (small_one h1 h2 h3 h4) ?_;have I1:Inv X pins σ H {s with heap:=s.heap.push {cls:=.type "range",data:=.fields #[.int lo t,.int hi u,.int 1 v]},toks:=tk}:=I.kept λb o e=>jZ _ e
 refine⟨(s.heap.push {cls:=.type "range",data:=.fields #[.int lo t,.int hi u,.int 1 v]}).objs.size,[(s.heap.push {cls:=.type "range",data:=.fields #[.int lo t,.int hi u,.int 1 v]}).objs.size],_,_,H,rfl,
  I1.kept (t':=tk) λb o e=>jZ _ e,turn_range _ lo (hi-lo).toNat,?_,λb hb=>?_,q⟩
 ·have e1:lo+((0:Nat):Int)*1=lo:=by simp
  have e2:(((hi-lo).toNat:Nat):Int)-((0:Nat):Int)=Builtin.Range.rangeSize lo hi 1:=by rw[rangeSize_one];split<;>lia
  show IsRangeIter _ _ (lo+((0:Nat):Int)*1) ((((hi-lo).toNat:Nat):Int)-((0:Nat):Int)) 1;rw[e1,e2];exact kq _ rfl
 ·have e:b=(s.heap.push {cls:=.type "range",data:=.fields #[.int lo t,.int hi u,.int 1 v]}).objs.size:=by simpa using hb
  subst e;exact I1.fpOk (jJ _) (I1.hok.fresh (jJ _))
noncomputable def iRng1(ta:TA):TI:=λσ H R=>ta σ H λvs H1=>∃j:Int,vs=[.int j]/\-(2^62)<=j/\j<2^62/\R (Itr 0 j.toNat) H1
theorem bO(hg:Gl X "range")(hm:X.mg "range"=none)(ha:PA X [a] ta)(hs:starEach [a] X.env=[(false,eval a X.env)]:=by rfl):PI X tg (.Call (.Name "range" p) [a] [] pos) (iRng1 ta):=by
 intro pins s σ H R I h;refine Call_ (ld_blt I hg hm boot_range (PyProof.Rows.callWith_type1 (thn (ha pos pins s σ H _ I h) λus s1⟨vs,H1,I1,r1,q1⟩=>?_) hs rfl));obtain⟨j,e,q1,q2,q⟩:=q1;subst e
 cases r1 with
 |cons r rr=>
  cases rr;obtain⟨t,rfl⟩:=r;exact call_range_1 (range_it I1 (by lia) (by lia) q1 q2 (by simpa using q))
noncomputable def tFor(wi:TI)(g:TG)(tb:TS):TS:=λD σ H=>wi σ H λJ H1=>∃W:Nat->Nat->St->Hp->Prop,(∃m,W 0 m σ H1)/\∀i m σ H,W i m σ H->
 (J.stop i H/\D.nx σ H)∨(J.go i H/\∃N:St->Hp->Prop,(∀σ' H',N σ' H'->∃m',m'<m/\W (i+1) m' σ' H')/\∀x H',J.yld i H x H'->g x σ H' λσ2 H2=>tb {D with nx:=N,ct:=N,bk:=D.nx} σ2 H2)
noncomputable def pinsAt(fp:List Addr)(h:Heap):List (Addr×Obj):=fp.filterMap λb=>(h.get? b).map λo=>(b,o)
theorem dc(hb:b∈fp)(e:h.get? b=some o):(b,o)∈pinsAt fp h:=List.mem_filterMap.mpr ⟨b,hb,by rw[e];rfl⟩
theorem of_pinsAt(hp:p∈pinsAt fp h):p.1∈fp/\h.get? p.1=some p.2:=by
 obtain⟨b,hb,e⟩:=List.mem_filterMap.mp hp
 cases q:h.get? b with
 |none=>rw[q]at e;cases e
 |some o=>
  rw[q]at e;have e':(b,o)=p:=kg e;subst e';exact⟨hb,q⟩
theorem Inv.pinned(I:Inv X pins σ H s)(hf:∀b∈fp,FpOk X pins H b)(ho:∀b∈fp,∃o,s.heap.get? b=some o/\∀v,o.data≠.cell v):Inv X (pins++pinsAt fp s.heap) σ H s:=
 I.pins_of λp hp=>(jP.mp hp).elim (λz=>I.pin p (j8 _ z)) λz=>by
  obtain⟨hb,e⟩:=of_pinsAt z;obtain⟨f0,f1,f2,_⟩:=hf p.1 hb;obtain⟨o,e',d⟩:=ho p.1 hb;rw[e]at e';cases e';exact⟨e,f0,f1,f2,d⟩
theorem Inv.unpinned(I:Inv X (pins++pl) σ H s):Inv X pins σ H s:=I.pins_of λp hp=>I.pin p (j8 _ (jX _ hp))
theorem aQ(hp:PassesOwn (model X.prog X.w) X.A X.env X.xe)(hc:X.calm=true)(hi:PI X tg iter wi)(hg:PG X tg g)(hb:PSs X body tb)
  (hs:∀x,foldedSetIterable iter X.env x=pure x:=by intro _;rfl):PS X (.For tg iter body [] pos) (tFor wi g tb):=by
 intro pins s σ H D I h;refine wpAny_For (thn (hi pins s σ H _ I h) λv s1 h1=>thn h1 λitv s2 h2=>?_) hs;obtain⟨it,fp,tn,J,H2,e,I2,T,st2,f2,W,⟨m0,w0⟩,turn⟩:=h2;subst e;have stat:∀{H':Hp},(∀b∈fp,H' b=none)->∀b∈fp,FpOk X pins H' b:=λhn b hb=>⟨hn b hb,(f2 b hb).2⟩;refine codeAny_forLoop_any (λn s'=>∃i σ' H',Inv X pins σ' H' s'/\tn i s'.heap/\(∀b∈fp,H' b=none)/\W i n σ' H') ?_ m0 ⟨0,σ,H2,I2,st2,λb hb=>(f2 b hb).1,w0⟩;rintro n s3⟨i,σ3,H3,I3,st3,fr3,w3⟩;rcases turn i n σ3 H3 w3 with⟨stop,qn⟩|⟨go,N,hN,step⟩
 ·refine wpAny_passesOwn hp (thn (T.done X rfl rfl rfl hc i pins s3 σ3 H3 X.xe I3 (stat fr3) st3 stop) λr s4⟨hr,I4⟩=>?_);subst hr;exact wpAny_execs_nil ⟨σ3,H3,I4,qn⟩
 ·refine wpAny_passesOwn hp (thn (T.item X rfl rfl rfl hc i pins s3 σ3 H3 X.xe I3 (stat fr3) st3 go) λr s4⟨u,hr,h4⟩=>?_);subst hr;refine wpAny_passesOwn hp (thn h4 λ_ s5⟨x,H5,I5,r5,y5,st5,fr5⟩=>?_);have I5':=I5.pinned (stat fr5) (T.obj _ _ st5);refine wpAny_passesOwn hp (thn (hg _ s5 σ3 H5 x u _ I5' r5 (step x H5 y5)) λ_ s6⟨σ6,H6,I6,q6⟩=>?_);refine wpAny_passesOwn hp (thn (hb _ s6 σ6 H6 _ I6 q6) λf s7 q7=>?_)
  have again:∀{σ7:St}{H7:Hp},Inv X (pins++pinsAt fp s5.heap) σ7 H7 s7->N σ7 H7->∃m,m<n/\∃i σ' H',Inv X pins σ' H' s7/\tn i s7.heap/\(∀b∈fp,H' b=none)/\W i m σ' H':=λ{σ7 H7}I7 n7=>by
   obtain⟨m',hm,w7⟩:=hN σ7 H7 n7;refine⟨m',hm,i+1,σ7,H7,I7.unpinned,T.keep _ _ _ st5 λb hb o e=>(I7.pin (b,o) (j8 _ (j8 _ (dc hb e)))).1,λb hb=>?_,w7⟩;obtain⟨o,e,d⟩:=T.obj _ _ st5 b hb;exact(I7.pin (b,o) (j8 _ (j8 _ (dc hb e)))).2.1
  cases f with
  |next=>obtain⟨σ7,H7,I7,n7⟩:=q7;exact again I7 n7
  |cont=>obtain⟨σ7,H7,I7,n7⟩:=q7;exact again I7 n7
  |brk=>obtain⟨σ7,H7,I7,q7⟩:=q7;exact⟨σ7,H7,I7.unpinned,q7⟩
  |ret v=>obtain⟨x7,σ7,H7,I7,r7,q7⟩:=q7;exact⟨x7,σ7,H7,I7.unpinned,r7,q7⟩
end
theorem ba{K:W.Frag}{g:TG}{tb:TS}{D:Ends}(Pv:Nat->St->Hp->Prop)(h0:Pv 0 σ H)(hl:∀i σ H,i<=xs.length->Pv i σ H->SqL K H a xs)
  (hs:∀i x σ H,xs[i]?=some x->Pv i σ H->g x σ H λσ2 H2=>tb {D with nx:=Pv (i+1),ct:=Pv (i+1),bk:=D.nx} σ2 H2)(hd:∀σ H,Pv xs.length σ H->D.nx σ H):
  ∃W:Nat->Nat->St->Hp->Prop,(∃m,W 0 m σ H)/\∀i m σ H,W i m σ H->
   ((Itl K a).stop i H/\D.nx σ H)∨((Itl K a).go i H/\∃N:St->Hp->Prop,(∀σ' H',N σ' H'->∃m',m'<m/\W (i+1) m' σ' H')/\∀x H',(Itl K a).yld i H x H'->g x σ H' λσ2 H2=>tb {D with nx:=N,ct:=N,bk:=D.nx} σ2 H2):=by
 refine⟨λi m σ H=>m=xs.length-i/\i<=xs.length/\Pv i σ H,⟨xs.length,by simp,jU _,h0⟩,?_⟩;rintro i m σ H⟨rfl,hi,p⟩;have q:=hl i σ H hi p;by_cases hlt:i<xs.length
 ·refine .inr ⟨⟨xs,xs[i],q,by simp[hlt]⟩,Pv (i+1),λσ' H' p'=>⟨xs.length-(i+1),by lia,rfl,hlt,p'⟩,λx H' y=>?_⟩;obtain⟨e,y⟩:=y;subst e;exact hs i x σ _ (y xs q) p
 ·have e:i=xs.length:=by lia
  subst e;exact .inl ⟨⟨xs,q,jJ _⟩,hd σ H p⟩
theorem for_tup{K:W.Frag}{g:TG}{tb:TS}{D:Ends}(Pv:Nat->St->Hp->Prop)(h0:Pv 0 σ H)(hl:∀i σ H,i<=xs.length->Pv i σ H->SqT K H a xs)
  (hs:∀i x σ H,xs[i]?=some x->Pv i σ H->g x σ H λσ2 H2=>tb {D with nx:=Pv (i+1),ct:=Pv (i+1),bk:=D.nx} σ2 H2)(hd:∀σ H,Pv xs.length σ H->D.nx σ H):
  ∃W:Nat->Nat->St->Hp->Prop,(∃m,W 0 m σ H)/\∀i m σ H,W i m σ H->
   ((Itt K a).stop i H/\D.nx σ H)∨((Itt K a).go i H/\∃N:St->Hp->Prop,(∀σ' H',N σ' H'->∃m',m'<m/\W (i+1) m' σ' H')/\∀x H',(Itt K a).yld i H x H'->g x σ H' λσ2 H2=>tb {D with nx:=N,ct:=N,bk:=D.nx} σ2 H2):=by
 refine⟨λi m σ H=>m=xs.length-i/\i<=xs.length/\Pv i σ H,⟨xs.length,by simp,jU _,h0⟩,?_⟩;rintro i m σ H⟨rfl,hi,p⟩;have q:=hl i σ H hi p;by_cases hlt:i<xs.length
 ·refine .inr ⟨⟨xs,xs[i],q,by simp[hlt]⟩,Pv (i+1),λσ' H' p'=>⟨xs.length-(i+1),by lia,rfl,hlt,p'⟩,λx H' y=>?_⟩;obtain⟨e,y⟩:=y;subst e;exact hs i x σ _ (y xs q) p
 ·have e:i=xs.length:=by lia
  subst e;exact .inl ⟨⟨xs,q,jJ _⟩,hd σ H p⟩
theorem dW{lo:Int}{g:TG}{tb:TS}{D:Ends}(Pv:Nat->St->Hp->Prop)(h0:Pv 0 σ H)
  (hs:∀i σ H,i<n->Pv i σ H->g (.int (lo+i)) σ H λσ2 H2=>tb {D with nx:=Pv (i+1),ct:=Pv (i+1),bk:=D.nx} σ2 H2)(hd:∀σ H,Pv n σ H->D.nx σ H):
  ∃W:Nat->Nat->St->Hp->Prop,(∃m,W 0 m σ H)/\∀i m σ H,W i m σ H->
   ((Itr lo n).stop i H/\D.nx σ H)∨((Itr lo n).go i H/\∃N:St->Hp->Prop,(∀σ' H',N σ' H'->∃m',m'<m/\W (i+1) m' σ' H')/\∀x H',(Itr lo n).yld i H x H'->g x σ H' λσ2 H2=>tb {D with nx:=N,ct:=N,bk:=D.nx} σ2 H2):=by
 refine⟨λi m σ H=>m=n-i/\i<=n/\Pv i σ H,⟨n,by simp,jU _,h0⟩,?_⟩;rintro i m σ H⟨rfl,hi,p⟩;by_cases hlt:i<n
 ·refine .inr ⟨hlt,Pv (i+1),λσ' H' p'=>⟨n-(i+1),by lia,rfl,hlt,p'⟩,λx H' y=>?_⟩;obtain⟨e,y⟩:=y;subst e y;exact hs i σ _ hlt p
 ·have e:i=n:=by lia
  subst e;exact .inl ⟨jJ _,hd σ H p⟩
theorem while_by(Pv:St->Hp->Prop)(μ:St->Hp->Nat)(h0:Pv σ H)
  (hs:∀σ H,Pv σ H->c σ H λb H1=>if b=true then tb {D with nx:=λσ' H'=>Pv σ' H'/\μ σ' H'<μ σ H,ct:=λσ' H'=>Pv σ' H'/\μ σ' H'<μ σ H,bk:=D.nx} σ H1 else D.nx σ H1)
  (mono:∀σ H Q Q',(∀b H1,Q b H1->Q' b H1)->c σ H Q->c σ H Q'):tWhile c tb D σ H:=by
 refine⟨λm σ H=>m=μ σ H/\Pv σ H,⟨_,rfl,h0⟩,?_⟩;rintro m σ H⟨rfl,p⟩;refine mono σ H _ _ (λb H1 q=>?_) (hs σ H p)
 cases b with
 |true=>exact⟨_,(by rintro σ' H'⟨p',l⟩;exact⟨_,l,rfl,p'⟩),q⟩
 |false=>exact q
noncomputable abbrev R2:=V->V->Hp->VK->Prop
noncomputable def OpR(X:Cx)(f:Value->Value->Sem Value)(r:R2):Prop:=
 ∀(pins:List (Addr×Obj))(s:Shared)(σ:St)(H:Hp)(x y:V)(v u:Value)(Q:VK),Inv X pins σ H s->RelV x v->RelV y u->r x y H Q->
  wpAny (model X.prog X.w) X.A (f v u) (EP X pins σ Q) X.xe s
noncomputable def UnR(X:Cx)(f:Value->Sem Value)(r:V->Hp->VK->Prop):Prop:=
 ∀(pins:List (Addr×Obj))(s:Shared)(σ:St)(H:Hp)(x:V)(v:Value)(Q:VK),Inv X pins σ H s->RelV x v->r x H Q->
  wpAny (model X.prog X.w) X.A (f v) (EP X pins σ Q) X.xe s
noncomputable def dH(X:Cx)(f:Value)(r:List V->Hp->VK->Prop):Prop:=
 ∀(pins:List (Addr×Obj))(s:Shared)(σ:St)(H:Hp)(xs:List V)(us:List Value)(Q:VK),Inv X pins σ H s->Vals xs us->r xs H Q->
  wpAny (model X.prog X.w) X.A (call f us) (EP X pins σ Q) X.xe s
noncomputable def tOp(r:R2)(ta tb:TE):TE:=λσ H Q=>ta σ H λx H1=>tb σ H1 λy H2=>r x y H2 Q
noncomputable def tUn(r:V->Hp->VK->Prop)(ta:TE):TE:=λσ H Q=>ta σ H λx H1=>r x H1 Q
noncomputable def rI(C:Int->Int->Prop)(g:Int->Int->V):R2:=λx y H Q=>∃i j,x=.int i/\y=.int j/\C i j/\Q (g i j) H
inductive IrI0(g:Int->Int->V)(x:V)(y:V)(H:Hp)(Q:VK):Prop
 |mk(i:_)(j:_)(h1:x=.int i)(h2:y=.int j)(h3:Q (g i j) H):IrI0 g x y H Q
noncomputable def rI0(g:Int->Int->V):R2:=λx y H Q=>IrI0 g x y H Q
inductive IrU(g:Int->V)(x:V)(H:Hp)(Q:VK):Prop
 |mk(i:_)(h1:x=.int i)(h2:Q (g i) H):IrU g x H Q
noncomputable def rU(g:Int->V):V->Hp->VK->Prop:=λx H Q=>IrU g x H Q
section
variable{X:Cx}{a b c:Expr}{ta tb tc:TE}{pos:Pos}
theorem binT(ha:PE X a ta)(hb:PE X b tb){R:V->V->Hp->Prop}(I:Inv X pins σ H s)
  (h:ta σ H λx H1=>tb σ H1 λy H2=>R x y H2){f:Value->Value->Sem Value}
  (hf:∀v u s2 x y H2,Inv X pins σ H2 s2->RelV x v->RelV y u->R x y H2->wpAny (model X.prog X.w) X.A (f v u) Q X.xe s2):
  wpAny (model X.prog X.w) X.A (eval a X.env) (λv s₁=>wpAny (model X.prog X.w) X.A (eval b X.env) (λu s₂=>wpAny (model X.prog X.w) X.A (f v u) Q X.xe s₂) X.xe s₁) X.xe s:=by
 refine thn (ha pins s σ H _ I h) λv s1⟨x,H1,I1,r1,q1⟩=>?_;refine thn (hb pins s1 σ H1 _ I1 q1) λu s2⟨y,H2,I2,r2,q2⟩=>?_;exact hf v u s2 x y H2 I2 r1 r2 q2
theorem ao(ho:OpR X (binaryOp op) r)(ha:PE X a ta)(hb:PE X b tb):PE X (.BinOp a op b pos) (tOp r ta tb):=by
 intro pins s σ H Q I h;exact wpAny_BinOp (binT ha hb I h λv u s2 x y H2 I2 rx ry q=>ho pins s2 σ H2 x y v u Q I2 rx ry q)
theorem iN(ho:UnR X (unaryOp op) r)(ha:PE X a ta):PE X (.UnaryOp op a pos) (tUn r ta):=by
 intro pins s σ H Q I h;exact UnaryOp_ (thn (ha pins s σ H _ I h) (by rintro v s1⟨x,H1,I1,r1,q1⟩;exact ho pins s1 σ H1 x v Q I1 r1 q1))
theorem opI{g:Int->Int->Int}
  (rule:∀(i j:Int)(t u:Tok)(s:Shared)(Q:Value->Shared->Prop)(E:Value->Shared->Prop),C i j->Q (.int (g i j) s.toks) {s with toks:=s.toks+1}->wpAny (model X.prog X.w) X.A (f (.int i t) (.int j u)) Q E s):
  OpR X f (rI C λi j=>.int (g i j)):=by
 intro pins s σ H x y v u Q I rx ry h;obtain⟨i,j,rfl,rfl,hc,q⟩:=h;obtain⟨t,rfl⟩:=rx;obtain⟨t',rfl⟩:=ry;exact rule i j t t' s _ _ hc ⟨.int (g i j),H,I.tok _,⟨_,rfl⟩,q⟩
theorem opI0{g:Int->Int->Int}
  (rule:∀(i j:Int)(t u:Tok)(s:Shared)(Q:Value->Shared->Prop)(E:Value->Shared->Prop),Q (.int (g i j) s.toks) {s with toks:=s.toks+1}->wpAny (model X.prog X.w) X.A (f (.int i t) (.int j u)) Q E s):
  OpR X f (rI0 λi j=>.int (g i j)):=by
 intro pins s σ H x y v u Q I rx ry h;obtain⟨i,j,rfl,rfl,q⟩:=h;obtain⟨t,rfl⟩:=rx;obtain⟨t',rfl⟩:=ry;exact rule i j t t' s _ _ ⟨.int (g i j),H,I.tok _,⟨_,rfl⟩,q⟩
theorem opB0{g:Int->Int->Bool}
  (rule:∀(i j:Int)(t u:Tok)(s:Shared)(Q:Value->Shared->Prop)(E:Value->Shared->Prop),Q (.bool (g i j)) s->wpAny (model X.prog X.w) X.A (f (.int i t) (.int j u)) Q E s):
  OpR X f (rI0 λi j=>.bl (g i j)):=by
 intro pins s σ H x y v u Q I rx ry h;obtain⟨i,j,rfl,rfl,q⟩:=h;obtain⟨t,rfl⟩:=rx;obtain⟨t',rfl⟩:=ry;exact rule i j t t' s _ _ ⟨.bl (g i j),H,I,rfl,q⟩
noncomputable def CDiv(i j:Int):Prop:=0<j/\j<1073741824
noncomputable def CPow(i j:Int):Prop:=0<=j/\j<=1000000/\i.natAbs<2^64
noncomputable def CMul(i j:Int):Prop:=(-(2^64)<i/\i<2^64)∨(-(2^64)<j/\j<2^64)
theorem CMul.ok(h:CMul i j):IntMulOk i j:=by
 rcases h with⟨h1,h2⟩|⟨h1,h2⟩
 ·exact .of_left (intBits_le_64 h1 h2)
 ·exact .of_right (intBits_le_64 h1 h2)
theorem aO:OpR X (binaryOp .Add) (rI0 λi j=>.int (i+j)):=opI0 λ_ _ _ _ _ _ _ q=>add_int q
theorem cv:OpR X (binaryOp .Sub) (rI0 λi j=>.int (i-j)):=opI0 λ_ _ _ _ _ _ _ q=>sub_int q
theorem op_mul:OpR X (binaryOp .Mult) (rI CMul λi j=>.int (i*j)):=opI λ_ _ _ _ _ _ _ hc q=>mul_int q hc.ok
theorem br:OpR X (binaryOp .FloorDiv) (rI CDiv λi j=>.int (i/j)):=opI λi j _ _ _ _ _ hc q=>by
 have h1:(0:Int)<j:=hc.1;have h2:j<1073741824:=hc.2;exact floordiv_int (by omega) (by rw[Int.fdiv_eq_ediv_of_nonneg i (by omega)];exact q) (.inl (PyProof.noPylong_small (by omega)))
theorem aL:OpR X (binaryOp .Mod) (rI (λ_ j=>0<j) λi j=>.int (i%j)):=opI λi j _ _ _ _ _ hc q=>by
 have h1:(0:Int)<j:=hc;exact mod_int' (by lia) (by rw[Int.fmod_eq_emod_of_nonneg i (by lia)];exact q)
theorem unI{g:Int->Int}
  (rule:∀(i:Int)(t:Tok)(s:Shared)(Q:Value->Shared->Prop)(E:Value->Shared->Prop),Q (.int (g i) s.toks) {s with toks:=s.toks+1}->wpAny (model X.prog X.w) X.A (f (.int i t)) Q E s):
  UnR X f (rU λi=>.int (g i)):=by
 intro pins s σ H x v Q I rx h;obtain⟨i,rfl,q⟩:=h;obtain⟨t,rfl⟩:=rx;exact rule i t s _ _ ⟨.int (g i),H,I.tok _,⟨_,rfl⟩,q⟩
theorem fR:UnR X (unaryOp .USub) (rU λi=>.int (-i)):=unI λ_ _ _ _ _ q=>neg_int q
end
noncomputable def scal:V->V->Bool
 |.non,.non=>true|.non,.int _=>true|.int _,.non=>true|.non,.bl _=>true|.bl _,.non=>true|.non,.str _=>true|.str _,.non=>true
 |.int _,.int _=>true|.bl _,.bl _=>true|.str _,.str _=>true|.byt _,.byt _=>true
 |.int _,.str _=>true|.str _,.int _=>true|.bl _,.str _=>true|.str _,.bl _=>true
 |_,_=>false
noncomputable def rEq:R2:=λx y H Q=>scal x y=true/\Q (.bl (decide (x=y))) H
noncomputable def rNe:R2:=λx y H Q=>scal x y=true/\Q (.bl (!decide (x=y))) H
theorem dec_int:decide (V.int i=V.int j)=(i==j):=by
 rw[Bool.eq_iff_iff];simp
theorem dec_bl:decide (V.bl i=V.bl j)=(i==j):=by
 rw[Bool.eq_iff_iff];simp
theorem dec_str:decide (V.str i=V.str j)=(i==j):=by
 rw[Bool.eq_iff_iff];simp
theorem dec_byt:decide (V.byt i=V.byt j)=(i.toList==j.toList):=by
 rw[Bool.eq_iff_iff]
 cases i
 cases j;simp
section
variable{X:Cx}{a b c:Expr}{ta tb tc:TE}{pos:Pos}
theorem bc(I:Inv X pins σ H s)(q:Q (.bl k) H)(e:k=k'):EP X pins σ Q (.bool k') s:=by
 subst e;exact⟨.bl k,H,I,rfl,q⟩
theorem cT:OpR X (compareOp .Eq) rEq:=by
 intro pins s σ H x y v u Q I rx ry h;obtain⟨hs,q⟩:=h
 cases x with
 |non=>
  cases rx
  cases y with
  |non=>cases ry;exact PySem.EqNone.eq_none_none (bc I q (by simp))
  |bl j=>cases ry;exact PySem.EqNone.eq_none_bool (bc I q (by simp))
  |int j=>obtain⟨t',rfl⟩:=ry;exact PySem.EqNone.eq_none_int (bc I q (by simp))
  |str j=>obtain⟨t',rfl⟩:=ry;exact PySem.EqNone.eq_none_str (bc I q (by simp))
  |_=>exact absurd (show false=true from hs) kc
 |bl i=>
  cases rx
  cases y with
  |non=>cases ry;exact PySem.EqNone.eq_bool_none (bc I q (by simp))
  |bl j=>cases ry;exact eq_bool (bc I q dec_bl)
  |str j=>obtain⟨t',rfl⟩:=ry;exact PySem.EqMixed.eq_bool_str (bc I q (by simp))
  |_=>exact absurd (show false=true from hs) kc
 |int i=>
  obtain⟨t,rfl⟩:=rx
  cases y with
  |non=>cases ry;exact PySem.EqNone.eq_int_none (bc I q (by simp))
  |int j=>obtain⟨t',rfl⟩:=ry;exact eq_int (bc I q dec_int)
  |str j=>obtain⟨t',rfl⟩:=ry;exact PySem.EqMixed.eq_int_str (bc I q (by simp))
  |_=>exact absurd (show false=true from hs) kc
 |str i=>
  obtain⟨t,rfl⟩:=rx
  cases y with
  |non=>cases ry;exact PySem.EqNone.eq_str_none (bc I q (by simp))
  |bl j=>cases ry;exact PySem.EqMixed.eq_str_bool (bc I q (by simp))
  |int j=>obtain⟨t',rfl⟩:=ry;exact PySem.EqMixed.eq_str_int (bc I q (by simp))
  |str j=>obtain⟨t',rfl⟩:=ry;exact eq_str (bc I q dec_str)
  |_=>exact absurd (show false=true from hs) kc
 |byt i=>
  obtain⟨t,rfl⟩:=rx
  cases y with
  |byt j=>obtain⟨t',rfl⟩:=ry;exact PySem.W.eq_bytes (bc I q dec_byt)
  |_=>exact absurd (show false=true from hs) kc
 |_=>cases y<;>exact absurd (show false=true from hs) kc
theorem fH:OpR X (compareOp .NotEq) rNe:=by
 intro pins s σ H x y v u Q I rx ry h;obtain⟨hs,q⟩:=h
 cases x with
 |non=>
  cases rx
  cases y with
  |non=>cases ry;exact PySem.EqNone.ne_none_none (bc I q (by simp))
  |bl j=>cases ry;exact PySem.EqNone.ne_none_bool (bc I q (by simp))
  |int j=>obtain⟨t',rfl⟩:=ry;exact PySem.EqNone.ne_none_int (bc I q (by simp))
  |str j=>obtain⟨t',rfl⟩:=ry;exact PySem.EqNone.ne_none_str (bc I q (by simp))
  |_=>exact absurd (show false=true from hs) kc
 |bl i=>
  cases rx
  cases y with
  |non=>cases ry;exact PySem.EqNone.ne_bool_none (bc I q (by simp))
  |bl j=>cases ry;exact ne_bool (bc I q (kA not dec_bl))
  |str j=>obtain⟨t',rfl⟩:=ry;exact PySem.EqMixed.ne_bool_str (bc I q (by simp))
  |_=>exact absurd (show false=true from hs) kc
 |int i=>
  obtain⟨t,rfl⟩:=rx
  cases y with
  |non=>cases ry;exact PySem.EqNone.ne_int_none (bc I q (by simp))
  |int j=>obtain⟨t',rfl⟩:=ry;exact ne_int (bc I q (kA not dec_int))
  |str j=>obtain⟨t',rfl⟩:=ry;exact PySem.EqMixed.ne_int_str (bc I q (by simp))
  |_=>exact absurd (show false=true from hs) kc
 |str i=>
  obtain⟨t,rfl⟩:=rx
  cases y with
  |non=>cases ry;exact PySem.EqNone.ne_str_none (bc I q (by simp))
  |bl j=>cases ry;exact PySem.EqMixed.ne_str_bool (bc I q (by simp))
  |int j=>obtain⟨t',rfl⟩:=ry;exact PySem.EqMixed.ne_str_int (bc I q (by simp))
  |str j=>obtain⟨t',rfl⟩:=ry;exact ne_str (bc I q (kA not dec_str))
  |_=>exact absurd (show false=true from hs) kc
 |byt i=>
  obtain⟨t,rfl⟩:=rx
  cases y with
  |byt j=>obtain⟨t',rfl⟩:=ry;exact PySem.W.ne_bytes (bc I q (kA not dec_byt))
  |_=>exact absurd (show false=true from hs) kc
 |_=>cases y<;>exact absurd (show false=true from hs) kc
theorem gQ:OpR X (compareOp .Lt) (rI0 λi j=>.bl (decide (i<j))):=opB0 λ_ _ _ _ _ _ _ q=>lt_int q
theorem op_le:OpR X (compareOp .LtE) (rI0 λi j=>.bl (decide (i<=j))):=opB0 λ_ _ _ _ _ _ _ q=>le_int q
theorem iO:OpR X (compareOp .Gt) (rI0 λi j=>.bl (decide (j<i))):=opB0 λ_ _ _ _ _ _ _ q=>gt_int q
theorem op_ge:OpR X (compareOp .GtE) (rI0 λi j=>.bl (decide (j<=i))):=opB0 λ_ _ _ _ _ _ _ q=>ge_int q
theorem op_isN:OpR X (compareOp .Is) (λx y H Q=>y=.non/\Q (.bl (decide (x=.non))) H):=by
 intro pins s σ H x y v u Q I rx ry h;obtain⟨rfl,q⟩:=h
 cases ry;refine is_none_gen (bc I q ?_)
 cases x<;>first
  |(cases rx;rfl)
  |(obtain⟨t,rfl⟩:=rx;rfl)
theorem op_notN:OpR X (compareOp .IsNot) (λx y H Q=>y=.non/\Q (.bl (!decide (x=.non))) H):=by
 intro pins s σ H x y v u Q I rx ry h;obtain⟨rfl,q⟩:=h
 cases ry;refine isnot_none_gen (bc I q ?_)
 cases x<;>first
  |(cases rx;rfl)
  |(obtain⟨t,rfl⟩:=rx;rfl)
theorem nomark(b:Expr)(h:op≠.In:=by decide)(h2:op≠.NotIn:=by decide):behindInMarks op b=false:=by
 have e1:(op==CmpOp.In)=false:=by cases op<;>first|rfl|exact absurd rfl h
 have e2:(op==CmpOp.NotIn)=false:=by cases op<;>first|rfl|exact absurd rfl h2
 cases b<;>simp[behindInMarks,e1,e2]
theorem eQ(ho:OpR X (compareOp op) r)(ha:PE X a ta)(hb:PE X b tb)(hm:behindInMarks op b=false:=by exact nomark _):PE X (.Compare a [op] [b] pos) (tOp r ta tb):=by
 intro pins s σ H Q I h;exact wpAny_Compare1 (binT ha hb I h λv u s2 x y H2 I2 rx ry q=>ho pins s2 σ H2 x y v u Q I2 rx ry q) hm
inductive ItTest(Q:Bool->Hp->Prop)(x:V)(H':Hp):Prop
 |mk(k:_)(h1:x=.bl k)(h2:Q k H'):ItTest Q x H'
noncomputable def tTest(t:TE):TT:=λσ H Q=>t σ H λx H'=>ItTest Q x H'
theorem pt_cmpR(ho:OpR X (compareOp op) r)(ha:PE X a ta)(hb:PE X b tb)(hm:behindInMarks op b=false):PT X (.Compare a [op] [b] pos) (tTest (tOp r ta tb)):=by
 intro pins s σ H Q I h
 refine wpAny_isTrue_Compare1 (thn (ha pins s σ H _ I h) λv s1⟨x,H1,I1,r1,q1⟩=>thn (hb pins s1 σ H1 _ I1 q1) λu s2⟨y,H2,I2,r2,q2⟩=>
  thn (ho pins s2 σ H2 x y v u _ I2 r1 r2 q2) λc s3⟨z,H3,I3,r3,k,e,q3⟩=>?_) hm
 subst e
 cases r3;exact wpAny_truthy_bool ⟨H3,I3,q3⟩
theorem au(ho:OpR X (compareOp op) r)(ha:PE X a ta)(hb:PE X b tb)(hm:behindInMarks op b=false:=by exact nomark _):PT X (.Compare a [op] [b] pos) (tTest (tOp r ta tb)):=by
 intro pins s σ H Q I h
 refine wpAny_isTrue_Compare1 (thn (ha pins s σ H _ I h) λv s1⟨x,H1,I1,r1,q1⟩=>thn (hb pins s1 σ H1 _ I1 q1) λu s2⟨y,H2,I2,r2,q2⟩=>
  thn (ho pins s2 σ H2 x y v u _ I2 r1 r2 q2) λc s3⟨z,H3,I3,r3,k,e,q3⟩=>?_) hm
 subst e
 cases r3;exact wpAny_truthy_bool ⟨H3,I3,q3⟩
theorem line63:(sizeLine:Nat)<2^63:=by rw[sizeLine_eq];decide
theorem op_add_str:OpR X (binaryOp .Add) (λx y H Q=>∃i j,x=.str i/\y=.str j/\i.length+j.length<=sizeLine/\Q (.str (i++j)) H):=by
 intro pins s σ H x y v u Q I rx ry h;obtain⟨i,j,rfl,rfl,hz,q⟩:=h;obtain⟨t,rfl⟩:=rx;obtain⟨t',rfl⟩:=ry;exact add_str (λt' tk=>⟨.str (i++j),H,I.tok _,⟨_,rfl⟩,q⟩) hz
theorem gH(r:Vals [x] us):∃u,us=[u]/\RelV x u:=by
 cases r with
 |cons r1 r2=>cases r2;exact⟨_,rfl,r1⟩
theorem call_abs:dH X (.builtin "abs") (λxs H Q=>∃i,xs=[.int i]/\Q (.int (if i<0 then-i else i)) H):=by
 intro pins s σ H xs us Q I r h;obtain⟨i,rfl,q⟩:=h;obtain⟨u,rfl,t,rfl⟩:=gH r;exact call_abs_int λu tk=>⟨.int (if i<0 then-i else i),H,I.tok _,⟨_,rfl⟩,q⟩
theorem call_int1:dH X (.type "int") (λxs H Q=>(∃i,xs=[.int i]/\Q (.int i) H)∨∃k,xs=[.bl k]/\Q (.int (if k then 1 else 0)) H):=by
 intro pins s σ H xs us Q I r h;rcases h with⟨i,rfl,q⟩|⟨k,rfl,q⟩
 ·obtain⟨u,rfl,t,rfl⟩:=gH r;exact call_int_int ⟨.int i,H,I,⟨_,rfl⟩,q⟩
 ·obtain⟨u,rfl,r1⟩:=gH r
  cases r1;exact call_int_bool ⟨.int (if k then 1 else 0),H,I.tok _,⟨_,rfl⟩,q⟩
end
structure ObjM(h:Heap)(x dx C:Addr)(mA:Str->Option Value):Prop where
 obj:h.get? x=some (PySem.W.instObj C dx)
 ns:h.Ns1 dx mA
 ne:dx≠x
theorem lookIn_ns{h:Heap}(n:h.Ns1 dx mA):∃od,h.get? dx=some od/\∀name,PySem.W.lookIn name od=some (mA name):=by
 obtain⟨o,es,ep,ho,hd,hk,_,hm⟩:=n;refine⟨o,ho,λname=>?_⟩;have e:=hm name;unfold nsFind findBy at e;rw[<-Array.find?_toList]at e;unfold PySem.W.lookIn;rw[hd];dsimp only
 split
 ·rename_i y q;rw[q]at e;exact kA some e
 ·rename_i q;rw[q]at e
  have a:es.toList.any (·.refKey)=false:=by
   rw[List.any_eq_false];intro y hy;obtain⟨z,t,hkey⟩:=hk y (Array.mem_toList_iff.mp hy);simp[DictEntry.refKey,hkey]
  have a':¬es.toList.any (·.refKey)=true:=by rw[a];exact kc
  rw[if_neg a'];exact kA some e
theorem ObjM.look(I:ObjM h x dx C mA):∃od,PySem.W.InstAt h x (PySem.W.instObj C dx) C (some od)/\∀name,PySem.W.lookIn name od=some (mA name):=
 let⟨od,ho,hl⟩:=lookIn_ns I.ns
 ⟨od,⟨I.obj,rfl,rfl,ho⟩,hl⟩
section
variable{prog:Program}{w:World}{A:Around}{E:Value->Shared->Prop}{s:Shared}{K:W.Frag}{x dx C f:Addr}{mA:Str->Option Value}{name:Str}{v:Value}
theorem get_map(X:K.In s.heap)(I:ObjM s.heap x dx C mA)(hg:PySem.W.plainGet K C name=true)(hh:PySem.W.hasDictIn K C=true)
  (ha:PySem.W.findIn K (.ref C) name=some none)(hv:mA name=some v)(hv':PySem.W.handedIn v=true)(h:Q v {s with toks:=s.toks+1}):
  wpAny (model prog w) A (getAttr (.ref x) name expr) Q E s:=by
 obtain⟨od,J,hl⟩:=I.look;exact PySem.W.get_value X J (PySem.W.plainGet_of hg).1 (PySem.W.findObj_own hh ha rfl (by rw[hl,hv])) hv' h
theorem get_meth(X:K.In s.heap)(I:ObjM s.heap x dx C mA)(hg:PySem.W.plainGet K C name=true)
  (hf:PySem.W.findIn K (.ref C) name=some (some (.ref f)))(ht:PySem.W.isFn K (.ref f)=true)(hv:mA name=none)(h:Q (.ref f,[.ref x]) s):
  wpAny (model prog w) A (getMethod (.ref x) name pl) Q E s:=by
 obtain⟨od,J,hl⟩:=I.look;exact PySem.W.method_fn X J (PySem.W.plainGet_of hg).1 (PySem.W.plainGet_of hg).2 hf (beq_iff_eq.mp ht) (by show(PySem.W.lookIn name od).map (·.isSome)=some false;rw[hl,hv];rfl) h
theorem set_map(X:K.In s.heap)(I:ObjM s.heap x dx C mA)
  (hs:PySem.W.findIn K (.ref C) "__setattr__"=some (some (.builtin "object.__setattr__")))(hp:PySem.W.plainOver K C=true)(ht:PySem.W.takerIn K C name=some none)(hh:PySem.W.hasDictIn K C=true)
  (hw:PySem.Within mA ns)(hsz:ns.length<=sizeLine)
  (h:∀h',ObjM h' x dx C (λy=>if y=name then some v else mA y)->Heap.SameBut dx s.heap h'->Q () {s with heap:=h',toks:=s.toks+2}):
  wpAny (model prog w) A (setAttr (.ref x) name v) Q E s:=by
 obtain⟨od,J,hl⟩:=I.look;refine PySem.W.set_plain X J hs (PySem.W.osa_open (s:={s with toks:=s.toks+1}) (r:=none) X J hp ht λb=>?_);obtain⟨cd,hc,hd'⟩:=PySem.W.any_some hh;have hx:s.heap.get? x=some ⟨.ref C,some dx,.plain,#[]⟩:=I.obj;refine kJ (lg (kJ (kJ (wpAny_loadPart hx (kJ (PySem.W.Looks.here (s:={s with toks:=s.toks+1}) (PySem.W.looks_clsIn X hc) ?_))))));rw[hd'];refine lg (a:=some dx) (kJ (lg (kJ ?_)));refine wpAny_nsSet1 (s:={s with toks:=s.toks+1}) I.ns λh' hn2 hs2=>?_;obtain⟨oD,esD,epD,hoD,hdD,hcD⟩:=hn2.count (PySem.Within.cons name v hw);refine kJ (wpAny_lookBehind hoD (by rw[hdD];exact pastItsLine_dict (jV hcD (by rw[kz];lia))) ?_);exact lg (h _ ⟨(hs2.2 _ (Ne.symm I.ne)).trans I.obj,hn2,I.ne⟩ hs2)
theorem make_map(X:K.In s.heap)(hm:PySem.W.makesIn K C=true)
  (hi:PySem.W.findIn K (.ref C) "__init__"=some (some (.ref f)))(hf:PySem.W.typeIn K (.ref f)=some (.type "function"))
  (h:codeAny (model prog w) (A.under (.builtin "type.__call__" ⟨.ref C::vs,kw⟩)) (.call (.ref f) ⟨.ref (s.heap.objs.size+1)::vs,kw⟩) (PySem.W.InitBack (s.heap.objs.size+1) R)
   {s with heap:=(s.heap.push PySem.W.emptyDict).push (PySem.W.instObj C s.heap.objs.size)}):
  codeAny (model prog w) A (.call (.ref C) ⟨vs,kw⟩) R s:=by
 obtain⟨hh,g,d,t,os⟩:=s;exact PySem.W.make_core (PySem.W.makes_of X hm) (PySem.W.looks_findIn X hi) (λself=>PySem.W.bind_fn X self hf) (.inl rfl) h
end
noncomputable def bh(f:Str)(v:V):List (Str×V)->List (Str×V)
 |[]=>[(f,v)]
 |(g,x)::r=>if g=f then(g,v)::r else(g,x)::bh f v r
theorem cM(f g:Str)(v:V):∀fs:List (Str×V),(bh f v fs).lookup g=if g=f then some v else fs.lookup g
 |[]=>by
  show List.lookup g [(f,v)]=_;by_cases h:g=f
  ·have hb:(g==f)=true:=beq_iff_eq.mpr h;simp only[List.lookup,hb,if_pos h]
  ·have hb:(g==f)=false:=lR.mpr h;simp only[List.lookup,hb,if_neg h]
 |(k,x)::r=>by
  have ih:=cM f g v r;rw[show bh f v ((k,x)::r)=(if k=f then(k,v)::r else(k,x)::bh f v r)from rfl];by_cases hk:k=f
  ·rw[if_pos hk];by_cases h:g=k
   ·have hb:(g==k)=true:=beq_iff_eq.mpr h;simp only[List.lookup,hb,if_pos (h.trans hk)]
   ·have hb:(g==k)=false:=lR.mpr h;simp only[List.lookup,hb,if_neg (λe:g=f=>h (e.trans hk.symm))]
  ·rw[if_neg hk];by_cases h:g=k
   ·have hb:(g==k)=true:=beq_iff_eq.mpr h;simp only[List.lookup,hb,if_neg (λe:g=f=>hk (h.symm.trans e))]
   ·have hb:(g==k)=false:=lR.mpr h;simp only[List.lookup,hb];exact ih
theorem keys_putF(f:Str)(v:V):∀fs:List (Str×V),f∈(bh f v fs).map (·.1)/\∀g,g∈fs.map (·.1)->g∈(bh f v fs).map (·.1)
 |[]=>⟨by simp[bh],λg h=>by simp at h⟩
 |(k,x)::r=>by
  obtain⟨i1,i2⟩:=keys_putF f v r;rw[show bh f v ((k,x)::r)=(if k=f then(k,v)::r else(k,x)::bh f v r)from rfl];by_cases hk:k=f
  ·rw[if_pos hk];subst hk;exact⟨by simp,λg h=>by simpa using h⟩
  ·rw[if_neg hk];refine⟨?_,λg h=>?_⟩
   ·rw[lv];exact jW _ i1
   ·rw[lv]at h⊢;rcases j3.mp h with e|e
    ·exact j3.mpr (.inl e)
    ·exact jW _ (i2 g e)
theorem bR(f:Str)(v:V):∀fs:List (Str×V),(bh f v fs).length<=fs.length+1
 |[]=>by simp[bh]
 |(k,x)::r=>by
  have ih:=bR f v r;rw[show bh f v ((k,x)::r)=(if k=f then(k,v)::r else(k,x)::bh f v r)from rfl];by_cases hk:k=f
  ·rw[if_pos hk,kz,kz];omega
  ·rw[if_neg hk,kz,kz];omega
theorem RelO.some_of(r:RelO (some v) o):∃u,o=some u/\RelV v u:=by
 cases o with
 |none=>exact(show False from r).elim
 |some u=>exact⟨u,rfl,r⟩
theorem RelO.none_of(r:RelO none o):o=none:=by
 cases o with
 |none=>rfl
 |some u=>exact(show False from r).elim
theorem handed_of(r:RelV v u):PySem.W.handedIn u=true:=by
 cases v with
 |non=>cases(show u=Value.none from r);rfl
 |bl b=>cases(show u=Value.bool b from r);rfl
 |int i=>obtain⟨t,e⟩:=(show∃t,u=Value.int i t from r);cases e;rfl
 |str x=>obtain⟨t,e⟩:=(show∃t,u=Value.str x t from r);cases e;rfl
 |byt b=>obtain⟨t,e⟩:=(show∃t,u=Value.bytes b t from r);cases e;rfl
 |flt b=>obtain⟨t,e⟩:=(show∃t,u=Value.float b t from r);cases e;rfl
 |ref a=>cases(show u=Value.ref a from r);rfl
 |ty n=>cases(show u=Value.type n from r);rfl
section
variable{P:Program}{w:World}{H H':Hp}{h h':Heap}{a C dx:Addr}{fs fs':List (Str×V)}
theorem ins_get(hok:HOk P w H h)(e:H a=some (.ins C dx fs)):∃mA,ObjM h a dx C mA/\(∀f,RelO (fs.lookup f) (mA f))/\PySem.Within mA (fs.map (·.1))/\fs.length<=1000/\H dx=some (.own a):=by
 obtain⟨d,z,ne,ob,mA,n,r,q⟩:=(show ObjOk P w H h a (.ins C dx fs)from hok a _ e);exact⟨mA,⟨ob,n,ne⟩,r,q,z,d⟩
end
structure Cls(K:W.Frag)(C:Addr):Prop where
 pg:PySem.W.plainGet K C Str.empty=true
 hd:PySem.W.hasDictIn K C=true
 po:PySem.W.plainOver K C=true
 sa:PySem.W.findIn K (.ref C) "__setattr__"=some (some (.builtin "object.__setattr__"))
theorem Cls.get{K:W.Frag}(c:Cls K C)(f:Str):PySem.W.plainGet K C f=true:=c.pg
noncomputable def NoAttr(K:W.Frag)(C:Addr)(f:Str):Prop:=PySem.W.findIn K (.ref C) f=some none
theorem NoAttr.taker{K:W.Frag}(n:NoAttr K C f):PySem.W.takerIn K C f=some none:=by
 unfold PySem.W.takerIn;rw[show PySem.W.findIn K (.ref C) f=some none from n];rfl
structure Con(K:W.Frag)(C:Addr)(f:Str)(v:V)(u:Value):Prop where
 at_:PySem.W.findIn K (.ref C) f=some (some u)
 rel:RelV v u
 get:PySem.W.specialIn K u "__get__"=some none
 cp:PySem.W.copiedNames.contains f=false
structure Meth(K:W.Frag)(C:Addr)(m:Str)(f:Addr):Prop where
 at_:PySem.W.findIn K (.ref C) m=some (some (.ref f))
 fn:PySem.W.isFn K (.ref f)=true
 kp:PySem.W.keepIn K (.ref f)=true
section
variable{X:Cx}{pins:List (Addr×Obj)}{σ:St}{H:Hp}{s:Shared}{a C dx:Addr}{fs:List (Str×V)}{f:Str}{v:V}{A:Around}{E:Value->Shared->Prop}
theorem i5(I:Inv X pins σ H s)(e:H a=some (.ins C dx fs))(c:Cls X.K C)(n:NoAttr X.K C f)(l:fs.lookup f=some v)
  (h:∀u s',Inv X pins σ H s'->RelV v u->Q u s'):wpAny (model X.prog X.w) A (getAttr (.ref a) f b) Q E s:=by
 obtain⟨mA,O,r,_,_,_⟩:=ins_get I.hok e;obtain⟨u,hu,ru⟩:=RelO.some_of (v:=v) (o:=mA f) (by rw[<-l];exact r f);exact get_map I.kIn O (c.get f) c.hd n hu (handed_of ru) (h u _ (I.tok _) ru)
theorem gD(I:Inv X pins σ H s)(e:H a=some (.ins C dx fs))(c:Cls X.K C)(k:Meth X.K C m g)(l:fs.lookup m=none)
  (h:Q (.ref g,[.ref a]) s):wpAny (model X.prog X.w) A (getMethod (.ref a) m pl) Q E s:=by
 obtain⟨mA,O,r,_,_,_⟩:=ins_get I.hok e;have hn:mA m=none:=RelO.none_of (by rw[<-l];exact r m);exact get_meth I.kIn O (c.get m) k.at_ k.fn hn h
theorem setattr_ok(I:Inv X pins σ H s)(e:H a=some (.ins C dx fs))(c:Cls X.K C)(n:NoAttr X.K C f)(hl:fs.length<1000)(ry:RelV y u)
  (h:∀s',Inv X pins σ (upd H a (.ins C dx (bh f y fs))) s'->Q () s'):wpAny (model X.prog X.w) A (setAttr (.ref a) f u) Q E s:=by
 obtain⟨mA,O,r,wi,_,ho⟩:=ins_get I.hok e;have hz:(fs.map (·.1)).length<=sizeLine:=by rw[jF,sizeLine_eq];lia
 refine set_map I.kIn O c.sa c.po n.taker c.hd wi hz λh' O' sb=>h _ ?_;have hd:∃o,h'.get? dx=some o:=let⟨o,_,_,e',_⟩:=O'.ns;⟨o,e'⟩
 refine I.write (x:=a) (e:=dx) (by rw[e];exact True.intro) (.inr ho) (λb q hb z=>(sb.2 b hb).trans z) hd ?_;refine⟨by rw[ai O.ne];exact ho,?_,O.ne,O'.obj,_,O'.ns,λg=>?_,λg hg=>?_⟩
 ·have:=bR f y fs;lia
 ·show RelO ((bh f y fs).lookup g) (if g=f then some u else mA g);rw[cM];by_cases q:g=f
  ·rw[if_pos q,if_pos q];exact ry
  ·rw[if_neg q,if_neg q];exact r g
 ·by_cases q:g=f
  ·rw[q];exact(keys_putF f y fs).1
  ·refine(keys_putF f y fs).2 g (wi g λz=>hg ?_);show(if g=f then some u else mA g)=none;rw[if_neg q];exact z
theorem Inv.made(I:Inv X pins σ H s):Inv X pins σ (upd (upd H s.heap.objs.size (.own (s.heap.objs.size+1))) (s.heap.objs.size+1) (.ins C s.heap.objs.size []))
  {s with heap:=(s.heap.push PySem.W.emptyDict).push (PySem.W.instObj C s.heap.objs.size)}:=by
 have e1:(s.heap.push PySem.W.emptyDict).get? s.heap.objs.size=some PySem.W.emptyDict:=kq s.heap rfl
 have e2:((s.heap.push PySem.W.emptyDict).push (PySem.W.instObj C s.heap.objs.size)).get? (s.heap.objs.size+1)=some (PySem.W.instObj C s.heap.objs.size):=by
  have:=kq (s.heap.push PySem.W.emptyDict) (o:=PySem.W.instObj C s.heap.objs.size) rfl
  rwa[Heap.size_push]at this
 have e3:(s.heap.push PySem.W.emptyDict).Ns s.heap.objs.size (λ_=>none):=⟨PySem.W.emptyDict,#[],_,e1,rfl,(λe he=>absurd he (by simp)),λ_=>rfl⟩;have I1:=I.laid (a:=s.heap.objs.size) (o:=.own (s.heap.objs.size+1)) (h':=s.heap.push PySem.W.emptyDict) (t':=s.toks) (λb u q=>jZ _ q) (jJ _) ⟨_,e1⟩;refine I1.laid (a:=s.heap.objs.size+1) (o:=.ins C s.heap.objs.size []) (t':=s.toks) (λb u q=>jZ _ q) (Nat.le_of_eq (Heap.size_push _ _)) ?_;have ne:s.heap.objs.size≠s.heap.objs.size+1:=kQ (Nat.lt_succ_self _);refine⟨by rw[ai ne,ag],jU _,ne,e2,λ_=>none,(Heap.Ns1.of_empty e3).at λo q=>jZ _ q,λ_=>True.intro,λy hy=>absurd rfl hy⟩
theorem attr_of(hb:attributeBase e f env (eval e env)=eval e env)
  (h:wpAny (model prog w) A (eval e env) (λo s₁=>wpAny (model prog w) A (getAttr o f true) Q E s₁) E s):wpAny (model prog w) A (eval (.Attribute e f pos) env) Q E s:=
 Attribute_any_ h (by rw[arm_eval_Attribute,hb])
end
inductive ItFld(K:W.Frag)(f:Str)(Q:VK)(x:V)(H1:Hp):Prop
 |mk(a:_)(C:_)(dx:_)(fs:_)(v:_)(h1:x=.ref a)(h2:H1 a=some (.ins C dx fs))(h3:Cls K C)(h4:NoAttr K C f)(h5:fs.lookup f=some v)(h6:Q v H1):ItFld K f Q x H1
noncomputable def tFld(K:W.Frag)(ta:TE)(f:Str):TE:=λσ H Q=>ta σ H λx H1=>ItFld K f Q x H1
noncomputable def sFld(K:W.Frag)(ta tv:TE)(f:Str):TS:=λD σ H=>tv σ H λy H1=>ta σ H1 λx H2=>∃a C dx fs,x=.ref a/\H2 a=some (.ins C dx fs)/\Cls K C/\NoAttr K C f/\fs.length<1000/\
 D.nx σ (upd H2 a (.ins C dx (bh f y fs)))
section
variable{X:Cx}{o e value:Expr}{f:Str}{pos pos' tpos:Pos}{ta tv:TE}
theorem aH(he:PE X e ta)(hb:attributeBase e f X.env (eval e X.env)=eval e X.env):PE X (.Attribute e f pos) (tFld X.K ta f):=by
 intro pins s σ H Q I h;refine attr_of hb (thn (he pins s σ H _ I h) λu s1⟨x,H1,I1,rx,a,C,dx,fs,v,ex,ea,c,n,l,q⟩=>?_);subst ex;obtain rfl:u=Value.ref a:=rx;exact i5 I1 ea c n l λu' s2 I2 ru=>⟨v,H1,I2,ru,q⟩
theorem bG(ha:PE X o ta)(hv:PE X value tv)(hs:swapsWith value (some (.Attribute o f pos')) pos.line X.env=pure false):PS X (.Assign [.Attribute o f pos'] value pos) (sFld X.K ta tv f):=by
 intro pins s σ H D I h;refine plainObj_wpAny_Assign_Attribute (thn (hv pins s σ H _ I h) λu s1⟨y,H1,I1,ry,q⟩=>thn (ha pins s1 σ H1 _ I1 q) λov s2⟨x,H2,I2,rx,a,C,dx,fs,ex,ea,c,n,l,q2⟩=>?_) hs;subst ex;obtain rfl:ov=Value.ref a:=rx;exact setattr_ok I2 ea c n l ry λs3 I3=>⟨σ,_,I3,q2⟩
end
section
variable{X:Cx}{pins:List (Addr×Obj)}{σ:St}{H:Hp}{s:Shared}{A:Around}{E:Value->Shared->Prop}{Q:Value->Shared->Prop}{c:Value}{b:Bool}
inductive TyOf(K:W.Frag)(H:Hp):V->Value->Prop where
 |non:TyOf K H .non (.type "NoneType")
 |bl(x:Bool):TyOf K H (.bl x) (.type "bool")
 |int(i:Int):TyOf K H (.int i) (.type "int")
 |str(x:Str):TyOf K H (.str x) (.type "str")
 |flt(x:UInt64):TyOf K H (.flt x) (.type "float")
 |lst{a:Addr}{xs:List V}(e:H a=some (.lst xs)):TyOf K H (.ref a) (.type "list")
 |frz{a:Addr}{o:Obj}{xs:List V}(e:H a=some (.frz o (.lst xs))):TyOf K H (.ref a) (.type "list")
 |tup{a:Addr}{xs:List V}(e:H a=some (.tup xs)):TyOf K H (.ref a) (.type "tuple")
 |dK{a:Addr}{kvs:List (Key×V)}(e:H a=some (.dK kvs)):TyOf K H (.ref a) (.type "dict")
 |dT{a:Addr}{kvs:List (List Key×V)}(e:H a=some (.dT kvs)):TyOf K H (.ref a) (.type "dict")
 |ins{a C dx:Addr}{fs:List (Str×V)}(e:H a=some (.ins C dx fs))(cl:Cls K C)(ha:PySem.W.findIn K (.ref C) "__class__"=some (some (.builtin "object.__class__")))
   (hn:PySem.W.specialIn K (.builtin "object.__class__") "__get__"=some (some (.builtin "getset_descriptor.__get__")))(htk:PySem.W.takesIn K (.builtin "object.__class__")=some true)
   (hm:PySem.W.mroIn K C (.type "object")=some true):TyOf K H (.ref a) (.ref C)
theorem isinst_ok(I:Inv X pins σ H s)(rx:RelV x u)(ty:TyOf X.K H x t)(e:PySem.W.kitOne X.K t c=some b)(h:∀tk,Q (.bool b) {s with toks:=tk}):
  wpAny (model X.prog X.w) A (call (.builtin "isinstance") [u,c]) Q E s:=by
 cases ty with
 |non=>cases(show u=Value.none from rx);exact lQ PySem.W.kitx_none I.kIn True.intro e (λz=>nomatch z) h
 |bl y=>cases(show u=Value.bool y from rx);exact lQ PySem.W.kitx_bool I.kIn True.intro e (λz=>nomatch z) h
 |int i=>obtain⟨t,q⟩:=(show∃t,u=Value.int i t from rx);cases q;exact lQ PySem.W.kitx_int I.kIn True.intro e (λz=>nomatch z) h
 |str y=>obtain⟨t,q⟩:=(show∃t,u=Value.str y t from rx);cases q;exact lQ PySem.W.kitx_str I.kIn True.intro e (λz=>nomatch z) h
 |flt y=>obtain⟨t,q⟩:=(show∃t,u=Value.float y t from rx);cases q;exact lQ PySem.W.kitx_float I.kIn True.intro e (λz=>nomatch z) h
 |@lst a xs ea=>
  cases(show u=Value.ref a from rx);obtain⟨_,_,n,_,h1⟩:=(show ObjOk X.prog X.w H s.heap a (.lst xs) from I.hok a _ ea);exact lQ PySem.W.kitx_list I.kIn ⟨_,h1,rfl⟩ e (λz=>nomatch z) h
 |@frz a ob xs ea=>
  cases(show u=Value.ref a from rx);obtain⟨_,_,_,n,_,h1⟩:=(show ObjOk X.prog X.w H s.heap a (.frz ob (.lst xs)) from I.hok a _ ea);exact lQ PySem.W.kitx_list I.kIn ⟨_,h1,rfl⟩ e (λz=>nomatch z) h
 |@tup a xs ea=>
  cases(show u=Value.ref a from rx);obtain⟨_,_,_,p⟩:=(show ObjOk X.prog X.w H s.heap a (.tup xs) from I.hok a _ ea);obtain⟨o,h1,h2,_⟩:=p;exact lQ PySem.W.kitx_tuple I.kIn ⟨o,h1,h2⟩ e (λz=>nomatch z) h
 |@dK a kvs ea=>
  cases(show u=Value.ref a from rx);obtain⟨_,_,vs,_,p⟩:=(show ObjOk X.prog X.w H s.heap a (.dK kvs) from I.hok a _ ea);obtain⟨o,es,ep,h1,h2,_⟩:=p;exact lQ PySem.W.kitx_dict I.kIn ⟨o,h1,h2.1⟩ e (λz=>nomatch z) h
 |@dT a kvs ea=>
  cases(show u=Value.ref a from rx);obtain⟨_,_,xs,_,o,es,ep,h1,h2,_⟩:=(show ObjOk X.prog X.w H s.heap a (.dT kvs) from I.hok a _ ea);exact lQ PySem.W.kitx_dict I.kIn ⟨o,h1,h2.1⟩ e (λz=>nomatch z) h
 |@ins a C dx fs ea cl ha hn htk hm=>
  cases(show u=Value.ref a from rx);obtain⟨mA,O,_⟩:=ins_get I.hok ea;obtain⟨od,J,_⟩:=O.look;exact lQ (PySem.W.kitx_own (cl.get _) cl.hd ha hn htk hm) I.kIn J e (λz=>nomatch z) h
end
structure Room(k:Nat)(A:Around):Prop where
 hd:A.handled=none
 dp:A.depth+3*k+5<recursionLimit
 un:A.units+16*k+200<cLine
theorem Room.mono(r:Room k A)(h:j<=k):Room j A:=⟨r.hd,by have:=r.dp;lia,by have:=r.un;lia⟩
theorem Room.deeper(r:Room (k+1) A)(env:Env):Room k (A.deeper env):=
 ⟨r.hd,by have:=r.dp;show A.depth+1+3*k+5<_;lia,by have:=r.un;show A.units+3+16*k+200<_;lia⟩
theorem make_depth{A:Around}:(A.under (.builtin "type.__call__" ⟨.ref C::us,kw⟩)).depth=A.depth+1:=by
 first|rfl|simp[Around.under,Code.weight,Code.isCreation,Code.isGuard,Code.isCaller,Code.frames,Code.isFrame,guardIds]
theorem make_units{A:Around}:(A.under (.builtin "type.__call__" ⟨.ref C::us,kw⟩)).units=A.units+1:=by
 first|rfl|simp[Around.under,Code.cUnits,Code.frames,Code.isFrame]
theorem Room.make(r:Room (k+1) A)(C:Addr)(us:List Value)(kw:List (Str×Value)):Room k (A.under (.builtin "type.__call__" ⟨.ref C::us,kw⟩)):=
 ⟨r.hd,by have:=r.dp;rw[make_depth];lia,by have:=r.un;rw[make_units];lia⟩
theorem Room.depth(r:Room k A):A.depth<recursionLimit:=by have:=r.dp;lia
theorem Room.units(r:Room k A):A.units+64<cLine:=by have:=r.un;lia
theorem Room.units0(r:Room k A):A.units<cLine:=by have:=r.un;lia
noncomputable def tNil:TA:=λ_ H Q=>Q [] H
noncomputable def tCons(ta:TE)(tr:TA):TA:=λσ H Q=>ta σ H λx H1=>tr σ H1 λxs H2=>Q (x::xs) H2
section
variable{X:Cx}{e:Expr}{es:List Expr}{te:TE}{t:TA}{pos:Pos}
theorem ae:PA X [] tNil:=λ_ _ _ _ H Q I h=>Calls.spliced_nil ⟨[],H,I,.nil,h⟩
theorem aa(ha:PE X e te)(hr:PA X es t)(hs:starEach (e::es) X.env=(false,eval e X.env)::starEach es X.env:=by rfl):PA X (e::es) (tCons te t):=by
 intro pos pins s σ H Q I h;rw[hs];show wpAny _ _ (spliced ((false,eval e X.env)::backTo pos (starEach es X.env))) _ _ s;refine Calls.spliced_cons (thn (ha pins s σ H _ I h) λu s1⟨x,H1,I1,r1,q1⟩=>?_);exact thn (hr pos pins s1 σ H1 _ I1 q1) (by rintro us s2⟨xs,H2,I2,r2,q2⟩;exact⟨x::xs,H2,I2,.cons r1 r2,q2⟩)
noncomputable def tTup(t:TA):TE:=λσ H Q=>t σ H λxs H1=>xs.length<=sizeLine/\∀p,H1 p=none->Q (.ref p) (upd H1 p (.tup xs))
noncomputable def tLst(t:TA):TE:=λσ H Q=>t σ H λxs H1=>xs.length<=sizeLine/\∀p,H1 p=none->Q (.ref p) (upd H1 p (.lst xs))
theorem aU(h:PA X es t):PE X (.Tuple es x1 pos) (tTup t):=by
 intro pins s σ H Q I hq;refine wpAny_Tuple_spliced (thn (h pos pins s σ H _ I hq) λus s1⟨xs,H1,I1,r,z,q⟩=>⟨by rw[<-r.length];exact z,?_⟩);have hf:H1 s1.heap.objs.size=none:=I1.hok.fresh (jJ _);refine⟨.ref s1.heap.objs.size,upd H1 s1.heap.objs.size (.tup xs),I1.laid (t':=s1.toks) (λb u e=>jZ _ e) (jJ _) ?_,rfl,q _ hf⟩;exact⟨z,us,r,⟨_,kq _ rfl,rfl,_,rfl⟩⟩
theorem aR(h:PA X es t):PE X (.List es pos) (tLst t):=by
 intro pins s σ H Q I hq;refine wpAny_List_spliced (thn (h pos pins s σ H _ I hq) λus s1⟨xs,H1,I1,r,z,q⟩=>⟨by rw[<-r.length];exact z,?_⟩);have hf:H1 s1.heap.objs.size=none:=I1.hok.fresh (jJ _);refine⟨.ref s1.heap.objs.size,upd H1 s1.heap.objs.size (.lst xs),I1.laid (t':=s1.toks) (λb u e=>jZ _ e) (jJ _) ?_,rfl,q _ hf⟩;exact⟨z,us,0,r,kq _ rfl⟩
end
noncomputable abbrev Sp:=List V->Hp->VK->XK->Prop
noncomputable abbrev CXT:=List Env->Hp->Shared->XK->Value->Shared->Prop
structure Env0(P:Program)(w:World)(K:W.Frag)(mg:Str->Option Value)(base:Heap)(A:Around)(outer:List Env)(s:Shared)(H:Hp):Prop where
 frames:A.frames=some outer
 mod:Mod K mg base
 bs:∀b o,base.get? b=some o->s.heap.get? b=some o/\H b=none
 bsz:base.objs.size<=s.heap.objs.size
 funs:s.heap.FunFrames base outer
 frf:∀b∈frs outer,H b=none
 hok:HOk P w H s.heap
 bare:AllBare s.gens
noncomputable def CE(outer:List Env)(P:Program)(w:World)(H:Hp)(s:Shared)(Q:VK)(u:Value)(s':Shared):Prop:=
 ∃v H',s'.os=s.os/\AllBare s'.gens/\Un (frs outer) [] H H' s.heap s'.heap/\HOk P w H' s'.heap/\RelV v u/\Q v H'
noncomputable def CR(CX:CXT)(outer:List Env)(P:Program)(w:World)(H:Hp)(s:Shared)(Q:VK)(E:XK)(r:Result)(s':Shared):Prop:=
 match r with
 |.ok (.ret u)=>CE outer P w H s Q u s'
 |.ok _=>False
 |.error e=>CX outer H s E e s'
structure FnOk(P:Program)(w:World)(K:W.Frag)(mg:Str->Option Value)(base:Heap)(CX:CXT)(k:Nat)(f:Addr)(fd:FuncData)(ps:List Str)(sp:Sp):Prop where
 len:∀vs H Q E,sp vs H Q E->vs.length=ps.length
 run:∀(A:Around)(outer:List Env)(s:Shared)(H:Hp)(args:Args)(us:List Value)(vs:List V)(Q:VK)(E:XK),Room k A->Env0 P w K mg base A outer s H->BindsTo s fd args (ps.zip us)->Vals vs us->sp vs H Q E->
  codeAny (model P w) A (.call (.ref f) args) (CR CX outer P w H s Q E) s
theorem FnOk.imp{K:W.Frag}(F:FnOk P w K mg base CX k f fd ps sp)
  (h:∀vs H Q E,sp' vs H Q E->sp vs H Q E):FnOk P w K mg base CX k f fd ps sp':=
 ⟨λvs H Q E q=>F.len vs H Q E (h _ _ _ _ q),λA outer s H args us vs Q E hr he hb hv hs=>F.run A outer s H args us vs Q E hr he hb hv (h _ _ _ _ hs)⟩
theorem Env0.make{K:W.Frag}(e:Env0 P w K mg base A outer s H)(C:Addr)(us:List Value)(kw:List (Str×Value)):
  Env0 P w K mg base (A.under (.builtin "type.__call__" ⟨.ref C::us,kw⟩)) outer s H:=⟨by first|exact e.frames|(simpa[Around.under,Code.envs,Code.isFrame,pushEnvs]using e.frames),e.mod,e.bs,e.bsz,e.funs,e.frf,e.hok,e.bare⟩
section
variable{X:Cx}{pins:List (Addr×Obj)}{σ:St}{H:Hp}{s s':Shared}
theorem Inv.env0(I:Inv X pins σ H s):Env0 X.prog X.w X.K X.mg X.base X.A X.stack s H:=
 ⟨I.ok.frames,I.ok.mod,I.bs,jV I.ok.bsz I.sz,I.stack,I.stkFree,I.hok,I.bare⟩
theorem Inv.after(I:Inv X pins σ H s)(h:CE X.stack X.prog X.w H s Q u s'):EP X pins σ Q u s':=by
 obtain⟨v,H',os,bare,un,hok,r,q⟩:=h;obtain⟨hh,g,d,t,os'⟩:=s';obtain rfl:os'=s.os:=os;exact⟨v,H',I.call (h':=hh) (g':=g) (d':=d) (t':=t) (ch:=[]) un hok bare (λb z=>absurd z (by simp)),r,q⟩
end
noncomputable def tCall(sp:Sp)(dvs:List V)(E:XK)(t:TA):TE:=λσ H Q=>t σ H λvs H1=>sp (vs++dvs) H1 Q E
inductive ItMeth(C:Addr)(m:Str)(sp:Sp)(dvs:List V)(E:XK)(t:TA)(σ:St)(Q:VK)(x:V)(H1:Hp):Prop
 |mk(a:_)(dx:_)(fs:_)(h1:x=.ref a)(h2:H1 a=some (.ins C dx fs))(h3:fs.lookup m=none)(h4:t σ H1 λvs H2=>sp (x::(vs++dvs)) H2 Q E):ItMeth C m sp dvs E t σ Q x H1
noncomputable def tMake(C:Addr)(sp:Sp)(dvs:List V)(E:XK)(t:TA):TE:=λσ H Q=>t σ H λvs H1=>∀x dx,H1 x=none->H1 dx=none->dx≠x->
 sp (.ref x::(vs++dvs)) (upd (upd H1 dx (.own x)) x (.ins C dx [])) (λv H2=>v=.non/\Q (.ref x) H2) E
noncomputable def Binds(K:W.Frag)(fd:FuncData)(ps:List Str)(ds:List Value):Prop:=
 ∀(s:Shared)(us:List Value),K.In s.heap->(us++ds).length=ps.length->BindsTo s fd ⟨us,[]⟩ (ps.zip (us++ds))
theorem Binds.all{K:W.Frag}(h:∀us:List Value,us.length=ps.length->bindArgs fd ⟨us,[]⟩=pure (ps.zip us)):Binds K fd ps []:=λs us _ hl=>by
 rw[ly]at hl⊢;exact .of_eq (h us hl)
noncomputable def cY(CX:CXT)(X:Cx)(E:XK):Prop:=∀(pins:List (Addr×Obj))(σ:St)(H:Hp)(s:Shared)(e:Value)(s':Shared),Inv X pins σ H s->CX X.stack H s E e s'->X.xe e s'
section
variable{X:Cx}{CX:CXT}{k:Nat}{f C:Addr}{fd:FuncData}{ps:List Str}{sp:Sp}{dvs:List V}{ds:List Value}{E:XK}{x m:Str}{p pos apos:Pos}{e o:Expr}{es:List Expr}{ta:TE}{t:TA}
theorem run_fn(F:FnOk X.prog X.w X.K X.mg X.base CX k f fd ps sp)(hr:Room k X.A)(hb:Binds X.K fd ps ds)(hd:Vals dvs ds)(hx:cY CX X E)
  (I:Inv X pins σ H s)(r:Vals vs us)(h:sp (vs++dvs) H Q E):wpAny (model X.prog X.w) X.A (call (.ref f) us) (EP X pins σ Q) X.xe s:=by
 have r2:Vals (vs++dvs) (us++ds):=r.append hd;have hl:(us++ds).length=ps.length:=by rw[<-r2.length];exact F.len _ _ _ _ h
 refine wpAny_call (codeAny_mono (F.run X.A X.stack s H ⟨us,[]⟩ (us++ds) (vs++dvs) Q E hr I.env0 (hb s us I.kIn hl) r2 h) λr s' hq=>?_)
 cases r with
 |error e=>exact hx pins σ H s e s' I hq
 |ok fl=>
  cases fl with
  |ret u=>exact I.after hq
  |next=>exact False.elim hq
  |brk=>exact False.elim hq
  |cont=>exact False.elim hq
theorem pe_call(F:FnOk X.prog X.w X.K X.mg X.base CX k f fd ps sp)(hr:Room k X.A)(hg:Gl X x)(hm:X.mg x=some (.ref f))(hk:PySem.W.keepIn X.K (.ref f)=true)(hb:Binds X.K fd ps ds)(hd:Vals dvs ds)(hx:cY CX X E)
  (ha:PA X (e::es) t)(hdb:(x==("__debug__":Str))=false:=by decide)(he:starEach (e::es) X.env=(false,eval e X.env)::starEach es X.env:=by rfl)(hpl:(backTo pos (starEach es X.env)).any (·.1)=false:=by rfl):
  PE X (.Call (.Name x p) (e::es) [] pos) (tCall sp dvs E t):=by
 intro pins s σ H Q I h;refine wpAny_Call_Name_kw (jx I hg hm ?_ hdb);refine PySem.W.callWith_K (h₀:=X.base) I.ok.mod.kin hk (thn (ha pos pins s σ H _ I h) λus s1⟨vs,H1,I1,r,q⟩=>⟨I1.kIn,?_⟩) he hpl;exact run_fn F hr hb hd hx I1 r q
structure Mk(K:W.Frag)(C f:Addr):Prop where
 makes:PySem.W.makesIn K C=true
 init:PySem.W.findIn K (.ref C) "__init__"=some (some (.ref f))
 fn:PySem.W.isFn K (.ref f)=true
 kp:PySem.W.keepIn K (.ref C)=true
theorem run_make(M:Mk X.K C f)(F:FnOk X.prog X.w X.K X.mg X.base CX k f fd ps sp)(hr:Room (k+1) X.A)(hb:Binds X.K fd ps ds)(hd:Vals dvs ds)
  (hx:cY CX X E)(I:Inv X pins σ H s)(r:Vals vs us)
  (h:∀x dx,H x=none->H dx=none->dx≠x->sp (.ref x::(vs++dvs)) (upd (upd H dx (.own x)) x (.ins C dx [])) (λv H2=>v=.non/\Q (.ref x) H2) E):
  wpAny (model X.prog X.w) X.A (call (.ref C) us) (EP X pins σ Q) X.xe s:=by
 have hq:=h (s.heap.objs.size+1) s.heap.objs.size (I.hok.fresh (Nat.le_succ _)) (I.hok.fresh (jJ _)) (kQ (Nat.lt_succ_self _));have I2:=Inv.made (C:=C) I;have r2:Vals (V.ref (s.heap.objs.size+1)::(vs++dvs)) (Value.ref (s.heap.objs.size+1)::(us++ds)):=.cons rfl (r.append hd)
 have hl:(Value.ref (s.heap.objs.size+1)::us++ds).length=ps.length:=by
  have e:=r2.length;rw[F.len _ _ _ _ hq]at e;exact e.symm
 refine wpAny_call (make_map (f:=f) I.kIn M.makes M.init (beq_iff_eq.mp M.fn) (codeAny_mono (F.run _ X.stack _ _ ⟨Value.ref (s.heap.objs.size+1)::us,[]⟩ (Value.ref (s.heap.objs.size+1)::(us++ds)) _ _ E (hr.make C us [])
  (I2.env0.make C us []) (hb _ (Value.ref (s.heap.objs.size+1)::us) I2.kIn hl) r2 hq) λr s' hq'=>?_))
 cases r with
 |error e=>exact hx pins σ _ _ e s' I2 hq'
 |ok fl=>
  cases fl with
  |ret u=>
   obtain⟨v,H',I3,rv,ev,q3⟩:=I2.after hq';subst ev;exact⟨rv,⟨V.ref (s.heap.objs.size+1),H',I3,rfl,q3⟩⟩
  |next=>exact False.elim hq'
  |brk=>exact False.elim hq'
  |cont=>exact False.elim hq'
theorem pe_make(M:Mk X.K C f)(F:FnOk X.prog X.w X.K X.mg X.base CX k f fd ps sp)(hr:Room (k+1) X.A)(hg:Gl X x)(hm:X.mg x=some (.ref C))(hb:Binds X.K fd ps ds)(hd:Vals dvs ds)(hx:cY CX X E)
  (ha:PA X (e::es) t)(hdb:(x==("__debug__":Str))=false:=by decide)(he:starEach (e::es) X.env=(false,eval e X.env)::starEach es X.env:=by rfl)(hpl:(backTo pos (starEach es X.env)).any (·.1)=false:=by rfl):
  PE X (.Call (.Name x p) (e::es) [] pos) (tMake C sp dvs E t):=by
 intro pins s σ H Q I h;refine wpAny_Call_Name_kw (jx I hg hm ?_ hdb);refine PySem.W.callWith_K (h₀:=X.base) I.ok.mod.kin M.kp (thn (ha pos pins s σ H _ I h) λus s1⟨vs,H1,I1,r,q⟩=>⟨I1.kIn,?_⟩) he hpl;exact run_make M F hr hb hd hx I1 r q
end
structure FnScope(N P:List Str)(sc:Scope):Prop where
 kind:sc.kind=.function
 co:sc.isCoroutine=false
 gen:sc.isGenerator=false
 nd:N.Nodup
 pre:N.take P.length=P
 par:∀x∈P,sc.names.lookup x=some .local∨sc.names.lookup x=some .cell
 nofree:∀y∈sc.names,y.2≠.free
theorem bindL_out{kindOf:Str->Option NameKind}:∀{binds:List (Str×Value)}{m:Str->Option Value},(∀v,(x,v)∉binds)->bindL kindOf binds m x=m x
 |[],_,_=>rfl
 |(n,v)::r,m,h=>by
  unfold bindL;rw[bindL_out λw hw=>h w (jW _ hw)]
  split
  ·have:x≠n:=by rintro rfl;exact h v j4
   simp[this]
  ·rfl
theorem bindC_out{kindOf:Str->Option NameKind}:∀{binds:List (Str×Value)}{m:Str->Option Value},(∀v,(x,v)∉binds)->bindC kindOf binds m x=m x
 |[],_,_=>rfl
 |(n,v)::r,m,h=>by
  unfold bindC;rw[bindC_out λw hw=>h w (jW _ hw)]
  split
  ·rfl
  ·have:x≠n:=by rintro rfl;exact h v j4
   simp[this]
theorem bindL_get{kindOf:Str->Option NameKind}:∀{P:List Str}{vs:List Value}{i:Nat}{m:Str->Option Value},P.Nodup->P[i]?=some x->vs[i]?=some v->kindOf x=some .local->
  bindL kindOf (P.zip vs) m x=some v
 |[],_,_,_,_,h,_,_=>by simp at h
 |_::_,[],_,_,_,_,h,_=>by simp at h
 |p::P,w::vs,0,m,nd,h1,h2,hk=>by
  simp at h1 h2;subst h1;subst h2;show bindL kindOf ((p,w)::P.zip vs) m p=_;unfold bindL;rw[bindL_out λv hv=>(kM.mp nd).1 (List.of_mem_zip hv).1,if_pos hk];simp
 |p::P,w::vs,i+1,m,nd,h1,h2,hk=>by
  show bindL kindOf ((p,w)::P.zip vs) m x=_;unfold bindL;exact bindL_get (i:=i) (kM.mp nd).2 (by simpa using h1) (by simpa using h2) hk
theorem bindC_get{kindOf:Str->Option NameKind}:∀{P:List Str}{vs:List Value}{i:Nat}{m:Str->Option Value},P.Nodup->P[i]?=some x->vs[i]?=some v->kindOf x≠some .local->
  bindC kindOf (P.zip vs) m x=some v
 |[],_,_,_,_,h,_,_=>by simp at h
 |_::_,[],_,_,_,_,h,_=>by simp at h
 |p::P,w::vs,0,m,nd,h1,h2,hk=>by
  simp at h1 h2;subst h1;subst h2;show bindC kindOf ((p,w)::P.zip vs) m p=_;unfold bindC;rw[bindC_out λv hv=>(kM.mp nd).1 (List.of_mem_zip hv).1,if_neg hk];simp
 |p::P,w::vs,i+1,m,nd,h1,h2,hk=>by
  show bindC kindOf ((p,w)::P.zip vs) m x=_;unfold bindC;exact bindC_get (i:=i) (kM.mp nd).2 (by simpa using h1) (by simpa using h2) hk
noncomputable def fu(N:List Str)(vs:List V):St:=vs.map some++List.replicate (N.length-vs.length) none
noncomputable def cxOf(CX:CXT)(P:Program)(w:World)(K:W.Frag)(mg:Str->Option Value)(base:Heap)(N:List Str)(qual:Str)(scope:Scope)(f:Addr)(cd:Value)(A:Around)(outer:List Env)(s:Shared)(H:Hp)(E:XK):Cx where
 prog:=P
 w:=w
 K:=K
 mg:=mg
 base:=base
 A:=A.deeper (envOfC qual scope s.heap.objs.size f cd)
 N:=N
 s₀:=s
 H₀:=H
 env:=envOfC qual scope s.heap.objs.size f cd
 outer:=outer
 stack:=envOfC qual scope s.heap.objs.size f cd::outer
 ex:=[]
 calm:=true
 fn:=λ_=>true
 pn:=[]
 xe:=λe s'=>wpAny (model P w) (A.deeper (envOfC qual scope s.heap.objs.size f cd)) (leaving (envOfC qual scope s.heap.objs.size f cd) e) (λ_ s''=>CX outer H s E e s'') (λe' s''=>CX outer H s E e' s'') s'
theorem cell_has{sc:Scope}(h:sc.names.lookup x=some .cell):∃c,(cellsFrom n sc.names []).lookup x=some c:=by
 have q:=PySem.W.cellsFrom_some sc.names n [] (.inl h);exact Option.isSome_iff_exists.mp q
theorem inv_start{K:W.Frag}
  (S:FnScope N ps scope)(hd:A.handled=none)(e0:Env0 P w K mg base A outer s H)(hl:vs.length=ps.length)(r:Vals vs us)
  (x:InCallC s s.heap.objs.size (bindL (envOfC qual scope s.heap.objs.size f cd).kindOf (ps.zip us) λ_=>none) (cellsFrom (s.heap.objs.size+1) scope.names []) (bindC (envOfC qual scope s.heap.objs.size f cd).kindOf (ps.zip us) λ_=>none) s1):
  Inv (cxOf CX P w K mg base N qual scope f cd A outer s H E) [] (fu N vs) H s1:=by
 have hpl:ps.length<=N.length:=by have:=kA List.length S.pre;rw[jT]at this;lia
 obtain⟨h1,tk,rfl,hk⟩:=x.done;have noA:∀b:Addr,b∉(cxOf CX P w K mg base N qual scope f cd A outer s H E).ex:=λb z=>absurd (show b∈([]:List Addr) from z) (by simp)
 refine⟨⟨e0.mod,S.kind,rfl,rfl,jJ _,λy z c h1 h2=>?_,λy hy=>?_,λy c _ h=>?_,λ_=>hd,Around.frames_deeper e0.frames,.inr ⟨rfl,rfl⟩,λb z=>absurd z (noA b),e0.bs,e0.bsz,λb _ _=>noA b,λb z=>absurd z (noA b),e0.funs,e0.frf⟩,
  rfl,e0.bare,Un.kept hk,⟨_,x.toInCall.ns,λi y v h1 h2 h3=>?_⟩,λy c h=>⟨_,x.cell y c h⟩,e0.hok.fresh (jJ _),λy c h=>?_,λp hp=>absurd (show p∈([]:List (Addr×Obj)) from hp) (by simp),e0.hok.kept hk,?_⟩
 ·exact name_of_addr x.apart (lK h1) (lK h2)
 ·have hy:scope.names.lookup y=some .cell∨scope.names.lookup y=some .free:=hy;rcases hy with hy|hy
  ·exact cell_has hy
  ·exact absurd rfl (S.nofree _ (lK hy))
 ·exact Nat.le_of_lt (x.above y c (lK h))
 ·have hi:i<vs.length:=by
   unfold fu at h2;by_cases hi:i<vs.length
   ·exact hi
   ·rw[kP (by simpa using hi)]at h2;rw[List.getElem?_replicate]at h2
    split at h2<;>cases h2
  have ha:vs[i]?=some v:=by
   unfold fu at h2;rw[lG (by simpa using hi),jK]at h2
   cases e:vs[i]? with
   |none=>rw[e]at h2;cases h2
   |some a=>rw[e]at h2;cases h2;rfl
  obtain⟨u,hu,rv⟩:=r.get ha
  have hp:ps[i]?=some y:=by
   rw[<-S.pre,List.getElem?_take_of_lt (by lia)];exact h1
  have ndP:ps.Nodup:=by rw[<-S.pre];exact S.nd.sublist (List.take_sublist _ _)
  refine⟨u,rv,?_⟩;rcases S.par y (jI hp) with k|k
  ·exact .inl ⟨k,bindL_get ndP hp hu k⟩
  ·obtain⟨c,e⟩:=cell_has (n:=s.heap.objs.size+1) k;refine .inr ⟨.inl k,c,e,?_⟩;have q:=x.cell y c e;rw[bindC_get ndP hp hu (by show scope.names.lookup y≠_;rw[k];decide)]at q;exact q
 ·exact e0.hok.fresh (Nat.le_of_lt (x.above y c (lK h)))
 ·unfold fu;show _=N.length;rw[jO,jF,List.length_replicate]
  lia
theorem fn_of{K:W.Frag}{dV kV doc pm cdv ct oc:Value}
  (lk:K.lookup f=some ⟨oc,od,.func (PySem.W.fnOf name qual params body scope dV kV doc pm an cdv ct),osl⟩)(hcd:PySem.W.codeIn K cdv qual=true)(S:FnScope N ps scope)
  (len:∀vs H Q E,sp vs H Q E->vs.length=ps.length)
  (hbody:∀(A:Around)(outer:List Env)(s:Shared)(H:Hp)(vs:List V)(Q:VK)(E:XK),Room k (A.deeper (envOfC qual scope s.heap.objs.size f cdv))->sp vs H Q E->
   ∃t,PSs (cxOf CX P w K mg base N qual scope f cdv A outer s H E) body t/\t {nx:=λ_ H'=>Q .non H',rt:=Q} (fu N vs) H):
  FnOk P w K mg base CX (k+1) f (PySem.W.fnOf name qual params body scope dV kV doc pm an cdv ct) ps sp:=by
 refine⟨len,λA outer s H args us vs Q E hr e0 hb r hsp=>?_⟩;have hl:=len _ _ _ _ hsp;have KX:K.In s.heap:=e0.mod.kin.keeps λb o e=>(e0.bs b o e).1;have lim:s.heap.NoLimit:=e0.mod.nolimit.keeps λb o e=>(e0.bs b o e).1
 have hkind:∀y∈ps.zip us,scope.names.lookup y.1=some .local∨(scope.names.lookup y.1=some .cell/\((cellsFrom (s.heap.objs.size+1) scope.names []).lookup y.1).isSome=true):=λ⟨n,v⟩hy=>by
  rcases S.par n (List.of_mem_zip hy).1 with q|q
  ·exact .inl q
  ·exact .inr ⟨q,PySem.W.cellsFrom_some _ _ _ (.inl q)⟩
 refine codeAny_call_function hr.depth (KX _ _ lk) rfl S.co S.gen rfl (PySem.W.codeRec_of KX hcd) (hb _ _ _ _ ?_);refine wpAny_newFunctionEnv_cells S.kind hkind λenv he s1 x=>?_;subst he;refine⟨lim.keeps x.toInCall.keep,codeAny_func ?_⟩;obtain⟨t,ht,hq⟩:=hbody A outer s H vs Q E (hr.deeper _) hsp;have I:Inv (cxOf CX P w K mg base N qual scope f cdv A outer s H E) [] (fu N vs) H s1:=inv_start S hr.hd e0 hl r x;refine l0 (ht [] s1 (fu N vs) H _ I hq) (λfl s' hs=>?_) λe s' hs=>hs
 have fin:∀{σ':St}{H':Hp}{v:V}{u:Value},Inv (cxOf CX P w K mg base N qual scope f cdv A outer s H E) [] σ' H' s'->RelV v u->Q v H'->CE outer P w H s Q u s':=
  λ{σ' H' v u}J rv q=>⟨v,H',J.os,J.bare,J.base,J.hok,rv,q⟩
 cases fl with
 |ret u=>
  obtain⟨v,σ',H',J,rv,q⟩:=hs;exact fin J rv q
 |next=>
  obtain⟨σ',H',J,q⟩:=hs;exact fin (v:=V.non) (u:=Value.none) J rfl q
 |brk=>
  obtain⟨_,_,_,q⟩:=hs;exact False.elim q
 |cont=>
  obtain⟨_,_,_,q⟩:=hs;exact False.elim q
section
variable{X:Cx}{x:Str}{p pos:Pos}{e:Expr}{es:List Expr}{t:TA}{id T:String}{r:List V->Hp->VK->Prop}
noncomputable def tCB(r:List V->Hp->VK->Prop)(t:TA):TE:=λσ H Q=>t σ H λvs H1=>r vs H1 Q
theorem aI(hc:dH X (.builtin id) r)(hg:Gl X x)(hm:X.mg x=none)(hv:bootBuiltins x=some (.builtin id))(ha:PA X (e::es) t)(hn:x≠"__name__":=by decide)(hdb:(x==("__debug__":Str))=false:=by decide)
  (he:starEach (e::es) X.env=(false,eval e X.env)::starEach es X.env:=by rfl)(hpl:(backTo pos (starEach es X.env)).any (·.1)=false:=by rfl):PE X (.Call (.Name x p) (e::es) [] pos) (tCB r t):=by
 intro pins s σ H Q I h;refine wpAny_Call_Name_kw (ld_blt I hg hm hv ?_ hn hdb);exact PyProof.Rows.callWith_builtin1 (thn (ha pos pins s σ H _ I h) (by rintro us s1⟨vs,H1,I1,r1,q1⟩;exact hc pins s1 σ H1 vs us Q I1 r1 q1)) he hpl
theorem bj(hc:dH X (.type T) r)(hg:Gl X x)(hm:X.mg x=none)(hv:bootBuiltins x=some (.type T))(ha:PA X (e::es) t)(hn:x≠"__name__":=by decide)(hdb:(x==("__debug__":Str))=false:=by decide)
  (he:starEach (e::es) X.env=(false,eval e X.env)::starEach es X.env:=by rfl)(hpl:(backTo pos (starEach es X.env)).any (·.1)=false:=by rfl):PE X (.Call (.Name x p) (e::es) [] pos) (tCB r t):=by
 intro pins s σ H Q I h;refine wpAny_Call_Name_kw (ld_blt I hg hm hv ?_ hn hdb);exact PyProof.Rows.callWith_type1 (thn (ha pos pins s σ H _ I h) (by rintro us s1⟨vs,H1,I1,r1,q1⟩;exact hc pins s1 σ H1 vs us Q I1 r1 q1)) he hpl
end
end L2
namespace HT
open PySem PyProof.Rows
noncomputable def lexLt:List Int->List Int->Bool
 |[],[]=>false
 |[],_::_=>true
 |_::_,[]=>false
 |x::xs,y::ys=>if x=y then lexLt xs ys else decide (x<y)
section
variable{prog:Program}{w:World}{A:Around}{E:Value->Shared->Prop}{s:Shared}
noncomputable def sIx(n d:Nat):Option Int->Nat
 |none=>d
 |some v=>if v<0 then(v+(n:Int)).toNat else min v.toNat n
theorem sIx_none(n d:Nat):sIx n d none=d:=rfl
theorem sIx_nat(n d k:Nat):sIx n d (some (k:Int))=min k n:=by
 show(if(k:Int)<0 then((k:Int)+(n:Int)).toNat else min (k:Int).toNat n)=min k n;rw[if_neg (by lia),Int.toNat_natCast]
end
end HT
namespace L2
open PySem PySem.Spec PyProof.Rows
noncomputable abbrev TO:=St->Hp->(Option Int->Hp->Prop)->Prop
noncomputable def PO(X:Cx)(e:Option Expr)(t:TO):Prop:=
 ∀(pins:List (Addr×Obj))(s:Shared)(σ:St)(H:Hp)(Q:Option Int->Hp->Prop),Inv X pins σ H s->t σ H Q->
  wpAny (model X.prog X.w) X.A (evalPart e X.env) (λu s'=>∃o H',Inv X pins σ H' s'/\IsPart u o/\Q o H') X.xe s
noncomputable def tNoPart:TO:=λ_ H Q=>Q none H
noncomputable def tPart(t:TE):TO:=λσ H Q=>t σ H λx H1=>∃i,x=.int i/\Q (some i) H1
section
variable{X:Cx}{e:Expr}{te:TE}{lo hi:Option Expr}{tl th:TO}{pos p2:Pos}
theorem fG:PO X none tNoPart:=by
 intro pins s σ H Q I h;rw[evalPart_none];exact lg ⟨none,H,I,.none,h⟩
theorem fF(h:PE X e te):PO X (some e) (tPart te):=by
 intro pins s σ H Q I hw;rw[evalPart_some];refine thn (h pins s σ H _ I hw) λu s1⟨x,H1,I1,r1,q1⟩=>?_;obtain⟨i,rfl,q⟩:=q1;obtain⟨t,rfl⟩:=r1;exact⟨some i,H1,I1,.int i t,q⟩
noncomputable def SlR(X:Cx)(r:V->Option Int->Option Int->Hp->VK->Prop):Prop:=
 ∀(pins:List (Addr×Obj))(s:Shared)(σ:St)(H:Hp)(x:V)(v vl vu:Value)(lo hi:Option Int)(sl:Addr)(Q:VK),Inv X pins σ H s->RelV x v->s.heap.IsSliceOf sl vl vu .none->IsPart vl lo->IsPart vu hi->r x lo hi H Q->
  ∃T id,typeLookup (.type T) "__getitem__"=pure (some (.builtin id))/\s.TypeIs v T/\wpAny (model X.prog X.w) X.A (getItem v (.ref sl)) (EP X pins σ Q) X.xe s
noncomputable def tSl(r:V->Option Int->Option Int->Hp->VK->Prop)(te:TE)(tl th:TO):TE:=λσ H Q=>te σ H λx H1=>tl σ H1 λl H2=>th σ H2 λu H3=>r x l u H3 Q
theorem dC(hr:SlR X r)(he:PE X e te)(hl:PO X lo tl)(hu:PO X hi th):PE X (.Subscript e (.Slice lo hi none p2) pos) (tSl r te tl th):=by
 intro pins s σ H Q I h;refine Subscript_ (thn (he pins s σ H _ I h) λv s1⟨x,H1,I1,r1,q1⟩=>?_);refine wpAny_Slice (thn (hl pins s1 σ H1 _ I1 q1) λvl s2⟨l,H2,I2,pl,q2⟩=>thn (hu pins s2 σ H2 _ I2 q2) λvu s3⟨u,H3,I3,pu,q3⟩=>?_);rw[evalPart_none];refine lg ?_;have I4:Inv X pins σ H3 {s3 with heap:=s3.heap.push {cls:=.type "slice",data:=.fields #[vl,vu,.none]}}:=I3.kept (t':=s3.toks) λb ob q=>jZ _ q;obtain⟨T,id,hT,ht,hg⟩:=hr pins {s3 with heap:=s3.heap.push {cls:=.type "slice",data:=.fields #[vl,vu,.none]}} σ H3 x v vl vu l u s3.heap.objs.size Q I4 r1 (Heap.IsSliceOf.new ..) pl pu q3;show wpAny (model X.prog X.w) X.A (subscriptTail e (.Slice lo hi none p2) v (.ref s3.heap.objs.size)) (EP X pins σ Q) X.xe {s3 with heap:=s3.heap.push {cls:=.type "slice",data:=.fields #[vl,vu,.none]}};exact tail_any (ops:=[.ref s3.heap.objs.size,v]) ht hT hg (by with_unfolding_all rfl)
noncomputable def cutV(xs:List V)(lo hi:Option Int):List V:=(xs.drop (HT.sIx xs.length 0 lo)).take (HT.sIx xs.length xs.length hi-HT.sIx xs.length 0 lo)
theorem cutV_length(xs:List V)(lo hi:Option Int):(cutV xs lo hi).length<=xs.length:=by
 unfold cutV;rw[jT,lz]
 lia
end
noncomputable def ixN(n:Nat)(i:Int):Option Nat:=if 0<=i then(if i<n then some i.toNat else none)else if-(n:Int)<=i then some (i+n).toNat else none
noncomputable def atI{α:Type}(xs:List α)(i:Int):Option α:=(ixN xs.length i).bind λj=>xs[j]?
theorem ixN_seq(h:ixN n i=some j):seqIndex? i n=some j/\j<n/\-(n:Int)<=i/\i<n:=by
 unfold ixN at h;by_cases h0:0<=i
 ·rw[if_pos h0]at h;by_cases h1:i<n
  ·rw[if_pos h1]at h;have e:i.toNat=j:=kg h;exact⟨by rw[seqIndex_of h0 h1,e],by lia,by lia,h1⟩
  ·rw[if_neg h1]at h;cases h
 ·rw[if_neg h0]at h;by_cases h1:-(n:Int)<=i
  ·rw[if_pos h1]at h;have e:(i+n).toNat=j:=kg h;exact⟨by rw[seqIndex_neg (by lia) h1,e],by lia,h1,by lia⟩
  ·rw[if_neg h1]at h;cases h
theorem atI_get(h:atI xs i=some v):∃j,seqIndex? i xs.length=some j/\xs[j]?=some v/\j<xs.length/\-(xs.length:Int)<=i/\i<xs.length:=by
 unfold atI at h
 cases e:ixN xs.length i with
 |none=>rw[e]at h;cases h
 |some j=>
  rw[e]at h;obtain⟨h1,h2,h3,h4⟩:=ixN_seq e;exact⟨j,h1,h,h2,h3,h4⟩
theorem atI_nat{j:Nat}(h:xs[j]?=some v):atI xs (j:Int)=some v:=by
 have hj:j<xs.length:=(jG.mp h).1
 have e:ixN xs.length (j:Int)=some j:=by
  unfold ixN;rw[if_pos (by lia),if_pos (by lia)];simp
 unfold atI;rw[e];exact h
theorem atI_last(xs:List α)(v:α):atI (xs++[v]) (-1)=some v:=by
 have hl:(xs++[v]).length=xs.length+1:=by simp
 have e:ixN (xs++[v]).length (-1)=some xs.length:=by
  unfold ixN;rw[hl,if_neg (by decide),if_pos (by lia)]
  congr 1
  lia
 unfold atI;rw[e];show(xs++[v])[xs.length]?=some v;simp
noncomputable def PlainIx(b:Expr):Prop:=∀o i,subscripted b false o i=operate [o,i] (getItem o i)
noncomputable def IxR(X:Cx)(r:R2):Prop:=
 ∀(value slice:Expr)(pins:List (Addr×Obj))(s:Shared)(σ:St)(H:Hp)(x y:V)(v u:Value)(Q:VK),Inv X pins σ H s->RelV x v->RelV y u->r x y H Q->
  subscripted slice false v u=operate [v,u] (getItem v u)->wpAny (model X.prog X.w) X.A (subscriptTail value slice v u) (EP X pins σ Q) X.xe s
noncomputable def MtR(X:Cx)(id:String)(r:V->List V->Hp->VK->Prop):Prop:=
 ∀(pins:List (Addr×Obj))(s:Shared)(σ:St)(H:Hp)(x:V)(xs:List V)(v:Value)(us:List Value)(Q:VK),Inv X pins σ H s->RelV x v->Vals xs us->r x xs H Q->
  wpAny (model X.prog X.w) X.A (call (.builtin id) (v::us)) (EP X pins σ Q) X.xe s
section
variable{X:Cx}{a b:Expr}{ta tb:TE}{pos:Pos}
theorem al(hr:IxR X r)(ha:PE X a ta)(hb:PE X b tb)(hs:PlainIx b:=by exactλ_ _=>rfl):PE X (.Subscript a b pos) (tOp r ta tb):=by
 intro pins s σ H Q I h;exact Subscript_ (binT ha hb I h λv u s2 x y H2 I2 rx ry q=>hr a b pins s2 σ H2 x y v u Q I2 rx ry q (hs _ _))
inductive IrIxL(K:W.Frag)(x:V)(y:V)(H:Hp)(Q:VK):Prop
 |mk(p:_)(xs:_)(i:_)(v:_)(h1:x=.ref p)(h2:y=.int i)(h3:SqL K H p xs)(h4:atI xs i=some v)(h5:Q v H):IrIxL K x y H Q
noncomputable def rIxL(K:W.Frag):R2:=λx y H Q=>IrIxL K x y H Q
inductive IrIxT(K:W.Frag)(x:V)(y:V)(H:Hp)(Q:VK):Prop
 |mk(p:_)(xs:_)(i:_)(v:_)(h1:x=.ref p)(h2:y=.int i)(h3:SqT K H p xs)(h4:atI xs i=some v)(h5:Q v H):IrIxT K x y H Q
noncomputable def rIxT(K:W.Frag):R2:=λx y H Q=>IrIxT K x y H Q
noncomputable def rIxS:R2:=λx y H Q=>∃z i c,x=.str z/\y=.int i/\z.length<=sizeLine/\atI z.cps.toList i=some c/\Q (.str ⟨#[c]⟩) H
theorem aM:IxR X (rIxL X.K):=by
 intro value slice pins s σ H x y v u Q I rx ry h hs;obtain⟨p,xs,i,z,rfl,rfl,hq,he,q⟩:=h
 cases rx;obtain⟨t,rfl⟩:=ry;obtain⟨its,r,pl,hz⟩:=I.list hq;obtain⟨j,h1,h2,h3,h4,h5⟩:=atI_get he;obtain⟨w,ew,rw'⟩:=r.get h2;have hl:=r.length;have hn:=line63;have fin:EP X pins σ Q w s:=⟨z,H,I,rw',q⟩;by_cases h0:0<=i
 ·have hj:i.toNat=j:=by
   rw[seqIndex_of h0 h5]at h1;exact kg h1
  exact item_listR pl.isList h0 (by lia) (by rw[hj];simpa using ew) fin hs
 ·have hj:(i+(its.toArray.size:Int)).toNat=j:=by
   rw[seqIndex_neg (by lia) h4]at h1;rw[j5,<-hl];exact kg h1
  exact subscriptTail_builtinR (x:=w) pl.isList.typeIs slot_list_getitem.lookup
   (wpAny_getItem_list_neg (Q:=λr s'=>r=w/\EP X pins σ Q r s') pl.isList (by lia) (by rw[j5]<;>lia) (by lia) (by rw[hj];simpa using ew) ⟨rfl,fin⟩) hs
theorem av:IxR X (rIxT X.K):=by
 intro value slice pins s σ H x y v u Q I rx ry h hs;obtain⟨p,xs,i,z,rfl,rfl,hq,he,q⟩:=h
 cases rx;obtain⟨t,rfl⟩:=ry;obtain⟨its,r,pl,hz⟩:=I.tuple hq;obtain⟨j,h1,h2,h3,h4,h5⟩:=atI_get he;obtain⟨w,ew,rw'⟩:=r.get h2;have hl:=r.length;have hn:=line63;have fin:EP X pins σ Q w s:=⟨z,H,I,rw',q⟩
 exact subscriptTail_builtinR (x:=w) pl.typeIs slot_tuple_getitem.lookup
  (getItem_tuple (j:=j) (Q:=λr s'=>r=w/\EP X pins σ Q r s') pl (by lia) (by lia) (by rw[j5,<-hl];exact h1) (by simpa using ew) ⟨rfl,fin⟩) hs
theorem ix_str:IxR X rIxS:=by
 intro value slice pins s σ H x y v u Q I rx ry h hs;obtain⟨z,i,c,rfl,rfl,hz,he,q⟩:=h;obtain⟨t,rfl⟩:=rx;obtain⟨t',rfl⟩:=ry;obtain⟨j,h1,h2,h3,h4,h5⟩:=atI_get he;have hl:z.cps.toList.length=z.length:=by simp[Str.length]
 rw[hl]at h1 h4 h5;have hn:=line63
 exact tail_any (typeIs_str s z t) slot_str_getitem.lookup (getItem_str (c:=c) (by
  have e1:decide (i< -(2^63:Int))=false:=jY (by lia);have e2:decide (i≥2^63)=false:=jY (by lia);rw[e1,e2,Bool.or_false]) (by rw[h1];simpa using h2) ⟨.str ⟨#[c]⟩,H,I.tok _,⟨_,rfl⟩,q⟩) hs
theorem slice_bounds(lo hi:Option Int)(n:Nat):(sliceBounds lo hi none n).1=((HT.sIx n 0 lo:Nat):Int)/\(sliceBounds lo hi none n).2.1=((HT.sIx n n hi:Nat):Int)/\(sliceBounds lo hi none n).2.2=1:=by
 refine⟨?_,?_,rfl⟩
 ·cases lo with
  |none=>simp[sliceBounds,HT.sIx]
  |some i=>
   simp only[sliceBounds,HT.sIx,Option.getD_none,show(1:Int)>0 by decide,if_true];by_cases h:i<0
   ·simp only[h,if_true]<;>lia
   ·simp only[h,if_false]<;>lia
 ·cases hi with
  |none=>simp[sliceBounds,HT.sIx]
  |some i=>
   simp only[sliceBounds,HT.sIx,Option.getD_none,show(1:Int)>0 by decide,if_true];by_cases h:i<0
   ·simp only[h,if_true]<;>lia
   ·simp only[h,if_false]<;>lia
theorem slicePick_cut(its:List Value)(lo hi:Option Int):slicePick its.toArray lo hi none=((its.drop (HT.sIx its.length 0 lo)).take (HT.sIx its.length its.length hi-HT.sIx its.length 0 lo)).toArray:=by
 obtain⟨h1,h2,h3⟩:=slice_bounds lo hi its.toArray.size;unfold slicePick;rw[h1,h2,h3];simp only[sliceRange_one,pick_run,j5]<;>rfl
inductive IrSlL(K:W.Frag)(x:V)(lo:Option Int)(hi:Option Int)(H:Hp)(Q:VK):Prop
 |mk(a:_)(xs:_)(h1:x=.ref a)(h2:SqL K H a xs)(h3:∀p,H p=none->Q (.ref p) (upd H p (.lst (cutV xs lo hi)))):IrSlL K x lo hi H Q
noncomputable def rSlL(K:W.Frag):V->Option Int->Option Int->Hp->VK->Prop:=λx lo hi H Q=>IrSlL K x lo hi H Q
theorem ig:SlR X (rSlL X.K):=by
 intro pins s σ H x v vl vu lo hi sl Q I rx hs pl pu h;obtain⟨a,xs,rfl,hx,q⟩:=h
 cases rx;obtain⟨its,r,ht,hz⟩:=I.list hx;have hlen:=r.length;refine⟨"list",_,slot_list_getitem.lookup,ht.isList.typeIs,?_⟩;refine wpAny_getItem_list_slice ht.isList hs pl pu .none (by simp) ?_ (by rw[j5]<;>lia);rw[slicePick_cut,<-hlen];refine⟨.ref s.heap.objs.size,_,I.laid (t':=s.toks) (o:=.lst (cutV xs lo hi)) (λb ob q=>jZ _ q) (jJ _) ?_,rfl,q _ (I.hok.fresh (jJ _))⟩;exact⟨jV (cutV_length xs lo hi) hz,_,0,(r.drop (HT.sIx xs.length 0 lo)).take (HT.sIx xs.length xs.length hi-HT.sIx xs.length 0 lo),kq _ rfl⟩
noncomputable def cU:V->Bool
 |.non=>true
 |.bl _=>true
 |.int _=>true
 |.str _=>true
 |_=>false
noncomputable def eqV:V->V->Bool
 |.non,.non=>true
 |.bl a,.bl b=>a==b
 |.bl a,.int b=>(if a then 1 else 0)==b
 |.int a,.bl b=>a==(if b then 1 else 0)
 |.int a,.int b=>a==b
 |.str a,.str b=>a==b
 |_,_=>false
theorem eqAt_V(ry:RelV y u)(rx:RelV x v)(fy:cU y=true)(fx:cU x=true):SeqAt.EqAt A s u v (eqV y x):=by
 cases y with
 |non=>
  cases ry
  cases x with
  |non=>cases rx;exact SeqAt.EqAt.same _
  |bl b=>cases rx;exact SeqAt.EqAt.none_bool b
  |int b=>obtain⟨t,rfl⟩:=rx;exact SeqAt.EqAt.none_int b t
  |str b=>obtain⟨t,rfl⟩:=rx;exact SeqAt.EqAt.none_str b t
  |_=>exact absurd (show false=true from fx) kc
 |bl a=>
  cases ry
  cases x with
  |non=>cases rx;exact SeqAt.EqAt.bool_none a
  |bl b=>cases rx;exact SeqAt.EqAt.bool_bool a b
  |int b=>obtain⟨t,rfl⟩:=rx;exact SeqAt.EqAt.bool_int a b t
  |str b=>obtain⟨t,rfl⟩:=rx;exact SeqAt.EqAt.bool_str a b t
  |_=>exact absurd (show false=true from fx) kc
 |int a=>
  obtain⟨t',rfl⟩:=ry
  cases x with
  |non=>cases rx;exact SeqAt.EqAt.int_none a t'
  |bl b=>cases rx;exact SeqAt.EqAt.int_bool a t' b
  |int b=>obtain⟨t,rfl⟩:=rx;exact SeqAt.EqAt.int_int a t' b t
  |str b=>obtain⟨t,rfl⟩:=rx;exact SeqAt.EqAt.int_str a t' b t
  |_=>exact absurd (show false=true from fx) kc
 |str a=>
  obtain⟨t',rfl⟩:=ry
  cases x with
  |non=>cases rx;exact SeqAt.EqAt.str_none a t'
  |bl b=>cases rx;exact SeqAt.EqAt.str_bool a t' b
  |int b=>obtain⟨t,rfl⟩:=rx;exact SeqAt.EqAt.str_int a t' b t
  |str b=>obtain⟨t,rfl⟩:=rx;exact SeqAt.EqAt.str_str a t' b t
  |_=>exact absurd (show false=true from fx) kc
 |_=>exact absurd (show false=true from fy) kc
noncomputable def eqU(x:V)(u:Value):Bool:=match u with
 |.none=>eqV .non x
 |.bool b=>eqV (.bl b) x
 |.int i _=>eqV (.int i) x
 |.str z _=>eqV (.str z) x
 |_=>false
theorem eqU_of(r:RelV y u)(f:cU y=true):eqU x u=eqV y x:=by
 cases y with
 |non=>cases r;rfl
 |bl b=>cases r;rfl
 |int i=>obtain⟨t,rfl⟩:=r;rfl
 |str z=>obtain⟨t,rfl⟩:=r;rfl
 |_=>exact absurd (show false=true from f) kc
theorem any_eqU:∀{xs:List V}{us:List Value},Vals xs us->xs.all cU=true->us.any (eqU x)=xs.any λy=>eqV y x
 |_,_,.nil,_=>rfl
 |y::xs,u::us,.cons r t,f=>by
  rw[List.all_cons,Bool.and_eq_true]at f;rw[List.any_cons,List.any_cons,eqU_of r f.1,any_eqU t f.2]
theorem ju(rx:RelV x v)(fx:cU x=true):∀{xs:List V}{us:List Value},Vals xs us->xs.all cU=true->∀u∈us,SeqAt.EqAt A s u v (eqU x u)
 |_,_,.nil,_=>λu hu=>by cases hu
 |y::xs,u::us,.cons r t,f=>λu' hu=>by
  rw[List.all_cons,Bool.and_eq_true]at f;rcases j3.mp hu with rfl|hu
  ·rw[eqU_of r f.1];exact eqAt_V r rx f.1 fx
  ·exact ju rx fx t f.2 u' hu
noncomputable def inV(x:V)(xs:List V):Bool:=xs.any λy=>eqV y x
noncomputable def rIn(K:W.Frag)(neg:Bool):R2:=λx y H Q=>∃p xs,y=.ref p/\(SqL K H p xs∨SqT K H p xs)/\cU x=true/\xs.all cU=true/\Q (.bl (if neg then !inV x xs else inV x xs)) H
theorem op_notIn_seq:OpR X (compareOp .NotIn) (rIn X.K true):=by
 intro pins s σ H x y v u Q I rx ry h;obtain⟨p,xs,rfl,hq,fx,fs,q⟩:=h
 cases ry;rcases hq with hq|hq
 ·obtain⟨its,r,pl,hz⟩:=I.list hq;refine SeqAt.notIn_listAt (eqU x) pl.isList (λw hw=>ju rx fx r fs w (by simpa using hw)) ⟨.bl _,H,I,rfl,?_⟩;rw[show its.toArray.any (eqU x)=its.any (eqU x) by simp,any_eqU r fs];exact q
 ·obtain⟨its,r,pl,hz⟩:=I.tuple hq;refine SeqAt.notIn_tupleAt (eqU x) pl (λw hw=>ju rx fx r fs w (by simpa using hw)) ⟨.bl _,H,I,rfl,?_⟩;rw[show its.toArray.any (eqU x)=its.any (eqU x) by simp,any_eqU r fs];exact q
theorem call_len_seq:dH X (.builtin "len") (λxs H Q=>∃p ys,xs=[.ref p]/\(SqL X.K H p ys∨SqT X.K H p ys)/\Q (.int ys.length) H):=by
 intro pins s σ H xs us Q I r h;obtain⟨p,ys,rfl,hq,q⟩:=h;obtain⟨u,rfl,rx⟩:=gH r
 cases rx;have hn:=line63;rcases hq with hq|hq
 ·obtain⟨its,r',pl,hz⟩:=I.list hq;have hlen:=r'.length;exact Calls.call_len_list pl.isList (by simp only[j5]<;>lia) ⟨.int ys.length,H,I.tok _,⟨s.toks+1,by rw[j5,hlen]⟩,q⟩
 ·obtain⟨its,r',pl,hz⟩:=I.tuple hq;have hlen:=r'.length;exact len_tuple pl (by simp only[j5]<;>lia) ⟨.int ys.length,H,I.tok _,⟨s.toks+1,by rw[j5,hlen]⟩,q⟩
theorem call_len_str:dH X (.builtin "len") (λxs H Q=>∃z,xs=[.str z]/\z.length<=sizeLine/\Q (.int z.length) H):=by
 intro pins s σ H xs us Q I r h;obtain⟨z,rfl,hz,q⟩:=h;obtain⟨u,rfl,t,rfl⟩:=gH r;have hn:=line63;exact len_str (by lia) ⟨.int z.length,H,I.tok _,⟨_,rfl⟩,q⟩
theorem gG:dH X (.type "list") (λxs H Q=>∃p ys,xs=[.ref p]/\(SqL X.K H p ys∨SqT X.K H p ys)/\∀l,H l=none->Q (.ref l) (upd H l (.lst ys))):=by
 intro pins s σ H xs us Q I r h;obtain⟨p,ys,rfl,hq,q⟩:=h;obtain⟨u,rfl,rx⟩:=gH r
 cases rx
 have fin:∀(its:List Value),Vals ys its->ys.length<=sizeLine->∀(h':Heap)(c':Nat),(∀b o',s.heap.get? b=some o'->h'.get? b=some o')->
   h'.get? s.heap.objs.size=some {cls:=.type "list",dict:=none,data:=.seq its.toArray c',slots:=#[]}->EP X pins σ Q (.ref s.heap.objs.size) {s with heap:=h'}:=λits r' hz h' c' kp e=>
  ⟨.ref s.heap.objs.size,_,I.laid (t':=s.toks) kp (jJ _) (show ObjOk X.prog X.w _ h' _ (.lst ys) from⟨hz,its,c',r',e⟩),rfl,q _ (I.hok.fresh (jJ _))⟩
 rcases hq with hq|hq
 ·obtain⟨its,r',pl,hz⟩:=I.list hq;have hlen:=r'.length;obtain⟨o,ho,hc,n,hd⟩:=pl.isList;exact call_list_seq p (.inl rfl) ho hc hd (λh' c' kp e=>fin its r' hz h' c' kp e) (by simp only[j5]<;>lia)
 ·obtain⟨its,r',pl,hz⟩:=I.tuple hq;have hlen:=r'.length;obtain⟨o,ho,hc,n,hd⟩:=pl;exact call_list_seq p (.inr rfl) ho hc hd (λh' c' kp e=>fin its r' hz h' c' kp e) (by simp only[j5]<;>lia)
noncomputable def tyV(K:W.Frag)(T:String)(x:V)(H:Hp):Prop:=match x with
 |.str _=>T="str"
 |.int _=>T="int"
 |.ref p=>(T="list"/\∃xs,SqL K H p xs)∨(T="tuple"/\∃o,K.lookup p=some o/\o.cls=.type "tuple"/\o.dict=none)∨
   (T="dict"/\((∃kvs,H p=some (.dK kvs))∨∃kvs,H p=some (.dT kvs)))∨(T="set"/\∃S n,H p=some (.set S n))
 |_=>False
theorem tyV_is(I:Inv X pins σ H s)(r:RelV x v)(ty:tyV X.K T x H):
  s.TypeIs v T/\∀a,v=.ref a->∃ob,s.heap.get? a=some ob/\ob.dict=none:=by
 cases x with
 |str z=>
  obtain⟨t,rfl⟩:=r
  cases(show T="str"from ty);exact⟨typeIs_str s z t,λ_ e=>nomatch e⟩
 |int i=>
  obtain⟨t,rfl⟩:=r
  cases(show T="int"from ty);exact⟨typeIs_int s i t,λ_ e=>nomatch e⟩
 |ref p=>
  cases r;rcases ty with⟨rfl,xs,hq⟩|⟨rfl,o,hk,hc,hd⟩|⟨rfl,hk⟩|⟨rfl,S,n,hk⟩
  ·obtain⟨its,_,pl,_⟩:=I.list hq;refine⟨pl.isList.typeIs,λa e=>?_⟩
   cases e;obtain⟨o,n,e,c,hd,_⟩:=pl;exact⟨o,e,hd⟩
  ·refine⟨⟨o,I.kIn p o hk,hc⟩,λa e=>?_⟩
   cases e;exact⟨o,I.kIn _ o hk,hd⟩
  ·have z:∃o,s.heap.get? p=some o/\o.ExactDict:=by
    rcases hk with⟨kvs,hk⟩|⟨kvs,hk⟩
    ·obtain⟨_,_,_,_,o,_,_,e,ex,_⟩:=I.hok p _ hk;exact⟨o,e,ex⟩
    ·obtain⟨_,_,_,_,o,_,_,e,ex,_⟩:=I.hok p _ hk;exact⟨o,e,ex⟩
   obtain⟨o,e,ex⟩:=z;refine⟨⟨o,e,ex.1⟩,λa e2=>?_⟩
   cases e2;exact⟨o,e,ex.2.1⟩
  ·obtain⟨o,_,_,_,e,ex,_⟩:=I.hok p _ hk;refine⟨⟨o,e,ex.1⟩,λa e2=>?_⟩
   cases e2;exact⟨o,e,ex.2.1⟩
 |_=>exact False.elim ty
noncomputable def tBM0(K:W.Frag)(T:String)(r:V->List V->Hp->VK->Prop)(to:TE):TE:=λσ H Q=>to σ H λx H1=>tyV K T x H1/\r x [] H1 Q
noncomputable def tBM(K:W.Frag)(T:String)(r:V->List V->Hp->VK->Prop)(to:TE)(t:TA):TE:=λσ H Q=>to σ H λx H1=>tyV K T x H1/\t σ H1 λxs H2=>r x xs H2 Q
variable{o e:Expr}{es:List Expr}{to:TE}{t:TA}{name:Str}{apos cpos:Pos}{T id:String}{r:V->List V->Hp->VK->Prop}
theorem pe_bm0(pa:PlainAttrs T)(slot:Slot T name id)(hty:typeOf (.builtin id)=pure (.type "method_descriptor"))(hm:MtR X id r)(ho:PE X o to)
  (hbase:attributeBase o name X.env (eval o X.env)=eval o X.env:=by rfl)(hline:(apos.endLine==cpos.line)=true:=by rfl):PE X (.Call (.Attribute o name apos) [] [] cpos) (tBM0 X.K T r to):=by
 intro pins s σ H Q I h;refine wpAny_Call_method0_late hbase hline (thn (ho pins s σ H _ I h) λv s1⟨x,H1,I1,r1,ty,q1⟩=>?_);obtain⟨h1,h2⟩:=tyV_is I1 r1 ty;exact⟨T,id,pa,slot,hty,h1,h2,Calls.callWith_builtin rfl (PySem.evalArgs_none (hm pins s1 σ H1 x [] v [] Q I1 r1 .nil q1))⟩
theorem gi(pa:PlainAttrs T)(slot:Slot T name id)(hty:typeOf (.builtin id)=pure (.type "method_descriptor"))(hm:MtR X id r)(ho:PE X o to)(ha:PA X (e::es) t)
  (hbase:attributeBase o name X.env (eval o X.env)=eval o X.env:=by rfl)
  (hfew:((backTo cpos (starEach (e::es) X.env)).all (λx=>!x.1)&&(backToKw cpos (keywordEach [] X.env)).all (λx=>x.1.isSome)
   &&decide ((e::es).length+([]:List Keyword).length+(if([]:List Keyword).isEmpty then 0 else 1)<30))=true:=by rfl)
  (hline:(apos.endLine==cpos.line)=true:=by rfl)(hs:starEach (e::es) X.env=(false,eval e X.env)::starEach es X.env:=by rfl)(hplain:(backTo cpos (starEach es X.env)).any (·.1)=false:=by rfl):
  PE X (.Call (.Attribute o name apos) (e::es) [] cpos) (tBM X.K T r to t):=by
 intro pins s σ H Q I h;refine wpAny_Call_method_late hbase hfew hline rfl (thn (ho pins s σ H _ I h) λv s1⟨x,H1,I1,r1,ty,q1⟩=>?_);obtain⟨h1,h2⟩:=tyV_is I1 r1 ty;refine⟨T,id,pa,slot,hty,h1,h2,?_⟩;have hA:=ha cpos pins s1 σ H1 _ I1 q1;rw[hs]at hA⊢;refine Calls.callWith_builtin (by show(false||(backTo cpos (starEach es X.env)).any (·.1))=false;rw[hplain]<;>rfl) (Calls.evalArgs_plain ?_);exact thn hA (by rintro us s2⟨vs,H2,I2,r2,q2⟩;exact hm pins s2 σ H2 x vs v us Q I2 r1 r2 q2)
end
noncomputable def MtM(X:Cx)(id:String)(r:V->List V->Hp->VK->Prop):Prop:=
 ∀(pins:List (Addr×Obj))(s:Shared)(σ:St)(H:Hp)(x:V)(xs:List V)(v:Value)(us:List Value)(Q:VK),Inv X pins σ H s->RelV x v->Vals xs us->r x xs H Q->
  wpAny (model X.prog X.w) X.A (call (.builtin id) (v::us)) (EP X pins σ Q) X.xe s
theorem Vals.one:∀{x:V}{us:List Value},Vals [x] us->∃u,us=[u]/\RelV x u
 |_,_,.cons r .nil=>⟨_,rfl,r⟩
section
variable{X:Cx}{pins:List (Addr×Obj)}{σ:St}{H:Hp}{s:Shared}{l b:Addr}{xs ys zs:List V}
theorem Inv.lset{its its':List Value}(I:Inv X pins σ H s)(hH:H l=some (.lst xs))
  (e:s.heap.get? l=some {cls:=.type "list",data:=.seq its.toArray n})(hf:f its.toArray=its'.toArray)(hv:Vals ys its')(hz:ys.length<=sizeLine):
  Inv X pins σ (upd H l (.lst ys)) {s with heap:=s.heap.update l (Obj.mapSeq f),toks:=t'}:=by
 have q:=PySem.IsL.update e f;rw[hf]at q;refine I.write (x:=l) (e:=l) (by rw[hH];exact trivial) (.inl rfl) (λb' u hb hu=>(Heap.get?_update_other s.heap (Obj.mapSeq f) (Ne.symm hb)).trans hu) ⟨_,q⟩ ?_;exact⟨hz,its',_,hv,q⟩
theorem Inv.lnew(I:Inv X pins σ H s)(hv:Vals ys its)(hz:ys.length<=sizeLine):
  Inv X pins σ (upd H s.heap.objs.size (.lst ys)) {s with heap:=s.heap.push {cls:=.type "list",data:=.seq its.toArray},toks:=t'}:=
 I.laid (λ_ _ q=>jZ _ q) (jJ _) ⟨hz,its,0,hv,kq _ rfl⟩
theorem Inv.fresh(I:Inv X pins σ H s):H s.heap.objs.size=none:=I.hok.fresh (jJ _)
theorem Inv.lstM(I:Inv X pins σ H s)(hH:H l=some (.lst xs)):xs.length<=sizeLine/\∃(its:List Value)(n:Nat),Vals xs its/\xs.length=its.length/\s.heap.get? l=some {cls:=.type "list",data:=.seq its.toArray n}:=by
 obtain⟨z,its,n,r,e⟩:=I.hok l _ hH;exact⟨z,its,n,r,r.length,e⟩
end
section
variable{X:Cx}
inductive IrAppend(x:V)(vs:List V)(H:Hp)(Q:VK):Prop
 |mk(l:_)(xs:_)(y:_)(h1:x=.ref l)(h2:vs=[y])(h3:H l=some (.lst xs))(h4:xs.length<sizeLine)(h5:Q .non (upd H l (.lst (xs++[y])))):IrAppend x vs H Q
noncomputable def rAppend:V->List V->Hp->VK->Prop:=λx vs H Q=>IrAppend x vs H Q
theorem bJ:MtM X "list.append" rAppend:=by
 intro pins s σ H x vs v us Q I rx rv h;obtain⟨l,xs,y,rfl,rfl,hH,hz,q⟩:=h
 cases rx;obtain⟨u,rfl,ru⟩:=rv.one;obtain⟨z,its,n,r,hl,e⟩:=I.lstM hH;refine call_meets F.slot_list_append ⟨_,e,rfl⟩ F.entry_list_append (F.args_list_append_2 _ _) (PySem.list_append l its.toArray n u (by rw[j5];lia)) ⟨e,?_⟩;refine⟨.non,_,I.lset (its':=its++[u]) hH e (by simp) (r.append (.cons ru .nil)) ?_,rfl,q⟩;rw[jO,kr]
 lia
inductive IrCat(x:V)(y:V)(H:Hp)(Q:VK):Prop
 |mk(l:_)(b:_)(xs:_)(zs:_)(h1:x=.ref l)(h2:y=.ref b)(h3:H l=some (.lst xs))(h4:H b=some (.lst zs))(h5:xs.length+zs.length<=sizeLine)(h6:∀p,H p=none->Q (.ref p) (upd H p (.lst (xs++zs)))):IrCat x y H Q
noncomputable def rCat:R2:=λx y H Q=>IrCat x y H Q
theorem op_cat:OpR X (binaryOp .Add) rCat:=by
 intro pins s σ H x y v u Q I rx ry h;obtain⟨l,b,xs,zs,rfl,rfl,hH,hB,hz,q⟩:=h
 cases rx
 cases ry;obtain⟨z,its,n,r,hl,e⟩:=I.lstM hH;obtain⟨z2,its2,n2,r2,hl2,e2⟩:=I.lstM hB;refine PySem.P.add_list e e2 ?_ (by rw[j5,j5];lia);have ea:its.toArray++its2.toArray=(its++its2).toArray:=by simp
 rw[ea];exact⟨.ref _,_,I.lnew (t':=s.toks) (r.append r2) (by rw[jO];lia),rfl,q _ I.fresh⟩
end
end L2
namespace Att
open PySem PySem.W PySem.Calls PyProof.Rows
theorem ints_of_wellAll:∀(ns:List Int)(vs:List Value),WellAll P h vs (ns.map WData.int)->IntsAre vs ns:=by
 intro ns
 induction ns with
 |nil=>
  intro vs w;rw[l9]at w
  cases w;exact .nil
 |cons n ns ih=>
  intro vs w;rw[lv]at w
  cases w with
  |cons a b=>
   cases a;exact .cons _ _ (ih _ b)
theorem script_of{l:OpenLaw}(hn:l.most=some n)
  (hpre:l.row.toRowW.claim.pre args=true)(hwl:WellAll P h vals args):
  ∃a vs ns,vals=[Value.ref a]/\args=[WData.list (ns.map WData.int)]/\h.get? a=some {cls:=.type "list",data:=.seq vs.toArray}/\IntsAre vs ns/\ns.length<=n:=by
 have hsh:WShape.hasAll [] args [.list .int]=true:=(pre_splitW hpre).1;have hc:l.pre.holds [] {args:=args}=true:=(pre_splitW hpre).2;obtain⟨d,r,rfl,h1,h2⟩:=hasAllW_cons hsh;obtain rfl:=hasAllW_nil h2;obtain⟨xs,rfl,h3⟩:=hasW_list h1;obtain⟨ns,rfl⟩:=items_int h3
 have hlen:ns.length<=n:=by
  unfold OpenLaw.pre at hc
  have h4:(WTm.not (.lt (.lit (.int (n:Int))) (.len (.arg 0)))).holds [] {args:=[.list (ns.map .int)]}=true:=by
   have h4:=(holds_andW hc).1;rw[hn]at h4;exact h4
  have h5:=condW_of h4 (w_not (w_lt w_lit (w_len_list (w_arg rfl))));rw[jF]at h5;refine Nat.le_of_not_lt λq=>?_;have q':(n:Int)<((ns.length:Nat):Int):=by omega
  first
   |(rw[j6 q']at h5;exact absurd h5 (by decide))
   |(simp at h5;lia)
 cases hwl with
 |cons w1 w2=>
  cases w2
  cases w1 with
  |list ho hall=>exact⟨_,_,ns,rfl,rfl,ho,ints_of_wellAll ns _ hall,hlen⟩
theorem post_true(l:OpenLaw)(args:List WData):l.row.toRowW.claim.post args (.bool true) args=true:=
 postW_of (r:=l.row.toRowW) (X:=(true==true))
  (show WShape.has [] (.bool true) .bool=true by first|rfl|decide|simp[WShape.has,WShape.arms,WShape.armsAll])
  (show(WTm.eq .res (.lit (.bool true))).value [] {args:=args,res:=some (.bool true),after:=args}=some (.bool (true==true)) from w_eq_bool (w_res rfl) w_lit) rfl
end Att
namespace L2
open PySem PySem.Spec PyProof.Rows
theorem vals_ints:∀{vs:List Value}{ns:List Int},IntsAre vs ns->Vals (ns.map V.int) vs
 |_,_,.nil=>.nil
 |_,_,.cons n t h=>.cons ⟨t,rfl⟩ (vals_ints h)
noncomputable def Only(H:Hp):Prop:=∀b,H b=none∨∃o xs,H b=some (.frz o (.lst xs))
theorem law_call{K:W.Frag}
  (KX:K.In s₁.heap)(hns:s₁.heap.Ns mainGlobals mg)(hb:s₁.heap.Ns builtinsNs mb)(hbb:∀x:Str,x≠"__name__"->mb x=bootBuiltins x)(hlim:s₁.heap.NoLimit)(hg:s₁.gens=#[])
  (ha:s₁.heap.get? a=some {cls:=.type "list",data:=.seq vs.toArray})(hi:IntsAre vs ns)(hl:ns.length<=sizeLine)(hr:Room k callerA)
  (F:∀base:Heap,K.In base->base.Ns mainGlobals mg->FnOk P w K mg base CX k fa fd [x] sp)(hbind:∀(s:Shared)(u:Value),BindsTo s fd ⟨[u],[]⟩ [(x,u)])
  (hsp:∀H:Hp,Only H->SqL K H a (ns.map V.int)->sp [.ref a] H (λv _=>v=.bl true) λ_ _ _=>False)
  (hCX:∀H e s',CX [] H s₁ (λ_ _ _=>False) e s'->False):
  codeAny (model P w) callerA (.call (.ref fa) ⟨[.ref a],[]⟩) (λr s'=>r=.ok (.ret (.bool true))/\OldK s₁.heap s'.heap/\s'.os=s₁.os/\AllBare s'.gens) s₁:=by
 have rv:=vals_ints hi;have lenV:=hi.length
 have core:∀H:Hp,Only H->SqL K H a (ns.map V.int)->HOk P w H s₁.heap->(∀b,H b≠none->b=a)->(H a≠none->K.lookup a=none)->
   codeAny (model P w) callerA (.call (.ref fa) ⟨[.ref a],[]⟩) (λr s'=>r=.ok (.ret (.bool true))/\OldK s₁.heap s'.heap/\s'.os=s₁.os/\AllBare s'.gens) s₁:=by
  intro H hO hS hok hA hK;have base_of:∀{b:Addr}{o:Obj},s₁.heap.get? b=some o->H b=none->(hidT s₁.heap H).get? b=some o:=λe n=>hidT_get e n
  have noA:∀{b:Addr}{o:Obj}{es:Array DictEntry}{ep:Nat},s₁.heap.get? b=some o->o.data=.dict es ep->H b=none:=λ{b o es ep}e d=>by
   cases q:H b with
   |none=>rfl
   |some u=>
    have e':b=a:=hA b (by rw[q];simp);subst e';rw[ha]at e;cases e;have d':Data.seq vs.toArray _=Data.dict es ep:=d
    cases d'
  have nsK:∀{b:Addr}{m:Str->Option Value},s₁.heap.Ns b m->(hidT s₁.heap H).Ns b m:=λ{b m}⟨o,es,ep,e,d,r⟩=>⟨o,es,ep,base_of e (noA e d),d,r⟩
  have hKb:K.In (hidT s₁.heap H):=λb o e=>base_of (KX b o e) (by
   cases q:H b with
   |none=>rfl
   |some u=>
    have e':b=a:=hA b (by rw[q];simp);subst e';rw[hK (by rw[q];simp)]at e;cases e)
  have hM:Mod K mg (hidT s₁.heap H):=⟨hKb,nsK hns,⟨mb,nsK hb,hbb⟩,let⟨mc,h1,h2⟩:=hlim;⟨mc,nsK h1,h2⟩⟩;have e0:Env0 P w K mg (hidT s₁.heap H) callerA [] s₁ H:=⟨rfl,hM,λb o e=>of_hidT e,Nat.le_of_eq (hidT_size _ _),trivial,λb hb=>absurd (show b∈([]:List Addr) from hb) (by simp),hok,.of_eq hg⟩;refine codeAny_mono ((F _ hKb (nsK hns)).run callerA [] s₁ H ⟨[.ref a],[]⟩ [.ref a] [.ref a] _ _ hr e0 (hbind s₁ (.ref a)) (.cons rfl .nil) (hsp H hO hS)) λr s' h=>?_
  cases r with
  |error e=>exact(hCX H e s' h).elim
  |ok fl=>
   cases fl with
   |next=>exact False.elim h
   |brk=>exact False.elim h
   |cont=>exact False.elim h
   |ret u=>
    obtain⟨v,H',os,bare,un,hok',r',q⟩:=h;have q':v=.bl true:=q;subst q';obtain rfl:u=Value.bool true:=r';refine⟨rfl,OldK.of_keep λb o e=>?_,os,bare⟩
    cases q:H b with
    |none=>exact un.keep b o e q (by intro z;exact absurd (show b∈([]:List Addr) from z) (by simp)) (by simp)
    |some u=>
     rcases hO b with z|⟨ob,xs,z⟩
     ·rw[q]at z;cases z
     ·have z2:=un.frzs b ob _ z;obtain⟨e1,_⟩:=hok b _ z;obtain⟨e2,_⟩:=hok' b _ z2;rw[e]at e1;cases e1;exact e2
 cases hk:K.lookup a with
 |some o=>
  have e:=KX a o hk;rw[ha]at e
  cases e;refine core (λ_=>none) (λ_=>.inl rfl) (.inr ⟨_,vs.toArray,_,hk,rfl,rfl,rfl,by rw[j5,lenV];exact hl,by simpa using rv⟩) (λb u z=>by have z':(none:Option HO)=some u:=z;cases z') (λb z=>absurd rfl z) λz=>absurd rfl z
 |none=>
  refine core (λb=>if b=a then some (.frz {cls:=.type "list",data:=.seq vs.toArray} (.lst (ns.map V.int))) else none) (λb=>?_) (.inl (.inr ⟨{cls:=.type "list",data:=.seq vs.toArray},if_pos rfl⟩)) (λb u z=>?_) (λb z=>?_) λ_=>hk
  ·by_cases hb:b=a
   ·exact .inr ⟨_,_,if_pos hb⟩
   ·exact .inl (if_neg hb)
  ·by_cases hb:b=a
   ·have z':=(if_pos hb).symm.trans z
    cases z';subst hb;exact⟨ha,by rw[jF];exact hl,vs,_,rv,ha⟩
   ·have z':=(if_neg hb).symm.trans z
    cases z'
  ·by_cases hb:b=a
   ·exact hb
   ·exact absurd (if_neg hb) z
noncomputable def aY(s:Stmt)(j:Nat):Stmt:=match s with
 |.ClassDef _ _ _ body _ _ _ _ _ _ _=>body.getD j (.Pass ⟨0,0,0,0⟩)
 |_=>.Pass ⟨0,0,0,0⟩
noncomputable def cW(s:Stmt):Arguments:=match s with
 |.FunctionDef _ a _ _ _ _ _ _ _ _=>a
 |_=>{posonlyargs:=[],args:=[],vararg:=none,kwonlyargs:=[],kw_defaults:=[],kwarg:=none,defaults:=[]}
noncomputable def bL(s:Stmt):List Stmt:=match s with
 |.FunctionDef _ _ b _ _ _ _ _ _ _=>b
 |_=>[]
noncomputable def ak(s:Stmt):Scope:=match s with
 |.FunctionDef _ _ _ _ _ _ sc _ _ _=>sc
 |_=>{kind:=.function,names:=[],isGenerator:=false,isCoroutine:=false}
noncomputable abbrev CX0:CXT:=λ_ _ _ _ _ _=>False
noncomputable abbrev E0:XK:=λ_ _ _=>False
theorem aq:cY CX0 X E0:=λ_ _ _ _ _ _ _ h=>h.elim
structure Fun(K:W.Frag)(x qual:Str)(st:Stmt)(f:Addr)(fd:FuncData):Prop where
 ex:∃(oc:Value)(od:Option Addr)(kV doc pm:Value)(an:Option Addr)(cdv ct:Value)(osl:Array (Option Value)),
  fd=PySem.W.fnOf x qual (cW st) (bL st) (ak st) .none kV doc pm an cdv ct/\K.lookup f=some ⟨oc,od,.func fd,osl⟩/\PySem.W.codeIn K cdv qual=true
 kp:PySem.W.keepIn K (.ref f)=true
section
variable{P:Program}{w:World}{K:W.Frag}{mg:Str->Option Value}{base:Heap}
theorem Fun.okA{st:Stmt}(F:Fun K x qual st f fd)(S:FnScope N ps (ak st))
  (hbody:∀(cdv:Value)(A:Around)(outer:List Env)(s:Shared)(H:Hp)(vs:List V)(Q:VK)(E:XK),Room k (A.deeper (envOfC qual (ak st) s.heap.objs.size f cdv))->sp vs H Q E->
   ∃t,PSs (cxOf CX0 P w K mg base N qual (ak st) f cdv A outer s H E).nox (bL st) t/\t {nx:=λ_ H'=>Q .non H',rt:=Q} (fu N vs) H)(len:∀vs H Q E,sp vs H Q E->vs.length=ps.length:=by intro _ _ _ _ h;cases h;subst_vars;rfl):FnOk P w K mg base CX0 (k+1) f fd ps sp:=by
 obtain⟨oc,od,kV,doc,pm,an,cdv,ct,osl,rfl,lk,hcd⟩:=F.ex;refine fn_of lk hcd S len λA outer s H vs Q E hr hsp=>?_;obtain⟨t,h,q⟩:=hbody cdv A outer s H vs Q E hr hsp;exact⟨t,h.nox,q⟩
theorem Fun.binds{st:Stmt}(F:Fun K x qual st f fd)
  (h:∀(kV doc pm:Value)(an:Option Addr)(cdv ct:Value)(us:List Value),us.length=ps.length->bindArgs (PySem.W.fnOf x qual (cW st) (bL st) (ak st) .none kV doc pm an cdv ct) ⟨us,[]⟩=pure (ps.zip us)):Binds K fd ps []:=by
 obtain⟨oc,od,kV,doc,pm,an,cdv,ct,osl,rfl,lk,hcd⟩:=F.ex;exact .all (h kV doc pm an cdv ct)
theorem fun_mk{st:Stmt}{kV doc pm cdv ct:Value}(l:K.lookup f=some ⟨oc,od,.func (PySem.W.fnOf x qual (cW st) (bL st) (ak st) .none kV doc pm an cdv ct),osl⟩)
  (c:PySem.W.codeIn K cdv qual=true)(k:PySem.W.keepIn K (.ref f)=true):Fun K x qual st f (PySem.W.fnOf x qual (cW st) (bL st) (ak st) .none kV doc pm an cdv ct):=⟨⟨oc,od,kV,doc,pm,an,cdv,ct,osl,rfl,l,c⟩,k⟩
end
theorem aJ(hr:Room k A):A.units+1<cLine:=kj (Nat.add_le_add_left (by decide:1<=64) _) hr.units
theorem ay(h:n<=1000):n<sizeLine:=kj h (by decide)
section
variable{X:Cx}
theorem pv(i:Nat)(hN:X.N[i]?=some x:=by rfl)(hv:Vis X.env.scope x:=by first|exact Or.inl rfl|exact Or.inr (Or.inl rfl)|exact Or.inr (Or.inr rfl))(hd:(x==("__debug__":Str))=false:=by decide)
  (hcd:(x==("__classdict__":Str))=false:=by decide):PE X (.Name x pos) (ix i):=pe_var hN hv hd hcd
end
theorem iteF{A B:Prop}(h:B):if false=true then A else B:=by
 rw[if_neg kc];exact h
theorem iteT{A B:Prop}(h:A):if true=true then A else B:=by
 rw[if_pos rfl];exact h
theorem iteNS{c A B:Prop}[Decidable c](hc:c)(h:B):if(!decide c)=true then A else B:=by
 rw[j6 hc];exact iteF h
noncomputable def Same(H H':Hp):Prop:=∀b o,H b=some o->H' b=some o
theorem Same.refl(H:Hp):Same H H:=λ_ _ h=>h
theorem Same.trans(a:Same H H1)(b:Same H1 H2):Same H H2:=λc o h=>b c o (a c o h)
theorem Same.free(e:Same H H')(h:H' l=Option.none):H l=Option.none:=by
 cases q:H l with
 |none=>rfl
 |some o=>
  rw[e l o q]at h
  cases h
theorem Same.seq{K:W.Frag}(e:Same H H')(h:SqL K H a xs):SqL K H' a xs:=by
 rcases h with(h|⟨o,h⟩)|h
 ·exact .inl (.inl (e _ _ h))
 ·exact .inl (.inr ⟨o,e _ _ h⟩)
 ·exact .inr h
end L2
set_option maxHeartbeats 4000000
set_option exponentiation.threshold 300
namespace L2
open PySem PySem.Spec PyProof.Rows
section
variable{X:Cx}
theorem bits_le(h:k.natAbs<2^n):Builtin.Int.intBits k<=n:=by
 unfold Builtin.Int.intBits
 split
 ·exact jU _
 ·rename_i h0
  have hz:k.natAbs≠0:=by
   intro z;apply h0
   have:k=0:=by lia
   simp[this]
  have:k.natAbs.log2<n:=(Nat.log2_lt hz).mpr h
  lia
noncomputable def CMulB(i j:Int):Prop:=i.natAbs<2^9000/\j.natAbs<2^9000
theorem CMulB.ok(h:CMulB i j):IntMulOk i j:=by
 refine IntMulOk.of_bits (jV (bits_le h.1) (by decide)) (jV (bits_le h.2) (by decide))
theorem bE:OpR X (binaryOp .Mult) (rI CMulB λi j=>.int (i*j)):=opI λ_ _ _ _ _ _ _ hc q=>mul_int q hc.ok
noncomputable def CDivB(_ j:Int):Prop:=j≠0/\j.natAbs<2^9000
theorem CDivB.ok(h:CDivB i j):Builtin.divisionGoesByPylong i j=false:=
 PyProof.noPylong_of_log2 ((Nat.log2_lt (by have:=h.1;lia)).mpr h.2)
theorem bC:OpR X (binaryOp .FloorDiv) (rI CDivB λi j=>.int (i.fdiv j)):=opI λ_ _ _ _ _ _ _ hc q=>floordiv_int hc.1 q (.inl hc.ok)
inductive IrIsI(K:W.Frag)(c:Value)(vs:List V)(H:Hp)(Q:VK):Prop
 |mk(x:_)(y:_)(t:_)(b:_)(h1:vs=[x,y])(h2:(∀u,RelV y u->u=c))(h3:TyOf K H x t)(h4:PySem.W.kitOne K t c=some b)(h5:Q (.bl b) H):IrIsI K c vs H Q
noncomputable def rIsI(K:W.Frag)(c:Value):List V->Hp->VK->Prop:=λvs H Q=>IrIsI K c vs H Q
theorem dG:dH X (.builtin "isinstance") (rIsI X.K c):=by
 intro pins s σ H xs us Q I r h;obtain⟨x,y,t,b,rfl,hc,ty,e,q⟩:=h
 cases r with
 |cons r1 r2=>
  cases r2 with
  |cons r3 r4=>
   cases r4
   have:=hc _ r3
   subst this;exact isinst_ok I r1 ty e λtk=>⟨.bl b,H,I.tok tk,rfl,q⟩
end
section
variable{X:Cx}
noncomputable def cq(X:Cx)(pins:List (Addr×Obj))(N':List Str)(scope:Scope)(cl:List (Str×Addr))(C:Addr)(fp:List Addr)(s:Shared)(H:Hp):Cx:=
 {X with N:=N',s₀:=s,H₀:=H,env:=compEnvC scope cl C X.env,outer:=X.stack,stack:=X.stack,ex:=fp,fn:=λ_=>false,pn:=X.pn++pins,xe:=λ_ _=>False}
structure Clos(X:Cx)(scope:Scope)(cl:List (Str×Addr)):Prop where
 clos:closureFor scope X.env=pure cl
 sub:∀y c,cl.lookup y=some c->X.env.cells.lookup y=some c
 has:∀y,((relabel scope X.env).names.lookup y=some .cell∨(relabel scope X.env).names.lookup y=some .free)->∃c,cl.lookup y=some c
theorem relabel_none(hf:∀x∈scope.names,x.2≠.free):relabel scope env=scope:=by
 unfold relabel
 have:(scope.names.map λ(n,k)=>if(k==NameKind.free&&env.scope.kind==.function&&env.kindOf n==some .cell)then(n,NameKind.cell)else(n,k))=scope.names:=by
  refine map_eq_self λx hx=>?_;obtain⟨n,k⟩:=x;have h1:(k==NameKind.free)=false:=by simpa using hf _ hx
  simp[h1]
 rw[this]
theorem Clos.none(hf:∀x∈scope.names,x.2≠.free)(hc:∀x∈scope.names,x.2≠.cell):Clos X scope []:=by
 refine⟨closureFor_none hf,λy c h=>by simp at h,λy h=>?_⟩;rw[relabel_none hf]at h;rcases h with h|h
 ·exact absurd rfl (hc _ (lK h))
 ·exact absurd rfl (hf _ (lK h))
noncomputable def Reads(X:Cx)(scope:Scope)(rest:List Str)(sel:St->St):Prop:=
 ∀σ,(sel σ).length=rest.length/\∀(i:Nat)(y:Str)(v:V),rest[i]?=some y->(sel σ)[i]?=some (some v)->∃j:Nat,X.N[j]?=some y/\σ[j]?=some (some v)/\X.env.scope.names.lookup y=some .cell/\(relabel scope X.env).names.lookup y=some .cell
end
theorem ifV{A B:Prop}(h1:k=m->A)(h2:k≠m->B):if decide (V.int k=V.int m)=true then A else B:=by
 by_cases h:k=m
 ·rw[if_pos (by rw[h];exact j6 rfl)];exact h1 h
 ·rw[if_neg (by rw[jY (by intro z;exact h (V.int.inj z))];decide)];exact h2 h
theorem ifB{c A B:Prop}[Decidable c](h1:c->A)(h2:¬c->B):if decide c=true then A else B:=by
 by_cases h:c
 ·rw[if_pos (j6 h)];exact h1 h
 ·rw[if_neg (by rw[jY h];decide)];exact h2 h
theorem iteC{A B:Prop}(h:c=true)(a:A):if c=true then A else B:=by
 rw[if_pos h];exact a
theorem cL{A B:Prop}(h:c=false)(b:B):if c=true then A else B:=by
 rw[if_neg (by rw[h];decide)];exact b
theorem neV(h:k≠m):decide (V.int k=V.int m)=false:=jY (by intro z;exact h (V.int.inj z))
section
variable{X:Cx}{st:Stmt}{rest:List Stmt}{t u:TS}
noncomputable def iy(t u:TS):TS:=λD σ H=>∃M:St->Hp->Prop,t {D with nx:=M} σ H/\∀σ' H',M σ' H'->u D σ' H'
theorem aE(h1:PS X st t)(h2:PSs X rest u):PSs X (st::rest) (iy t u):=by
 intro pins s σ H D I⟨M,h,hM⟩;refine wpAny_execs_cons (thn (h1 pins s σ H {D with nx:=M} I h) λf s1 q=>?_)
 cases f with
 |next=>
  obtain⟨σ',H',I',q⟩:=q;exact h2 pins s1 σ' H' D I' (hM σ' H' q)
 |ret v=>exact q
 |brk=>exact q
 |cont=>exact q
end
theorem bM(M:St->Hp->Prop)(h1:t {D with nx:=M} σ H)(h2:∀U:TS,U=u->∀σ' H',M σ' H'->U D σ' H'):iy t u D σ H:=⟨M,h1,h2 u rfl⟩
theorem fP{p:Prop}(h:p):p:=h
noncomputable def rLen(K:W.Frag):List V->Hp->VK->Prop:=λxs H Q=>∃p ys,xs=[.ref p]/\(SqL K H p ys∨SqT K H p ys)/\Q (.int ys.length) H
theorem a6:dH X (.builtin "len") (rLen X.K):=call_len_seq
end L2
namespace L2
open PySem
noncomputable def Trail(h:Heap)(e:Addr)(vs:Array Value):Option Addr->Prop
 |none=>vs[1]?=some .none
 |some T=>vs[1]?=some (.ref T)/\T≠e/\∃oT ts,h.get? T=some oT/\oT.data=.fields ts/\ts[3]?=some .none
end L2
namespace L2
open PySem PySem.Spec PyProof.Rows
section
variable{X:Cx}{pins:List (Addr×Obj)}{σ:St}{H H':Hp}{s s':Shared}{h':Heap}
noncomputable def Off(X:Cx)(pins:List (Addr×Obj))(b:Addr):Prop:=
 X.s₀.heap.get? b=none/\b≠X.env.locals/\b∉X.fs/\(∀x c,X.env.cells.lookup x=some c->c≠b)/\∀p∈X.pn++pins,p.1≠b
noncomputable def XFly(X:Cx)(pins:List (Addr×Obj))(H:Hp)(h:Heap)(x:Addr)(cls:Value)(d:Option Addr):Prop:=
 H x=none/\Off X pins x/\∃vs sl tr,h.get? x=some ⟨cls,d,.fields vs,sl⟩/\Trail h x vs tr/\∀T,tr=some T->H T=none/\Off X pins T
noncomputable def XP(X:Cx)(pins:List (Addr×Obj))(σ:St)(E:XK)(e:Value)(s':Shared):Prop:=∃x cls d H',e=.ref x/\Inv X pins σ H' s'/\XFly X pins H' s'.heap x cls d/\E cls d H'
noncomputable def Fly(g:Heap)(H:Hp)(h:Heap)(x:Addr)(cls:Value)(d:Option Addr):Prop:=
 g.get? x=none/\H x=none/\∃vs sl tr,h.get? x=some ⟨cls,d,.fields vs,sl⟩/\Trail h x vs tr/\∀T,tr=some T->g.get? T=none/\H T=none
noncomputable def CX1(P:Program)(w:World):CXT:=λouter H s E e s'=>∃x cls d H',e=.ref x/\s'.os=s.os/\AllBare s'.gens/\Un (frs outer) [] H H' s.heap s'.heap/\HOk P w H' s'.heap/\Fly s.heap H' s'.heap x cls d/\E cls d H'
end
section
variable{X:Cx}
noncomputable abbrev Cx.hnd(X:Cx)(x:Addr):Cx:={X with A:=X.A.mark (some (.ref x)),calm:=false,xe:=λ_ _=>False}
variable{pins:List (Addr×Obj)}{σ:St}{H:Hp}{s:Shared}{x:Addr}
noncomputable def XO(x C:Addr)(d:Option Addr):HO:=.ext λh=>∃vs sl,h.get? x=some ⟨.ref C,d,.fields vs,sl⟩
noncomputable def XHeld(X:Cx)(pins:List (Addr×Obj))(H:Hp)(h:Heap)(x:Addr)(cls:Value)(d:Option Addr):Prop:=
 H x=none/\Off X pins x/\∃vs sl T,h.get? x=some ⟨cls,d,.fields vs,sl⟩/\Trail h x vs (some T)/\H T=none/\Off X pins T
noncomputable abbrev TH:=Ends->St->Value->Option Addr->Hp->Prop
end
noncomputable def FnB(P:Program)(w:World)(K:W.Frag)(mg:Str->Option Value)(base:Heap)(CX:CXT)(x:Str)(k:Nat)(ps:List Str)(sp:Sp):Prop:=
 ∃f fd,mg x=some (.ref f)/\PySem.W.keepIn K (.ref f)=true/\Binds K fd ps []/\FnOk P w K mg base CX k f fd ps sp
noncomputable def MtB(P:Program)(w:World)(K:W.Frag)(mg:Str->Option Value)(base:Heap)(CX:CXT)(C:Addr)(m:Str)(k:Nat)(ps:List Str)(sp:Sp):Prop:=
 ∃f fd,Meth K C m f/\Binds K fd ps []/\FnOk P w K mg base CX k f fd ps sp
noncomputable def MkB(P:Program)(w:World)(K:W.Frag)(mg:Str->Option Value)(base:Heap)(CX:CXT)(C:Addr)(k:Nat)(ps:List Str)(dvs:List V)(sp:Sp):Prop:=
 ∃f fd ds,Mk K C f/\Binds K fd ps ds/\Vals dvs ds/\FnOk P w K mg base CX k f fd ps sp
section
variable{P:Program}{w:World}{K:W.Frag}{mg:Str->Option Value}{base:Heap}{CX:CXT}{x m:Str}{C:Addr}{k:Nat}{ps:List Str}{sp:Sp}{dvs:List V}
theorem FnB.imp(h:FnB P w K mg base CX x k ps sp)(i:∀vs H Q E,sp' vs H Q E->sp vs H Q E):FnB P w K mg base CX x k ps sp':=by
 obtain⟨f,fd,a,b,c,d⟩:=h;exact⟨f,fd,a,b,c,d.imp i⟩
end
section
variable{X:Cx}{CX:CXT}{k j:Nat}{C:Addr}{ps:List Str}{sp:Sp}{dvs:List V}{E:XK}{x m:Str}{p pos apos:Pos}{e o:Expr}{es:List Expr}{ta:TE}{t:TA}
theorem az(F:FnB X.prog X.w X.K X.mg X.base CX x k ps sp)(hr:Room j X.A)(hx:cY CX X E)(ha:PA X (e::es) t)(hj:k<=j:=by decide)(hg:Gl X x:=by rfl)(hdb:(x==("__debug__":Str))=false:=by decide)
  (he:starEach (e::es) X.env=(false,eval e X.env)::starEach es X.env:=by rfl)(hpl:(backTo pos (starEach es X.env)).any (·.1)=false:=by rfl):PE X (.Call (.Name x p) (e::es) [] pos) (tCall sp [] E t):=by
 obtain⟨f,fd,a,b,c,d⟩:=F;exact pe_call d (hr.mono hj) hg a b c .nil hx ha hdb he hpl
theorem pe_mk(F:MkB X.prog X.w X.K X.mg X.base CX C k ps dvs sp)(hr:Room j X.A)(hm:X.mg x=some (.ref C))(hx:cY CX X E)(ha:PA X (e::es) t)(hj:k+1<=j:=by decide)(hg:Gl X x:=by rfl)(hdb:(x==("__debug__":Str))=false:=by decide)
  (he:starEach (e::es) X.env=(false,eval e X.env)::starEach es X.env:=by rfl)(hpl:(backTo pos (starEach es X.env)).any (·.1)=false:=by rfl):PE X (.Call (.Name x p) (e::es) [] pos) (tMake C sp dvs E t):=by
 obtain⟨f,fd,ds,a,b,c,d⟩:=F;exact pe_make a d (hr.mono hj) hg hm b c hx ha hdb he hpl
end
noncomputable def FDe(K:W.Frag)(mg:Str->Option Value)(x:Str)(st:Stmt)(ps:List Str):Prop:=∃f fd,Fun K x x st f fd/\mg x=some (.ref f)/\Binds K fd ps []
noncomputable def MDe(K:W.Frag)(C:Addr)(x qual:Str)(st:Stmt)(ps:List Str):Prop:=∃f fd,Fun K x qual st f fd/\Meth K C x f/\Binds K fd ps []
section
variable{P:Program}{w:World}{K:W.Frag}{mg:Str->Option Value}{base:Heap}{x qual:Str}{C:Addr}{st:Stmt}{N ps:List Str}{k:Nat}{sp:Sp}
theorem FDe.okA(F:FDe K mg x st ps)(S:FnScope N ps (ak st))
  (hbody:∀(f:Addr)(cdv:Value)(A:Around)(outer:List Env)(s:Shared)(H:Hp)(vs:List V)(Q:VK)(E:XK),Room k (A.deeper (envOfC x (ak st) s.heap.objs.size f cdv))->sp vs H Q E->
   ∃t,PSs (cxOf CX0 P w K mg base N x (ak st) f cdv A outer s H E).nox (bL st) t/\t {nx:=λ_ H'=>Q .non H',rt:=Q} (fu N vs) H)(len:∀vs H Q E,sp vs H Q E->vs.length=ps.length:=by intro _ _ _ _ h;cases h;subst_vars;rfl):FnB P w K mg base CX0 x (k+1) ps sp:=
 let⟨f,fd,a,b,c⟩:=F
 ⟨f,fd,b,a.kp,c,a.okA S (hbody f) len⟩
theorem MDe.okA(F:MDe K C x qual st ps)(S:FnScope N ps (ak st))
  (hbody:∀(f:Addr)(cdv:Value)(A:Around)(outer:List Env)(s:Shared)(H:Hp)(vs:List V)(Q:VK)(E:XK),Room k (A.deeper (envOfC qual (ak st) s.heap.objs.size f cdv))->sp vs H Q E->
   ∃t,PSs (cxOf CX0 P w K mg base N qual (ak st) f cdv A outer s H E).nox (bL st) t/\t {nx:=λ_ H'=>Q .non H',rt:=Q} (fu N vs) H)(len:∀vs H Q E,sp vs H Q E->vs.length=ps.length:=by intro _ _ _ _ h;cases h;subst_vars;rfl):MtB P w K mg base CX0 C x (k+1) ps sp:=
 let⟨f,fd,a,b,c⟩:=F
 ⟨f,fd,b,c,a.okA S (hbody f) len⟩
end
noncomputable def FunG(K:W.Frag)(x qual:Str)(st:Stmt)(f:Addr)(fd:FuncData):Prop:=∃(oc:Value)(od:Option Addr)(dV kV doc pm:Value)(an:Option Addr)(cdv ct:Value)(osl:Array (Option Value)),
  fd=PySem.W.fnOf x qual (cW st) (bL st) (ak st) dV kV doc pm an cdv ct/\K.lookup f=some ⟨oc,od,.func fd,osl⟩/\PySem.W.codeIn K cdv qual=true
structure FunD(K:W.Frag)(x qual:Str)(st:Stmt)(f:Addr)(fd:FuncData)(ds:Array Value):Prop where
 ex:∃(oc:Value)(od:Option Addr)(T:Addr)(kV doc pm:Value)(an:Option Addr)(cdv ct:Value)(osl:Array (Option Value))(o:Obj)(n:Nat),
  fd=PySem.W.fnOf x qual (cW st) (bL st) (ak st) (.ref T) kV doc pm an cdv ct/\K.lookup f=some ⟨oc,od,.func fd,osl⟩/\PySem.W.codeIn K cdv qual=true/\K.lookup T=some o/\o.data=.seq ds n
section
variable{P:Program}{w:World}{K:W.Frag}{mg:Str->Option Value}{base:Heap}{x qual:Str}{C:Addr}{st:Stmt}{f:Addr}{fd:FuncData}{ds:Array Value}{N ps:List Str}{k:Nat}{sp:Sp}
theorem FunD.gen(F:FunD K x qual st f fd ds):FunG K x qual st f fd:=by
 obtain⟨oc,od,T,kV,doc,pm,an,cdv,ct,osl,_,_,e,l,c,_⟩:=F.ex;exact⟨oc,od,.ref T,kV,doc,pm,an,cdv,ct,osl,e,l,c⟩
theorem Fun.gen(F:Fun K x qual st f fd):FunG K x qual st f fd:=by
 obtain⟨oc,od,kV,doc,pm,an,cdv,ct,osl,e,l,c⟩:=F.ex;exact⟨oc,od,.none,kV,doc,pm,an,cdv,ct,osl,e,l,c⟩
theorem FunD.binds(F:FunD K x qual st f fd ds)
  (h:∀(T:Addr)(kV doc pm:Value)(an:Option Addr)(cdv ct:Value)(us:List Value),(us++es).length=ps.length->∃k,bindArgs (PySem.W.fnOf x qual (cW st) (bL st) (ak st) (.ref T) kV doc pm an cdv ct) ⟨us,[]⟩=seqItems? (.ref T)>>=k/\k (some ds)=pure (ps.zip (us++es))):Binds K fd ps es:=by
 obtain⟨oc,od,T,kV,doc,pm,an,cdv,ct,osl,o,n,rfl,lk,hcd,lt,hd⟩:=F.ex;intro s us KX hl;obtain⟨k,h1,h2⟩:=h T kV doc pm an cdv ct us hl;exact PySem.W.binds_K KX rfl lt hd h1 h2
theorem funD_mk{kV doc pm cdv ct:Value}(l:K.lookup f=some ⟨oc,od,.func (PySem.W.fnOf x qual (cW st) (bL st) (ak st) (.ref T) kV doc pm an cdv ct),osl⟩)
  (c:PySem.W.codeIn K cdv qual=true)(t:K.lookup T=some o)(hd:o.data=.seq ds n):FunD K x qual st f (PySem.W.fnOf x qual (cW st) (bL st) (ak st) (.ref T) kV doc pm an cdv ct) ds:=⟨⟨oc,od,T,kV,doc,pm,an,cdv,ct,osl,o,n,rfl,l,c,t,hd⟩⟩
theorem FunG.okA(F:FunG K x qual st f fd)(S:FnScope N ps (ak st))
  (hbody:∀(cdv:Value)(A:Around)(outer:List Env)(s:Shared)(H:Hp)(vs:List V)(Q:VK)(E:XK),Room k (A.deeper (envOfC qual (ak st) s.heap.objs.size f cdv))->sp vs H Q E->
   ∃t,PSs (cxOf CX0 P w K mg base N qual (ak st) f cdv A outer s H E).nox (bL st) t/\t {nx:=λ_ H'=>Q .non H',rt:=Q} (fu N vs) H)(len:∀vs H Q E,sp vs H Q E->vs.length=ps.length:=by intro _ _ _ _ h;cases h;subst_vars;rfl):FnOk P w K mg base CX0 (k+1) f fd ps sp:=by
 obtain⟨oc,od,dV,kV,doc,pm,an,cdv,ct,osl,rfl,lk,hcd⟩:=F;refine fn_of lk hcd S len λA outer s H vs Q E hr hsp=>?_;obtain⟨t,h,q⟩:=hbody cdv A outer s H vs Q E hr hsp;exact⟨t,h.nox,q⟩
noncomputable def IDe(K:W.Frag)(C:Addr)(qual:Str)(st:Stmt)(ps:List Str)(dvss:List (List V)):Prop:=∃f fd,FunG K "__init__" qual st f fd/\Mk K C f/\∀dvs∈dvss,∃es,Vals dvs es/\Binds K fd ps es
theorem IDe.okA(F:IDe K C qual st ps dvss)(S:FnScope N ps (ak st))
  (hbody:∀(f:Addr)(cdv:Value)(A:Around)(outer:List Env)(s:Shared)(H:Hp)(vs:List V)(Q:VK)(E:XK),Room k (A.deeper (envOfC qual (ak st) s.heap.objs.size f cdv))->sp vs H Q E->
   ∃t,PSs (cxOf CX0 P w K mg base N qual (ak st) f cdv A outer s H E).nox (bL st) t/\t {nx:=λ_ H'=>Q .non H',rt:=Q} (fu N vs) H)(len:∀vs H Q E,sp vs H Q E->vs.length=ps.length:=by intro _ _ _ _ h;cases h;subst_vars;rfl):∀dvs∈dvss,MkB P w K mg base CX0 C (k+1) ps dvs sp:=λdvs hd=>
 let⟨f,fd,a,b,c⟩:=F
 let⟨es,v,d⟩:=c dvs hd
 ⟨f,fd,es,b,d,v,a.okA S (hbody f) len⟩
end
end L2
namespace L2
open PySem PySem.Spec PyProof.Rows PySem.W PySem.Calls
theorem weight_mem:∀(ns:List Int)(n:Int),n∈ns->Builtin.Int.intBits n<=WData.weightAll (ns.map WData.int)
 |m::r,n,h=>by
  rw[lv];show Builtin.Int.intBits n<=WData.weight (.int m)+1+WData.weightAll (r.map WData.int);rcases j3.mp h with z|z
  ·subst z
   have:WData.weight (.int n)=Builtin.Int.intBits n:=by
    simp only[WData.weight,Builtin.Int.intBits]
   omega
  ·have:=weight_mem r n z
   omega
theorem bits_of_lay{ns:List Int}(h:WData.layableAll [WData.list (ns.map WData.int)]=true):∀n∈ns,Builtin.Int.intBits n<=2^20:=λn hn=>by
 have h1:(WData.list (ns.map WData.int)).layable=true:=by
  unfold WData.layableAll at h;simpa using h
 have h2:=(layableW_iff.mp h1).2.2;have h3:=weight_mem ns n hn;exact jV h3 h2
theorem walk_ofB{l:PySem.W.OpenLaw}{XP:(Str->Option Value)->Heap->Prop}{K:Params->W.Frag}{CX:World->CXT}{sp:World->Sp}
  (hn:l.most=some n)(hn2:n<=sizeLine)(hdf:d.params.defaults=[])(hr:Room k callerA)
  (hY:∀(w:World)(h:Heap),YP w h->(K w.params).In h)
  (F:∀(w:World)(mg:Str->Option Value)(fa:Addr)(h:Heap),(K w.params).In h->h.Ns mainGlobals mg->mg d.name=some (.ref fa)->
   ∃fd:FuncData,(∀(s:Shared)(u:Value),BindsTo s fd ⟨[u],[]⟩ [(x,u)])/\
    ∀base:Heap,(K w.params).In base->base.Ns mainGlobals mg->FnOk l.prog w (K w.params) mg base (CX w) k fa fd [x] (sp w))
  (hsp:∀(w:World)(H:Hp)(a:Addr)(ns:List Int),ns.length<=n->(∀i∈ns,Builtin.Int.intBits i<=2^20)->Only H->SqL (K w.params) H a (ns.map V.int)->sp w [.ref a] H (λv _=>v=.bl true) λ_ _ _=>False)
  (hCX:∀(w:World)(H:Hp)(s:Shared)(e:Value)(s':Shared),CX w [] H s (λ_ _ _=>False) e s'->False):
  PySem.W.WalkO q loose XP YP l.row.toRowW d [] (λf vs=>PySem.call f vs):=by
 intro w s₀ s₁ mg mb G Y fa o pm cd doc dV kV ho hd hcd hD hmg hg args vals as hpre hlay hrd hwl hlo;obtain rfl:dV=.none:=Dflts.none hD hdf;obtain rfl:kV=.none:=Dflts.noKw hD;obtain⟨a,vs,ns,rfl,rfl,hobj,hints,hlen⟩:=Att.script_of hn hpre hwl;have hbits:=bits_of_lay hlay;have KX:=hY w _ Y;obtain⟨fd,hb,hF⟩:=F w mg fa _ KX G.T.g hmg;refine enter_call (codeAny_mono (law_call KX G.T.g G.T.b G.T.builtins G.T.nolimit hg hobj hints (jV hlen hn2) hr hF hb (λH hO hS=>hsp w H a ns hlen hbits hO hS) λH e s'=>hCX w H s₁ e s') λr s' hq=>?_);obtain⟨rfl,h2,h3,h4⟩:=hq;exact⟨.inl ⟨.bool true,.bool true,[],rfl,λ_=>rfl,.bool true,Att.post_true l _,λ_=>⟨List.Pairwise.nil,λ_ hm=>(nomatch hm)⟩⟩,h2,h3,h4⟩
section
variable{X:Cx}
theorem cS:OpR X (binaryOp .Mult) (rI IntMulOk λi j=>.int (i*j)):=opI λ_ _ _ _ _ _ _ hc q=>mul_int q hc
end
theorem mulOk_bits(h:Builtin.Int.intBits i+Builtin.Int.intBits j<=2^27):IntMulOk i j:=by
 have:Builtin.Int.intTooBig (Builtin.Int.intBits i+Builtin.Int.intBits j)=false:=by
  unfold Builtin.Int.intTooBig bitsLine;exact jY (by lia)
 unfold IntMulOk;rw[this];simp
end L2
namespace L2
open PySem PySem.Spec PyProof.Rows
section
variable{prog:Program}{w:World}{A:Around}{E:Value->Shared->Prop}{s:Shared}{K:W.Frag}{x D:Addr}{ox:Obj}{od:Option Obj}{name:Str}
structure ExA(K:W.Frag)(D:Addr):Prop where
 ga:PySem.W.findIn K (.ref D) "__getattribute__"=some (some (.builtin "BaseException.__getattribute__"))
 gh:PySem.W.findIn K (.ref D) "__getattr__"=some none
 be:PySem.W.mroIn K D (.type "BaseException")=some true
 ca:PySem.W.findIn K (.ref D) "__class__"=some (some (.builtin "object.__class__"))
 gs:PySem.W.specialIn K (.builtin "object.__class__") "__get__"=some (some (.builtin "getset_descriptor.__get__"))
 tk:PySem.W.takesIn K (.builtin "object.__class__")=some true
 ob:PySem.W.mroIn K D (.type "object")=some true
 cl:∃cd,PySem.W.clsIn K D=some cd
end
section
variable{X:Cx}
noncomputable def XAt(H:Hp)(x D:Addr):Prop:=H x=some (XO x D none)
noncomputable def eqVs:List V->List V->Bool
 |[],[]=>true
 |x::xs,y::ys=>eqV x y&&eqVs xs ys
 |_,_=>false
theorem eqVs_len:∀{xs ys:List V},xs.length≠ys.length->eqVs xs ys=false
 |[],[],h=>absurd rfl h
 |[],_::_,_=>rfl
 |_::_,[],_=>rfl
 |x::xs,y::ys,h=>by
  show(eqV x y&&eqVs xs ys)=false;rw[eqVs_len (λz=>h (kA (·+1) z)),Bool.and_false]
noncomputable def jB(xs ys:List V)(j:Nat):Bool:=match xs[j]?,ys[j]? with|some x,some y=>eqV x y|_,_=>true
theorem eqVs_all:∀{xs ys:List V},xs.length=ys.length->(List.range xs.length).all (jB xs ys)=eqVs xs ys
 |[],[],_=>rfl
 |x::xs,y::ys,h=>by
  rw[kz,List.range_succ_eq_map,List.all_cons,List.all_map];show(eqV x y&&_)=(eqV x y&&eqVs xs ys);rw[<-eqVs_all (Nat.succ.inj h)];rfl
theorem cG(r:Vals xs us):∀{j:Nat}{x:V}{u:Value},xs[j]?=some x->us[j]?=some u->RelV x u:=by
 induction r with
 |nil=>intro j x u h;cases h
 |cons r1 _ ih=>
  intro j x u h1 h2
  cases j with
  |zero=>cases h1;cases h2;exact r1
  |succ j=>exact ih h1 h2
inductive IrEqL(K:W.Frag)(x:V)(y:V)(H:Hp)(Q:VK):Prop
 |mk(p:_)(q:_)(xs:_)(ys:_)(h1:x=.ref p)(h2:y=.ref q)(h3:SqL K H p xs)(h4:SqL K H q ys)(h5:xs.all cU=true)(h6:ys.all cU=true)(h7:Q (.bl (eqVs xs ys)) H):IrEqL K x y H Q
noncomputable def rEqL(K:W.Frag):R2:=λx y H Q=>IrEqL K x y H Q
theorem op_eqL(hu:X.A.units<cLine):OpR X (compareOp .Eq) (rEqL X.K):=by
 intro pins s σ H x y v u Q I rx ry h;obtain⟨p,q,xs,ys,rfl,rfl,hp,hq,fx,fy,k⟩:=h
 cases rx
 cases ry;obtain⟨us,r,pl,hz⟩:=I.list hp;obtain⟨ws,r',pl',hz'⟩:=I.list hq;have e1:=r.length;have e2:=r'.length;by_cases hl:xs.length=ys.length
 ·refine SeqAt.eq_listAt (e:=jB xs ys) pl.isList pl'.isList (by simp;lia) hu (λj h1 h2=>?_) ⟨.bl _,H,I,rfl,?_⟩
  ·have j1:j<us.length:=by simpa using h1
   have j2:j<ws.length:=by simpa using h2
   have g1:xs[j]?=some (xs[j]'(by lia)):=jH _;have g2:ys[j]?=some (ys[j]'(by lia)):=jH _;have g3:us[j]?=some us[j]:=jH _;have g4:ws[j]?=some ws[j]:=jH _
   have:jB xs ys j=eqV (xs[j]'(by lia)) (ys[j]'(by lia)):=by unfold jB;rw[g1,g2]
   rw[this];simp only[kY];exact eqAt_V (cG r g1 g3) (cG r' g2 g4) (List.all_eq_true.mp fx _ (List.getElem_mem _)) (List.all_eq_true.mp fy _ (List.getElem_mem _))
  ·rw[j5,<-e1,eqVs_all hl];exact k
 ·refine SeqAt.eq_list_lengthsAt pl.isList pl'.isList (by simp;lia) hu ⟨.bl _,H,I,rfl,?_⟩;rw[<-eqVs_len hl];exact k
end
inductive ItMethD(P:Program)(w:World)(K:W.Frag)(mg:Str->Option Value)(base:Heap)(CX:CXT)(m:Str)(j:Nat)(E:XK)(t:TA)(σ:St)(Q:VK)(x:V)(H1:Hp):Prop
 |mk(a:_)(C:_)(dx:_)(fs:_)(k:_)(ps:_)(sp:_)(h1:x=.ref a)(h2:H1 a=some (.ins C dx fs))(h3:fs.lookup m=none)(h4:Cls K C)(h5:k<=j)(h6:MtB P w K mg base CX C m k ps sp)(h7:t σ H1 λvs H2=>sp ((.ref a::vs)++[]) H2 Q E):ItMethD P w K mg base CX m j E t σ Q x H1
noncomputable def tMethD(P:Program)(w:World)(K:W.Frag)(mg:Str->Option Value)(base:Heap)(CX:CXT)(m:Str)(j:Nat)(E:XK)(ta:TE)(t:TA):TE:=λσ H Q=>ta σ H λx H1=>ItMethD P w K mg base CX m j E t σ Q x H1
structure ClsRd(K:W.Frag)(C:Addr):Prop where
 rd:PySem.W.readsIn K C (.type "type")=true
 sg:PySem.W.specialIn K (.ref C) "__getattribute__"=some (some (.builtin "type.__getattribute__"))
noncomputable def CfB(P:Program)(w:World)(K:W.Frag)(mg:Str->Option Value)(base:Heap)(CX:CXT)(C:Addr)(m:Str)(k:Nat)(ps:List Str)(sp:Sp):Prop:=
 ∃f fd,ClsRd K C/\PySem.W.findCls K (.ref C) (.type "type") m=some (.val (.ref f))/\PySem.W.keepIn K (.ref f)=true/\Binds K fd ps []/\FnOk P w K mg base CX k f fd ps sp
section
variable{X:Cx}{CX:CXT}{k j:Nat}{C:Addr}{ps:List Str}{sp:Sp}{E:XK}{x m:Str}{p pos apos:Pos}{e o:Expr}{es:List Expr}{ta:TE}{t:TA}
theorem cJ(he:PE X o ta)(hr:Room j X.A)(hx:cY CX X E)(ha:PA X (e::es) t)
  (hst:starEach (e::es) X.env=(false,eval e X.env)::starEach es X.env:=by rfl)(hpl:(backTo pos (starEach es X.env)).any (·.1)=false:=by rfl)
  (ht:eval (.Call (.Attribute o m apos) (e::es) [] pos) X.env=(do
   let ov<-eval o X.env
   standAt apos.atName
   let(f,first)<-holding [ov] (getMethod ov m pl)
   callWith pos f first (backTo pos (starEach (e::es) X.env)) (backToKw pos (keywordEach [] X.env))):=by rfl):PE X (.Call (.Attribute o m apos) (e::es) [] pos) (tMethD X.prog X.w X.K X.mg X.base CX m j E ta t):=by
 intro pins s σ H Q I h;refine PySem.W.methodCall_KW (pl:=pl) (thn (he pins s σ H _ I h) λu s1⟨x,H1,I1,rx,a,C,dx,fs,k,ps,sp,ex,ea,l,c,hj,⟨f,fd,hm,hb,F⟩,q⟩=>?_) ht;subst ex;obtain rfl:u=Value.ref a:=rx;refine gD I1 ea c hm l ?_;refine PySem.W.callWith_K (first:=[.ref a]) (h₀:=X.base) I.ok.mod.kin hm.kp (thn (ha pos pins s1 σ H1 _ I1 q) λus s2⟨vs,H2,I2,r,q2⟩=>⟨I2.kIn,?_⟩) hst hpl;exact run_fn (us:=.ref a::us) (vs:=.ref a::vs) F (hr.mono hj) hb .nil hx I2 (.cons rfl r) q2
theorem pe_mtD0(he:PE X o ta)(hr:Room j X.A)(hx:cY CX X E)
  (ht:eval (.Call (.Attribute o m apos) [] [] pos) X.env=(do
   let ov<-eval o X.env
   standAt apos.atName
   let(f,first)<-holding [ov] (getMethod ov m pl)
   callWith pos f first (backTo pos (starEach [] X.env)) (backToKw pos (keywordEach [] X.env))):=by rfl):PE X (.Call (.Attribute o m apos) [] [] pos) (tMethD X.prog X.w X.K X.mg X.base CX m j E ta tNil):=by
 intro pins s σ H Q I h;refine PySem.W.methodCall_KW (pl:=pl) (thn (he pins s σ H _ I h) λu s1⟨x,H1,I1,rx,a,C,dx,fs,k,ps,sp,ex,ea,l,c,hj,⟨f,fd,hm,hb,F⟩,q⟩=>?_) ht;subst ex;obtain rfl:u=Value.ref a:=rx;refine gD I1 ea c hm l ?_;exact PySem.W.callWith_K0 (first:=[.ref a]) I1.kIn hm.kp (run_fn (us:=[.ref a]) (vs:=[.ref a]) F (hr.mono hj) hb .nil hx I1 (.cons rfl .nil) q)
theorem pe_cf(F:CfB X.prog X.w X.K X.mg X.base CX C m k ps sp)(hr:Room j X.A)(hm:X.mg x=some (.ref C))(hx:cY CX X E)(ha:PA X (e::es) t)(hj:k<=j:=by decide)(hg:Gl X x:=by rfl)(hdb:(x==("__debug__":Str))=false:=by decide)
  (hst:starEach (e::es) X.env=(false,eval e X.env)::starEach es X.env:=by rfl)(hpl:(backTo pos (starEach es X.env)).any (·.1)=false:=by rfl)
  (ht:eval (.Call (.Attribute (.Name x np) m apos) (e::es) [] pos) X.env=(do
   let ov<-eval (.Name x np) X.env
   standAt apos.atName
   let(f,first)<-holding [ov] (getMethod ov m pl)
   callWith pos f first (backTo pos (starEach (e::es) X.env)) (backToKw pos (keywordEach [] X.env))):=by rfl):PE X (.Call (.Attribute (.Name x np) m apos) (e::es) [] pos) (tCall sp [] E t):=by
 intro pins s σ H Q I h;obtain⟨f,fd,c,hf,hk,hb,F⟩:=F;refine PySem.W.methodCall_KW (pl:=pl) (jx I hg hm ?_ hdb) ht;refine PySem.W.method_cls I.kIn c.sg (PySem.W.cls_value I.kIn c.rd hf rfl ?_);have I1:=I.tok (s.toks+1);refine PySem.W.callWith_K (first:=[]) (h₀:=X.base) I.ok.mod.kin hk (thn (ha pos pins _ σ H _ I1 h) λus s2⟨vs,H2,I2,r,q2⟩=>⟨I2.kIn,?_⟩) hst hpl;exact run_fn (us:=us) (vs:=vs) F (hr.mono hj) hb .nil hx I2 r q2
noncomputable def rRepS:R2:=λx y H Q=>∃z n,x=.str z/\y=.int n/\z.length=1/\n.natAbs<1000/\Q (.str (Txt.mul z n)) H
theorem op_rep_str:OpR X (binaryOp .Mult) rRepS:=by
 intro pins s σ H x y v u Q I rx ry h;obtain⟨z,n,rfl,rfl,hz,hn,q⟩:=h;obtain⟨t,rfl⟩:=rx;obtain⟨t',rfl⟩:=ry;refine SB.mul ⟨?_,λh1 _=>?_,λh1 _=>?_⟩ λt' tk=>⟨.str _,H,I.tok _,⟨_,rfl⟩,q⟩
 ·simp;omega
 ·rw[hz]
  have:(1:Int)<=(2^63-1)/n:=Int.le_ediv_of_mul_le (by omega) (by omega)
  omega
 ·rw[hz];unfold Builtin.Str.tooLong;simp only[PySem.sizeLine_eq,gt_iff_lt,decide_eq_false_iff_not];omega
end
section
variable{P:Program}{w:World}{K:W.Frag}{mg:Str->Option Value}{base:Heap}{x qual:Str}{C:Addr}{st:Stmt}{N ps:List Str}{k:Nat}{sp:Sp}
noncomputable def CDe(K:W.Frag)(C:Addr)(qual:Str)(st:Stmt)(ps:List Str):Prop:=∃f fd,FunG K "__init__" qual st f fd/\ClsRd K C/\PySem.W.findCls K (.ref C) (.type "type") "__init__"=some (.val (.ref f))/\PySem.W.keepIn K (.ref f)=true/\Binds K fd ps []
theorem CDe.okA(F:CDe K C qual st ps)(S:FnScope N ps (ak st))
  (hbody:∀(f:Addr)(cdv:Value)(A:Around)(outer:List Env)(s:Shared)(H:Hp)(vs:List V)(Q:VK)(E:XK),Room k (A.deeper (envOfC qual (ak st) s.heap.objs.size f cdv))->sp vs H Q E->
   ∃t,PSs (cxOf CX0 P w K mg base N qual (ak st) f cdv A outer s H E).nox (bL st) t/\t {nx:=λ_ H'=>Q .non H',rt:=Q} (fu N vs) H)(len:∀vs H Q E,sp vs H Q E->vs.length=ps.length:=by intro _ _ _ _ h;cases h;subst_vars;rfl):CfB P w K mg base CX0 C "__init__" (k+1) ps sp:=
 let⟨f,fd,a,b,c,d,e⟩:=F
 ⟨f,fd,b,c,d,e,a.okA S (hbody f) len⟩
end
noncomputable def BodyOk(P:Program)(w:World)(K:W.Frag)(mg:Str->Option Value)(base:Heap)(qual:Str)(st:Stmt)(N:List Str)(k:Nat)(sp:Sp):Prop:=
 ∀(f:Addr)(cdv:Value)(A:Around)(outer:List Env)(s:Shared)(H:Hp)(vs:List V)(Q:VK)(E:XK),Room k (A.deeper (envOfC qual (ak st) s.heap.objs.size f cdv))->sp vs H Q E->
  ∃t,PSs (cxOf CX0 P w K mg base N qual (ak st) f cdv A outer s H E).nox (bL st) t/\t {nx:=λ_ H'=>Q .non H',rt:=Q} (fu N vs) H
section
variable{X:Cx}
theorem isPart_of(h:IsPart v i):∃l:Option (Int×Tok),v=partValue l/\l.map (·.1)=i:=by
 cases h with
 |none=>exact⟨none,rfl,rfl⟩
 |int i t=>exact⟨some (i,t),rfl,rfl⟩
noncomputable def rSlS:V->Option Int->Option Int->Hp->VK->Prop:=λx lo hi H Q=>∃z,x=.str z/\z.length<=sizeLine/\Q (.str (Txt.slice z lo hi)) H
theorem sl_str:SlR X rSlS:=by
 intro pins s σ H x v vl vu lo hi sl Q I rx hs pl pu h;obtain⟨z,rfl,hz,q⟩:=h;obtain⟨t,rfl⟩:=rx;obtain⟨l,rfl,rfl⟩:=isPart_of pl;obtain⟨u,rfl,rfl⟩:=isPart_of pu;obtain⟨o,ho,hc,hd⟩:=hs
 exact⟨"str",_,F.slot_str_getitem.lookup,typeIs_str _ _ _,wpAny_getItem_str_slice (l:=l) (u:=u) (st:=none) ⟨o,ho,hc,hd⟩ rfl
  (post_val_or_str ⟨jV (Txt.slice_le z _ _) hz,λt' k=>⟨.str (Txt.slice z (l.map (·.1)) (u.map (·.1))),H,I.tok k,⟨t',rfl⟩,q⟩⟩)⟩
theorem pe_gi(h:∃tk,X.mg x=some (.int i tk))(hg:Gl X x:=by rfl)(hd:(x==("__debug__":Str))=false:=by decide):PE X (.Name x pos) (tC (.int i)):=by
 obtain⟨tk,h⟩:=h;exact pe_glob hg h ⟨tk,rfl⟩ hd
inductive IrEqN(K:W.Frag)(x:V)(y:V)(H:Hp)(Q:VK):Prop
 |mk(p:_)(q:_)(xs:_)(h1:x=.ref p)(h2:y=.ref q)(h3:SqL K H p xs)(h4:SqL K H q [])(h5:Q (.bl xs.isEmpty) H):IrEqN K x y H Q
noncomputable def rEqN(K:W.Frag):R2:=λx y H Q=>IrEqN K x y H Q
inductive IrNeN(K:W.Frag)(x:V)(y:V)(H:Hp)(Q:VK):Prop
 |mk(p:_)(q:_)(xs:_)(h1:x=.ref p)(h2:y=.ref q)(h3:SqL K H p xs)(h4:SqL K H q [])(h5:Q (.bl (!xs.isEmpty)) H):IrNeN K x y H Q
noncomputable def rNeN(K:W.Frag):R2:=λx y H Q=>IrNeN K x y H Q
theorem iV(hu:X.A.units<cLine):OpR X (compareOp .Eq) (rEqN X.K):=by
 intro pins s σ H x y v u Q I rx ry h;obtain⟨p,q,xs,rfl,rfl,hp,hq,k⟩:=h
 cases rx
 cases ry;obtain⟨us,r,pl,hz⟩:=I.list hp;obtain⟨ws,r',pl',hz'⟩:=I.list hq
 cases r'
 cases r with
 |nil=>exact SeqAt.eq_listAt (e:=λ_=>true) pl.isList pl'.isList rfl hu (λj h1 _=>absurd h1 (by simp)) ⟨.bl true,H,I,rfl,k⟩
 |cons=>exact SeqAt.eq_list_lengthsAt pl.isList pl'.isList (by simp) hu ⟨.bl false,H,I,rfl,k⟩
theorem g9(hu:X.A.units<cLine):OpR X (compareOp .NotEq) (rNeN X.K):=by
 intro pins s σ H x y v u Q I rx ry h;obtain⟨p,q,xs,rfl,rfl,hp,hq,k⟩:=h
 cases rx
 cases ry;obtain⟨us,r,pl,hz⟩:=I.list hp;obtain⟨ws,r',pl',hz'⟩:=I.list hq
 cases r'
 cases r with
 |nil=>exact SeqAt.RcNeAt.lists (e:=λ_=>true) pl.isList pl'.isList rfl hu (λj h1 _=>absurd h1 (by simp)) X.prog X.w X.xe _ ⟨.bl false,H,I,rfl,k⟩
 |cons=>exact SeqAt.RcNeAt.lists_lengths pl.isList pl'.isList (by simp) hu X.prog X.w X.xe _ ⟨.bl true,H,I,rfl,k⟩
theorem pe_fldK{K:W.Frag}(hK:X.K=K)(h:PE X o ta)(hb:attributeBase o f X.env (eval o X.env)=eval o X.env):PE X (.Attribute o f pos) (tFld K ta f):=by
 subst hK;exact aH h hb
end
section
variable{κ:Type}[DecidableEq κ]
noncomputable def bI(kvs:List (κ×V))(k:κ):Option V:=(kvs.find? λkv=>decide (kv.1=k)).map (·.2)
noncomputable def bv(kvs:List (κ×V))(k:κ)(v:V):List (κ×V):=
 if(kvs.any λkv=>decide (kv.1=k))=true then kvs.map (λkv=>if kv.1=k then(kv.1,v)else kv)else kvs++[(k,v)]
noncomputable def dropK(kvs:List (κ×V))(k:κ):List (κ×V):=kvs.filter λkv=>decide (kv.1≠k)
theorem bZ{k:κ}(e:p.1=k):bI (p::r) k=some p.2:=by simp[bI,List.find?_cons,e]
theorem b5{k:κ}(e:¬p.1=k):bI (p::r) k=bI r k:=by simp[bI,List.find?_cons,e]
theorem dk(k:κ):∀kvs:List (κ×V),(kvs.any λkv=>decide (kv.1=k))=(bI kvs k).isSome
 |[]=>rfl
 |p::r=>by
  rw[List.any_cons];by_cases e:p.1=k
  ·simp only[bZ e,j6 e,Bool.true_or,Option.isSome_some]
  ·rw[b5 e,jY e,Bool.false_or];exact dk k r
theorem valV_map(k j:κ)(y:V):∀kvs:List (κ×V),bI (kvs.map λkv=>if kv.1=k then(kv.1,y) else kv) j=(bI kvs j).map λx=>if j=k then y else x
 |[]=>rfl
 |p::r=>by
  have ih:=valV_map k j y r;rw[lv];by_cases h:p.1=k
  ·rw[if_pos h];by_cases e:p.1=j
   ·rw[bZ (p:=(p.1,y)) e,bZ e,kU,if_pos (e.symm.trans h)]
   ·rw[b5 (p:=(p.1,y)) e,b5 e,ih]
  ·rw[if_neg h];by_cases e:p.1=j
   ·rw[bZ (p:=p) e,bZ e,kU,if_neg (λz=>h (e.trans z))]
   ·rw[b5 (p:=p) e,b5 e,ih]
theorem valV_snoc(k j:κ)(y:V):∀kvs:List (κ×V),bI kvs k=none->bI (kvs++[(k,y)]) j=if j=k then some y else bI kvs j
 |[],_=>by
  by_cases e:k=j
  ·rw[if_pos e.symm];exact bZ (p:=(k,y)) e
  ·rw[if_neg (λz=>e z.symm)];exact b5 (p:=(k,y)) e
 |p::r,hn=>by
  rw[List.cons_append];have hk:¬p.1=k:=λz=>by rw[bZ z]at hn;cases hn
  rw[b5 hk]at hn;have ih:=valV_snoc k j y r hn;by_cases e:p.1=j
  ·rw[bZ e,bZ e,if_neg (λz=>hk (e.trans z))]
  ·rw[b5 e,b5 e,ih]
theorem valV_put(kvs:List (κ×V))(k j:κ)(y:V):bI (bv kvs k y) j=if j=k then some y else bI kvs j:=by
 unfold bv;by_cases a:(kvs.any λkv=>decide (kv.1=k))=true
 ·rw[if_pos a,valV_map];rw[dk]at a;by_cases e:j=k
  ·obtain⟨x,hx⟩:=Option.isSome_iff_exists.mp a;rw[if_pos e,e,hx,kU,if_pos rfl]
  ·rw[if_neg e]
   cases bI kvs j with
   |none=>rfl
   |some x=>rw[kU,if_neg e]
 ·rw[if_neg a];refine valV_snoc k j y kvs ?_;rw[dk]at a
  cases q:bI kvs k with
  |none=>rfl
  |some x=>rw[q]at a;exact(a rfl).elim
theorem hV(kvs:List (κ×V))(k:κ)(v:V):(bv kvs k v).length<=kvs.length+1:=by
 unfold bv
 split
 ·rw[jF];lia
 ·rw[jO,kz,List.length_nil];lia
theorem f9{k:κ}(v:V)(h:bI kvs k=none):bv kvs k v=kvs++[(k,v)]:=by
 unfold bv;rw[dk,h];exact if_neg (by decide)
theorem RelO.isSome_eq(r:RelO o u):o.isSome=u.isSome:=by
 cases o with
 |none=>cases u with
  |none=>rfl
  |some _=>exact(show False from r).elim
 |some _=>cases u with
  |none=>exact(show False from r).elim
  |some _=>rfl
theorem RelO.getD(r:RelO o u)(rd:RelV d d'):RelV (o.getD d) (u.getD d'):=by
 cases o with
 |none=>cases u with
  |none=>exact rd
  |some _=>exact(show False from r).elim
 |some _=>cases u with
  |none=>exact(show False from r).elim
  |some _=>exact r
theorem KV.val(r:KV kvs vs)(k:κ):RelO (bI kvs k) (valueAt vs k):=by
 unfold KV at r
 induction r with
 |nil=>exact True.intro
 |@cons p q ps qs h t ih=>
  obtain⟨h1,h2⟩:=h;by_cases e:p.1=k
  ·have e':q.1=k:=h1.symm.trans e;have b:valueAt (q::qs) k=some q.2:=by simp[valueAt,List.find?_cons,e']
   rw[bZ e,b];exact h2
  ·have e':¬q.1=k:=λz=>e (h1.trans z);have b:valueAt (q::qs) k=valueAt qs k:=by simp[valueAt,List.find?_cons,e']
   rw[b5 e,b];exact ih
theorem KV.any(r:KV kvs vs)(k:κ):(kvs.any λkv=>decide (kv.1=k))=vs.any λkv=>decide (kv.1=k):=by
 unfold KV at r
 induction r with
 |nil=>rfl
 |cons h t ih=>rw[List.any_cons,List.any_cons,ih,h.1]
theorem KV.repl(r:KV kvs vs)(k:κ)(ry:RelV y u):
  KV (kvs.map λkv=>if kv.1=k then(kv.1,y)else kv) (vs.map λkv=>if kv.1=k then(kv.1,u)else kv):=by
 unfold KV at r⊢
 induction r with
 |nil=>exact .nil
 |@cons p q ps qs h t ih=>
  rw[lv,lv];refine .cons ?_ ih;obtain⟨h1,h2⟩:=h;by_cases e:p.1=k
  ·rw[if_pos e,if_pos (h1.symm.trans e)];exact⟨h1,ry⟩
  ·rw[if_neg e,if_neg (λz=>e (h1.trans z))];exact⟨h1,h2⟩
theorem KV.put(r:KV kvs vs)(k:κ)(ry:RelV y u):KV (bv kvs k y) (stored vs k u):=by
 unfold bv stored;rw[r.any k];by_cases e:(vs.any λkv=>decide (kv.1=k))=true
 ·rw[if_pos e,if_pos e];exact r.repl k ry
 ·rw[if_neg e,if_neg e];exact Paired.snoc r ⟨rfl,ry⟩
theorem KV.length{vs:List (κ×Value)}(r:KV kvs vs):kvs.length=vs.length:=Paired.length r
end
theorem kV_is(r:RelV (kV k) u):(bt P w).is k u=true:=by
 cases k with
 |inl i=>obtain⟨t,e⟩:=(show∃t,u=Value.int i t from r);subst e;exact mixKind_int P w i t
 |inr x=>obtain⟨t,e⟩:=(show∃t,u=Value.str x t from r);subst e;exact mixKind_str P w x t
theorem kV_inj(e:kV a=kV b):a=b:=by
 cases a with
 |inl i=>cases b with
  |inl j=>have e':V.int i=V.int j:=e;injection e' with e';rw[e']
  |inr y=>exact nomatch(show V.int i=V.str y from e)
 |inr x=>cases b with
  |inl j=>exact nomatch(show V.str x=V.int j from e)
  |inr y=>have e':V.str x=V.str y:=e;injection e' with e';rw[e']
theorem items_are:∀{ks:List Key}{us:List Value},Vals (ks.map kV) us->ItemsAre (bt P w) ks us
 |[],_,r=>by rw[l9]at r;cases r;exact .nil
 |k::ks,_,r=>by
  rw[lv]at r
  cases r with
  |cons h t=>exact .cons (kV_is h) (items_are t)
noncomputable abbrev KT(H:Hp):List (List Key×V)->List (List Key×Addr×Value)->Prop:=Paired λp q=>p.1=q.1/\H q.2.1=some (.tup (p.1.map kV))/\RelV p.2 q.2.2
theorem KT.val(r:KT H kvs xs)(k:List Key):RelO (bI kvs k) ((atKey xs k).map (·.2)):=by
 induction r with
 |nil=>exact True.intro
 |@cons p q ps qs h t ih=>
  obtain⟨h1,_,h2⟩:=h;by_cases e:p.1=k
  ·have e':q.1=k:=h1.symm.trans e;have b:atKey (q::qs) k=some q.2:=by simp[atKey,List.find?_cons,e']
   rw[bZ e,b];exact h2
  ·have e':¬q.1=k:=λz=>e (h1.trans z);have b:atKey (q::qs) k=atKey qs k:=by simp[atKey,List.find?_cons,e']
   rw[b5 e,b];exact ih
theorem KT.repl(r:KT H kvs xs)(k:List Key)(ry:RelV y u):
  KT H (kvs.map λkv=>if kv.1=k then(kv.1,y)else kv) (xs.map (putAt k u)):=by
 induction r with
 |nil=>exact .nil
 |@cons p q ps qs h t ih=>
  rw[lv,lv];refine .cons ?_ ih;obtain⟨h1,h2,h3⟩:=h;unfold putAt;by_cases e:p.1=k
  ·rw[if_pos e,if_pos (h1.symm.trans e)];exact⟨h1,h2,ry⟩
  ·rw[if_neg e,if_neg (λz=>e (h1.trans z))];exact⟨h1,h2,h3⟩
theorem KT.put(r:KT H kvs xs)(k:List Key)(hb:H b=some (.tup (k.map kV)))(ry:RelV y u):
  KT H (bv kvs k y) (storedH xs k b u):=by
 have e:(kvs.any λkv=>decide (kv.1=k))=(atKey xs k).isSome:=by
  rw[dk,(r.val k).isSome_eq,Option.isSome_map]
 unfold bv storedH;rw[e];by_cases q:(atKey xs k).isSome=true
 ·rw[if_pos q,if_pos q];exact r.repl k ry
 ·rw[if_neg q,if_neg q];exact Paired.snoc r ⟨rfl,hb,ry⟩
theorem KT.keeps(r:KT H kvs xs)(ht:∀b ys,H b=some (.tup ys)->H' b=some (.tup ys)):KT H' kvs xs:=
 Paired.mapP r λ_ _ z=>⟨z.1,ht _ _ z.2.1,z.2.2⟩
section
variable{P:Program}{w:World}{H:Hp}{h:Heap}{a:Addr}
theorem rd_of(ok:HOk P w H h)(e:Rd H a u):ObjOk P w H h a u:=e.ok ok
theorem gR(ok:HOk P w H h)(e:Rd H a (.dK kvs)):kvs.length<=sizeLine/\(a==sysModules)=false/\∃vs,KV kvs vs/\h.DictOf (bt P w) a vs:=
 show ObjOk P w H h a (.dK kvs) from rd_of ok e
theorem dk_of(ok:HOk P w H h)(e:H a=some (.dK kvs)):kvs.length<=sizeLine/\(a==sysModules)=false/\∃vs,KV kvs vs/\h.DictOf (bt P w) a vs:=gR ok (.inl e)
theorem key_of(ok:HOk P w H h)(e:H a=some (.tup (ks.map kV))):(tupleKind (bt P w)).is h ks a:=by
 obtain⟨_,its,r,o,h1,h2,n,h3⟩:=(show ObjOk P w H h a (.tup (ks.map kV))from ok a _ e);exact⟨o,its.toArray,n,h1,h2,h3,by simpa using items_are r⟩
theorem dt_rd(ok:HOk P w H h)(e:Rd H a (.dT kvs)):kvs.length<=sizeLine/\(a==sysModules)=false/\
  ∃xs,KT H kvs xs/\h.DictOfH (tupleKind (bt P w)) a xs:=by
 obtain⟨z,y,xs,r,o,es,ep,h1,h2,h3,h4,h5⟩:=(show ObjOk P w H h a (.dT kvs)from rd_of ok e);refine⟨z,y,xs,r,o,es,ep,h1,h2,h3,h4,λx hx=>?_,h5⟩
 have all:∀{l:List (List Key×V)}{m:List (List Key×Addr×Value)},KT H l m->∀x∈m,(tupleKind (bt P w)).is h x.1 x.2.1:=by
  intro l m q
  induction q with
  |nil=>intro x hx;exact nomatch hx
  |@cons p q ps qs hq t ih=>
   intro x hx;rcases j3.mp hx with e|hx
   ·subst e;exact key_of ok (by rw[<-hq.1];exact hq.2.1)
   ·exact ih x hx
 exact all r x hx
theorem dt_of(ok:HOk P w H h)(e:H a=some (.dT kvs)):kvs.length<=sizeLine/\(a==sysModules)=false/\
  ∃xs,KT H kvs xs/\h.DictOfH (tupleKind (bt P w)) a xs:=dt_rd ok (.inl e)
end
noncomputable def DGet(H:Hp)(a:Addr)(y:V)(r:Option V):Prop:=
 (∃kvs k,Rd H a (.dK kvs)/\y=kV k/\r=bI kvs k)∨∃kvs k b,Rd H a (.dT kvs)/\y=.ref b/\H b=some (.tup (k.map kV))/\r=bI kvs k
noncomputable def DPut(H:Hp)(a:Addr)(y v:V)(H':Hp):Prop:=
 (∃kvs k,H a=some (.dK kvs)/\y=kV k/\kvs.length<sizeLine/\H'=upd H a (.dK (bv kvs k v)))∨
 ∃kvs k b,H a=some (.dT kvs)/\y=.ref b/\H b=some (.tup (k.map kV))/\kvs.length<sizeLine/\H'=upd H a (.dT (bv kvs k v))
theorem DGet.k{k:Key}(e:H a=some (.dK kvs)):DGet H a (kV k) (bI kvs k):=.inl ⟨kvs,k,.inl e,rfl,rfl⟩
theorem DPut.k{k:Key}(e:H a=some (.dK kvs))(hl:kvs.length<sizeLine):DPut H a (kV k) v (upd H a (.dK (bv kvs k v))):=.inl ⟨kvs,k,e,rfl,hl,rfl⟩
section
variable{X:Cx}{pins:List (Addr×Obj)}{σ:St}{H:Hp}{s:Shared}{a:Addr}{y v:V}{u r:Value}{o:Option V}{A:Around}{E:Value->Shared->Prop}
theorem Inv.big(I:Inv X pins σ H s):sysModules<s.heap.objs.size:=by
 have h:mainGlobals<s.heap.objs.size:=(I.mod.glob.keeps I.bk).lt;exact Nat.lt_trans (by decide) h
theorem d_getItem(hu:A.units+1<cLine)(I:Inv X pins σ H s)(g:DGet H a y (some v))(ry:RelV y u)(h:∀w' s',Inv X pins σ H s'->RelV v w'->Q w' s'):
  wpAny (model X.prog X.w) A (getItem (.ref a) u) Q E s:=by
 rcases g with⟨kvs,k,e,ey,l⟩|⟨kvs,k,b,e,ey,eb,l⟩
 ·subst ey;obtain⟨z,hd,vs,rel,dd⟩:=gR I.hok e;obtain⟨w',hw,rw'⟩:=RelO.some_of (v:=v) (o:=valueAt vs k) (by rw[l];exact rel.val k);exact wpAny_getItem_of (kV_is ry) dd.mapOf hw (h w' _ (I.tok _) rw')
 ·subst ey
  cases(show u=Value.ref b from ry);obtain⟨z,hd,xs,rel,dd⟩:=dt_rd I.hok e;obtain⟨w',hw,rw'⟩:=RelO.some_of (v:=v) (o:=(atKey xs k).map (·.2)) (by rw[l];exact rel.val k);obtain⟨p,hp,hp2⟩:=lH.mp hw;refine wpAny_getItem_heap (tupleKind_room_in1 hu) (key_of I.hok eb) dd hp ?_;rw[hp2];exact h w' _ (I.tok _) rw'
theorem d_in(hu:A.units+1<cLine)(I:Inv X pins σ H s)(g:DGet H a y o)(ry:RelV y u)(h:∀s',Inv X pins σ H s'->Q (.bool o.isSome) s'):
  wpAny (model X.prog X.w) A (compareOp .In u (.ref a)) Q E s:=by
 rcases g with⟨kvs,k,e,ey,l⟩|⟨kvs,k,b,e,ey,eb,l⟩
 ·subst ey;obtain⟨z,hd,vs,rel,dd⟩:=gR I.hok e;refine wpAny_in_of (kV_is ry) hd dd.mapOf ?_;rw[<-(rel.val k).isSome_eq,<-l];exact h _ (I.tok _)
 ·subst ey
  cases(show u=Value.ref b from ry);obtain⟨z,hd,xs,rel,dd⟩:=dt_rd I.hok e;refine wpAny_in_heap (tupleKind_room_in1 hu) (key_of I.hok eb) hd dd ?_;have q:=(rel.val k).isSome_eq;rw[Option.isSome_map]at q;rw[<-q,<-l];exact h _ (I.tok _)
theorem d_notIn(hu:A.units+1<cLine)(I:Inv X pins σ H s)(g:DGet H a y o)(ry:RelV y u)(h:∀s',Inv X pins σ H s'->Q (.bool (!o.isSome)) s'):
  wpAny (model X.prog X.w) A (compareOp .NotIn u (.ref a)) Q E s:=by
 rcases g with⟨kvs,k,e,ey,l⟩|⟨kvs,k,b,e,ey,eb,l⟩
 ·subst ey;obtain⟨z,hd,vs,rel,dd⟩:=gR I.hok e;refine wpAny_notIn_of (kV_is ry) hd dd.mapOf ?_;rw[<-(rel.val k).isSome_eq,<-l];exact h _ (I.tok _)
 ·subst ey
  cases(show u=Value.ref b from ry);obtain⟨z,hd,xs,rel,dd⟩:=dt_rd I.hok e;refine wpAny_notIn_heap (tupleKind_room_in1 hu) (key_of I.hok eb) hd dd ?_;have q:=(rel.val k).isSome_eq;rw[Option.isSome_map]at q;rw[<-q,<-l];exact h _ (I.tok _)
theorem d_write(I:Inv X pins σ H s)(mu:Mut (H a))(hs:Heap.SameBut a s.heap h')(he:∃q,h'.get? a=some q)(new:ObjOk X.prog X.w (upd H a ob) h' a ob):
  Inv X pins σ (upd H a ob) {s with heap:=h',toks:=t'}:=
 I.write (x:=a) (e:=a) mu (.inl rfl) (λb q hb z=>(hs.2 b hb).trans z) he new
theorem dk_new(z:kvs.length<=sizeLine)(hd:(a==sysModules)=false)(rel:KV kvs vs)(dd:h'.DictOf (bt P w) a vs):
  ObjOk P w H' h' a (.dK kvs):=⟨z,hd,vs,rel,dd⟩
theorem d_setItem(hu:A.units+1<cLine)(I:Inv X pins σ H s)(g:DPut H a y v H')(ry:RelV y u)(rv:RelV v r)(h:∀s',Inv X pins σ H' s'->Q () s'):
  wpAny (model X.prog X.w) A (setItem (.ref a) u r) Q E s:=by
 rcases g with⟨kvs,k,e,ey,l,eH⟩|⟨kvs,k,b,e,ey,eb,l,eH⟩
 ·subst ey eH;obtain⟨z,hd,vs,rel,dd⟩:=dk_of I.hok e;have hz:vs.length<=sizeLine:=by rw[<-rel.length];exact z
  have hl:(bv kvs k v).length<=sizeLine:=by have:=hV kvs k v;lia
  refine wpAny_setItem_pairs (hsz:=hz) (kV_is ry) dd λh' dd' hs=>h _ ?_;have he:∃q,h'.get? a=some q:=let⟨q,_,_,hq,_⟩:=dd';⟨q,hq⟩
  exact d_write I (by rw[e];exact True.intro) hs he (dk_new hl hd (rel.put k rv) dd')
 ·subst ey eH
  cases(show u=Value.ref b from ry);obtain⟨z,hd,xs,rel,dd⟩:=dt_of I.hok e;have hz:xs.length<=sizeLine:=by rw[<-Paired.length rel];exact z
  have hl:(bv kvs k v).length<=sizeLine:=by have:=hV kvs k v;lia
  refine wpAny_setItem_heap (hsz:=hz) (tupleKind_room_in1 hu) (key_of I.hok eb) dd λh' dd' hs=>h _ ?_;obtain⟨q,es,ep,hq,h2,h3,h4,_,h5⟩:=dd';refine d_write I (by rw[e];exact True.intro) hs ⟨q,hq⟩ ⟨hl,hd,_,(rel.put k eb rv).keeps λc ys ec=>?_,q,es,ep,hq,h2,h3,h4,h5⟩;rw[ai (aG ec e (λz=>nomatch z))];exact ec
end
section
variable{X:Cx}{pins:List (Addr×Obj)}{σ:St}{H:Hp}{s:Shared}{a:Addr}{kvs:List (Key×V)}{k:Key}{u:Value}{A:Around}{E:Value->Shared->Prop}
theorem d_len(I:Inv X pins σ H s)(e:Rd H a (.dK kvs))(h:∀t s',Inv X pins σ H s'->Q (.int kvs.length t) s'):wpAny (model X.prog X.w) A (call (.builtin "len") [.ref a]) Q E s:=by
 obtain⟨z,hd,vs,rel,dd⟩:=gR I.hok e;refine call_len_dict hd dd (by rw[<-rel.length];rw[sizeLine_eq]at z;lia) ?_;rw[<-rel.length];exact h _ _ (I.tok _)
end
noncomputable def NoSl(i:Expr):Prop:=∀ov iv,subscripted i false ov iv=operate [ov,iv] (getItem ov iv)
theorem subD_of{T id:String}
  (hl:typeLookup (.type T) "__getitem__"=pure (some (.builtin id)))(hs:NoSl slice)
  (h:wpAny (model prog w) A (eval value env) (λo s₁=>wpAny (model prog w) A (eval slice env) (λi s₂=>s₂.TypeIs o T/\wpAny (model prog w) A (getItem o i) Q E s₂) E s₁) E s):
  wpAny (model prog w) A (eval (.Subscript value slice pos) env) Q E s:=by
 refine Subscript_ (l0 h (λo s₁ h₁=>l0 h₁ (λi s₂ h₂=>?_) λ_ _ x=>x) λ_ _ x=>x);obtain⟨hT,h₂⟩:=h₂;unfold subscriptTail;refine kJ ?_;rw[getitemInPython_of_ne hT.not_modules];refine kJ (wpAny_specialOf hT hl ?_)
 have fin:wpAny (model prog w) A (subscripted slice false o i) (λr s₃=>wpAny (model prog w) A (letTemporaryGo value o r>>=λ_=>pure r) Q E s₃) E s₂:=by
  rw[hs o i];exact wpAny_operating (l0 h₂ (λr s₃ h₃=>kJ (wpAny_letTemporaryGo (lg h₃))) λ_ _ x=>x)
 first
  |exact lg (kJ fin)
  |exact kJ (lg (kJ fin))
  |exact kJ fin
theorem dict_typeIs(I:Inv X pins σ H s)(g:DGet H a y o):s.TypeIs (.ref a) "dict":=by
 rcases g with⟨kvs,k,e,_,_⟩|⟨kvs,k,b,e,_,_,_⟩
 ·obtain⟨_,_,vs,_,dd⟩:=gR I.hok e;exact dd.typeIs
 ·obtain⟨_,_,xs,_,dd⟩:=dt_rd I.hok e;exact dd.typeIs
inductive ItDGet(Q:VK)(x:V)(y:V)(H2:Hp):Prop
 |mk(a:_)(v:_)(h1:x=.ref a)(h2:DGet H2 a y (some v))(h3:Q v H2):ItDGet Q x y H2
noncomputable def tDGet(td ty:TE):TE:=λσ H Q=>td σ H λx H1=>ty σ H1 λy H2=>ItDGet Q x y H2
noncomputable def tDIn(ty td:TE):TE:=λσ H Q=>ty σ H λy H1=>td σ H1 λx H2=>∃a o,x=.ref a/\DGet H2 a y o/\Q (.bl o.isSome) H2
noncomputable def tDNotIn(ty td:TE):TE:=λσ H Q=>ty σ H λy H1=>td σ H1 λx H2=>∃a o,x=.ref a/\DGet H2 a y o/\Q (.bl (!o.isSome)) H2
noncomputable def sDPut(td ty tv:TE):TS:=λD σ H=>tv σ H λv H1=>td σ H1 λx H2=>ty σ H2 λy H3=>∃a H4,x=.ref a/\DPut H3 a y v H4/\D.nx σ H4
section
variable{X:Cx}{o i e value:Expr}{pos pos' tpos:Pos}{td ty tv:TE}
theorem aV(hu:X.A.units+1<cLine)(ho:PE X o td)(hi:PE X i ty)(hs:NoSl i):PE X (.Subscript o i pos) (tDGet td ty):=by
 intro pins s σ H Q I h;refine subD_of PySem.F.slot_dict_getitem.lookup hs (thn (ho pins s σ H _ I h) λu s1⟨x,H1,I1,rx,q1⟩=>thn (hi pins s1 σ H1 _ I1 q1) λiv s2⟨y,H2,I2,ry,a,v,ex,g,q2⟩=>?_);subst ex;obtain rfl:u=Value.ref a:=rx;exact⟨dict_typeIs I2 g,d_getItem hu I2 g ry λw' s3 I3 rw'=>⟨v,H2,I3,rw',q2⟩⟩
theorem pc_din(hu:X.A.units+1<cLine)(hi:PE X i ty)(ho:PE X o td):PC X .In i o (tDIn ty td):=by
 intro pins s σ H Q I h;refine thn (hi pins s σ H _ I h) λiv s1⟨y,H1,I1,ry,q1⟩=>thn (ho pins s1 σ H1 _ I1 q1) λu s2⟨x,H2,I2,rx,a,ov,ex,g,q2⟩=>?_;subst ex;obtain rfl:u=Value.ref a:=rx;exact d_in hu I2 g ry λs3 I3=>⟨.bl ov.isSome,H2,I3,rfl,q2⟩
theorem gk(hu:X.A.units+1<cLine)(hi:PE X i ty)(ho:PE X o td):PC X .NotIn i o (tDNotIn ty td):=by
 intro pins s σ H Q I h;refine thn (hi pins s σ H _ I h) λiv s1⟨y,H1,I1,ry,q1⟩=>thn (ho pins s1 σ H1 _ I1 q1) λu s2⟨x,H2,I2,rx,a,ov,ex,g,q2⟩=>?_;subst ex;obtain rfl:u=Value.ref a:=rx;exact d_notIn hu I2 g ry λs3 I3=>⟨.bl (!ov.isSome),H2,I3,rfl,q2⟩
theorem bB(hu:X.A.units+1<cLine)(ho:PE X o td)(hi:PE X i ty)(hv:PE X value tv)(hs:swapsWith value (some (.Subscript o i pos')) pos.line X.env=pure false):
  PS X (.Assign [.Subscript o i pos'] value pos) (sDPut td ty tv):=by
 intro pins s σ H D I h;refine wpAny_Assign_Subscript (thn (hv pins s σ H _ I h) λr s1⟨v,H1,I1,rv,q1⟩=>thn (ho pins s1 σ H1 _ I1 q1) λu s2⟨x,H2,I2,rx,q2⟩=>thn (hi pins s2 σ H2 _ I2 q2) λiv s3⟨y,H3,I3,ry,a,H4,ex,g,q3⟩=>?_) hs;subst ex;obtain rfl:u=Value.ref a:=rx;exact d_setItem hu I3 g ry rv λs4 I4=>⟨σ,H4,I4,q3⟩
end
theorem dk_empty(h:Heap)(hb:sysModules<h.objs.size):ObjOk P w H (h.push {cls:=.type "dict",data:=.dict #[]}) h.objs.size (.dK []):=
 ⟨jU _,lR.mpr (Ne.symm (kQ hb)),[],.nil,Heap.DictOf.new h⟩
noncomputable def tDNewK:TE:=λ_ H Q=>∀p,H p=none->Q (.ref p) (upd H p (.dK []))
section
variable{X:Cx}{pos:Pos}
theorem bK:PE X (.Dict [] [] pos) tDNewK:=λpins s σ H Q I h=>
 wpAny_Dict_empty ⟨.ref s.heap.objs.size,_,I.laid (a:=s.heap.objs.size) (o:=.dK []) (t':=s.toks) (λ_ _ q=>jZ _ q) (jJ _) (dk_empty s.heap I.big),rfl,h _ (I.hok.fresh (jJ _))⟩
end
noncomputable def tPairs:List (TE×TE)->St->Hp->(List (V×V)->Hp->Prop)->Prop
 |[],_,H,Q=>Q [] H
 |(tk,tv)::r,σ,H,Q=>tk σ H λx H1=>tv σ H1 λy H2=>tPairs r σ H2 λps H3=>Q ((x,y)::ps) H3
noncomputable abbrev VV:List (V×V)->List (Value×Value)->Prop:=Paired λp q=>RelV p.1 q.1/\RelV p.2 q.2
noncomputable def mergeK(kvs more:List (Key×V)):List (Key×V):=more.foldl (λacc kv=>bv acc kv.1 kv.2) kvs
structure M1(X:Cx)(o:Expr)(m:Str)(apos:Pos)(e:Expr)(cpos:Pos):Prop where
 base:attributeBase o m X.env (eval o X.env)=eval o X.env
 few:((backTo cpos (starEach [e] X.env)).all (λx=>!x.1)&&(backToKw cpos (keywordEach [] X.env)).all (λx=>x.1.isSome)
  &&decide (([e]:List Expr).length+([]:List Keyword).length+(if([]:List Keyword).isEmpty then 0 else 1)<30))=true
 line:(apos.endLine==cpos.line)=true
 trees:backTo cpos (starEach [e] X.env)=[(false,eval e X.env)]
structure M2(X:Cx)(o:Expr)(m:Str)(apos:Pos)(e f:Expr)(cpos:Pos):Prop where
 base:attributeBase o m X.env (eval o X.env)=eval o X.env
 few:((backTo cpos (starEach [e,f] X.env)).all (λx=>!x.1)&&(backToKw cpos (keywordEach [] X.env)).all (λx=>x.1.isSome)
  &&decide (([e,f]:List Expr).length+([]:List Keyword).length+(if([]:List Keyword).isEmpty then 0 else 1)<30))=true
 line:(apos.endLine==cpos.line)=true
 trees:backTo cpos (starEach [e,f] X.env)=[(false,eval e X.env),(false,eval f X.env)]
noncomputable def IsD(H:Hp)(a:Addr):Prop:=(∃kvs,Rd H a (.dK kvs))∨∃kvs,Rd H a (.dT kvs)
theorem isD_at(I:Inv X pins σ H s)(d:IsD H a):
  s.TypeIs (.ref a) "dict"/\(∀b,Value.ref a=.ref b->∃ob,s.heap.get? b=some ob/\ob.dict=none)/\(a==sysModules)=false:=by
 rcases d with⟨kvs,e⟩|⟨kvs,e⟩
 ·obtain⟨_,hd,vs,_,dd⟩:=gR I.hok e;refine⟨dd.typeIs,λb q=>?_,hd⟩
  cases q;obtain⟨ob,_,_,h1,h2,_⟩:=dd;exact⟨ob,h1,h2.2.1⟩
 ·obtain⟨_,hd,xs,_,dd⟩:=dt_rd I.hok e;refine⟨dd.typeIs,λb q=>?_,hd⟩
  cases q;obtain⟨ob,_,_,h1,h2,_⟩:=dd;exact⟨ob,h1,h2.2.1⟩
section
variable{X:Cx}{pins:List (Addr×Obj)}{σ:St}{H:Hp}{s:Shared}{a:Addr}{y d:V}{u r:Value}{o:Option V}{A:Around}{E:Value->Shared->Prop}
theorem d_get2(hu:A.units+1<cLine)(I:Inv X pins σ H s)(g:DGet H a y o)(ry:RelV y u)(rd:RelV d r)(h:∀w' s',Inv X pins σ H s'->RelV (o.getD d) w'->Q w' s'):
  wpAny (model X.prog X.w) A (call (.builtin "dict.get") [.ref a,u,r]) Q E s:=by
 rcases g with⟨kvs,k,e,ey,l⟩|⟨kvs,k,b,e,ey,eb,l⟩
 ·subst ey;obtain⟨z,hd,vs,rel,dd⟩:=gR I.hok e;refine call_meetsIn PySem.F.slot_dict_get dd.typeIs PySem.F.entry_dict_get (PySem.F.args_dict_get_3 _ _ _) (meets_dict_get_default (bt X.prog X.w) a (kV_is ry) hd r) ⟨_,dd.mapOf,h _ _ (I.tok _) ?_⟩;rw[l];exact(rel.val k).getD rd
 ·subst ey
  cases(show u=Value.ref b from ry);obtain⟨z,hd,xs,rel,dd⟩:=dt_rd I.hok e;refine call_meetsIn PySem.F.slot_dict_get dd.typeIs PySem.F.entry_dict_get (PySem.F.args_dict_get_3 _ _ _) (meetsH_dict_get_default (tupleKind (bt X.prog X.w)) a b hd r) ⟨tupleKind_room_in1 hu,k,xs,key_of I.hok eb,dd,h _ _ (I.tok _) ?_⟩;rw[l];exact(rel.val k).getD rd
end
noncomputable def tDGet2(td ty tx:TE):TE:=λσ H Q=>td σ H λx H1=>∃a,x=.ref a/\IsD H1 a/\ty σ H1 λy H2=>tx σ H2 λz H3=>∃o,DGet H3 a y o/\Q (o.getD z) H3
section
variable{X:Cx}{o e f:Expr}{apos cpos:Pos}{td ty tx:TE}
theorem gf(hu:X.A.units+1<cLine)(ho:PE X o td)(he:PE X e ty)(hf:PE X f tx)(m:M2 X o "get" apos e f cpos):PE X (.Call (.Attribute o "get" apos) [e,f] [] cpos) (tDGet2 td ty tx):=by
 intro pins s σ H Q I h;refine wpAny_Call_method m.base m.few m.line PySem.F.plainAttrs_dict PySem.F.slot_dict_get PySem.F.type_dict_get (thn (ho pins s σ H _ I h) λu s1⟨x,H1,I1,rx,a,ex,d,q1⟩=>?_);subst ex;obtain rfl:u=Value.ref a:=rx;obtain⟨t1,t2,_⟩:=isD_at I1 d;refine⟨t1,t2,?_⟩;rw[m.trees]
 refine Calls.callWith_builtin rfl (Calls.evalArgs_plain (Calls.spliced_cons (thn (he pins s1 σ H1 _ I1 q1) λiv s2⟨y,H2,I2,ry,q2⟩=>
  Calls.spliced_cons (thn (hf pins s2 σ H2 _ I2 q2) λfv s3⟨z,H3,I3,rz,ov,g,q3⟩=>Calls.spliced_nil ?_))))
 exact d_get2 hu I3 g ry rz λw' s4 I4 rw'=>⟨_,H3,I4,rw',q3⟩
end
section
variable{X:Cx}{pins:List (Addr×Obj)}{σ:St}{H:Hp}{s:Shared}{a:Addr}{kvs:List (Key×V)}{A:Around}{E:Value->Shared->Prop}
theorem d_copyOf(I:Inv X pins σ H s)(e:Rd H a (.dK kvs))(h:∀p s',H p=none->Inv X pins σ (upd H p (.dK kvs)) s'->Q (.ref p) s'):wpAny (model X.prog X.w) A (call (.type "dict") [.ref a]) Q E s:=by
 obtain⟨z,hd,vs,rel,dd⟩:=gR I.hok e;refine kt_call_dict hd dd (by rw[<-rel.length];exact z) λh' dd' hs=>?_;refine h _ _ (I.hok.fresh (jJ _)) (I.laid (a:=s.heap.objs.size) (o:=.dK kvs) (t':=s.toks) (λb q hq=>?_) (jJ _) (dk_new z (lR.mpr (Ne.symm (kQ I.big))) rel dd'));exact(hs.2 b (kQ (kf hq))).trans (jZ _ hq)
end
section
variable{X:Cx}
theorem call_lenD:dH X (.builtin "len") (λxs H Q=>∃a kvs,xs=[V.ref a]/\H a=some (.dK kvs)/\Q (.int kvs.length) H):=by
 intro pins s σ H xs us Q I r h;obtain⟨a,kvs,rfl,ha,q⟩:=h;obtain⟨u,rfl,ru⟩:=gH r
 cases ru;exact d_len I (.inl ha) λt s' I'=>⟨.int kvs.length,H,I',⟨t,rfl⟩,q⟩
end
section
variable{κ:Type}[DecidableEq κ]
theorem valV_not{k:κ}(h:bI kvs k=none):¬k∈kvs.map (·.1):=by
 intro m;obtain⟨p,hp,e⟩:=jL.mp m;have q:(kvs.any λkv=>decide (kv.1=k))=true:=List.any_eq_true.mpr ⟨p,hp,j6 e⟩;rw[dk,h]at q;exact absurd q (by simp)
theorem valV_in{k:κ}(h:bI kvs k=some v):k∈kvs.map (·.1):=by
 have q:(kvs.any λkv=>decide (kv.1=k))=true:=by
  rw[dk,h]
  all_goals rfl
 obtain⟨p,hp,e⟩:=List.any_eq_true.mp q;exact jL.mpr ⟨p,hp,lX e⟩
theorem dropK_pos{k:κ}(e:p.1=k):dropK (p::r) k=dropK r k:=by
 unfold dropK;rw[List.filter_cons,if_neg (by simp[e])]
theorem dropK_neg{k:κ}(e:¬p.1=k):dropK (p::r) k=p::dropK r k:=by
 unfold dropK;rw[List.filter_cons,if_pos (by simp[e])]
theorem dropK_no:∀{kvs:List (κ×V)}{k:κ},¬k∈kvs.map (·.1)->dropK kvs k=kvs
 |[],_,_=>rfl
 |p::r,k,h=>by
  have h':¬k∈r.map (·.1):=λm=>by
   obtain⟨q,hq,e⟩:=jL.mp m;exact h (jL.mpr ⟨q,j3.mpr (Or.inr hq),e⟩)
  rw[dropK_neg λe=>h (jL.mpr ⟨p,j3.mpr (Or.inl rfl),e⟩),dropK_no h']
theorem dropK_mem{p:κ×V}(h:p∈dropK kvs k):p∈kvs:=(lT.mp h).1
end
section
variable{X:Cx}
noncomputable def PTs(X:Cx)(ifs:List Expr)(t:TT):Prop:=
 ∀(pins:List (Addr×Obj))(s:Shared)(σ:St)(H:Hp)(Q:Bool->Hp->Prop),Inv X pins σ H s->t σ H Q->
  wpAny (model X.prog X.w) X.A (forIn ifs true λc r=>if r=true then do let ok<-isTrue c X.env (eval c X.env);pure (ForInStep.yield ok)else pure (ForInStep.yield r)) (TP X pins σ Q) X.xe s
noncomputable def tYes:TT:=λ_ H Q=>Q true H
theorem cA:PTs X [] tYes:=λpins s σ H Q I h=>wpAny_tests_nil ⟨H,I,h⟩
theorem pts_one(h:PT X c t):PTs X [c] t:=λpins s σ H Q I q=>wpAny_tests_one (h pins s σ H Q I q)
noncomputable def ClSub(X:Cx):List (Str×Addr)->Prop
 |[]=>True
 |p::r=>X.env.cells.lookup p.1=some p.2/\ClSub X r
theorem ClSub.at:∀{cl:List (Str×Addr)},ClSub X cl->∀y c,cl.lookup y=some c->X.env.cells.lookup y=some c
 |[],_,y,c,e=>by simp at e
 |(z,d)::r,h,y,c,e=>by
  by_cases q:y=z
  ·subst q;simp at e;subst e;exact h.1
  ·rw[ke,lR.mpr q]at e;exact ClSub.at h.2 y c e
theorem lookup_has{cl:List (Str×Addr)}:y∈cl.map (·.1)->∃c,cl.lookup y=some c:=by
 induction cl with
 |nil=>intro h;simp at h
 |cons p r ih=>
  intro h;by_cases q:y=p.1
  ·subst q;exact⟨p.2,by cases p;simp⟩
  ·obtain⟨c,e⟩:=ih (by
    rcases j3.mp h with z|z
    ·exact absurd z q
    ·exact z)
   exact⟨c,by rw[ke,lR.mpr q];exact e⟩
theorem iM(h:(z,k)∈(relabel scope env).names)(hk:k=.cell∨k=.free):(z,NameKind.cell)∈scope.names∨(z,NameKind.free)∈scope.names:=by
 unfold relabel at h;obtain⟨⟨n,k'⟩,hm,e⟩:=jL.mp h;dsimp only at e
 split at e
 ·rename_i c
  cases e
  have:k'=.free:=by
   have:=(Bool.and_eq_true_iff.mp (Bool.and_eq_true_iff.mp c).1).1
   simpa using this
  subst this;exact .inr hm
 ·cases e;rcases hk with rfl|rfl
  ·exact .inl hm
  ·exact .inr hm
theorem Clos.many(h:closureFor scope X.env=pure cl)(hs:ClSub X cl)(hy:cl.map (·.1)=ys)
  (hr:∀p∈scope.names,(p.2=.cell∨p.2=.free)->p.1∈ys):Clos X scope cl:=by
 refine⟨h,λy c e=>hs.at y c e,λy hz=>lookup_has ?_⟩;rw[hy];rcases hz with q|q
 ·rcases iM (lK q) (.inl rfl)with m|m
  ·exact hr _ m (.inl rfl)
  ·exact hr _ m (.inr rfl)
 ·rcases iM (lK q) (.inr rfl)with m|m
  ·exact hr _ m (.inl rfl)
  ·exact hr _ m (.inr rfl)
noncomputable def RdAll(X:Cx)(scope:Scope):List Str->List Nat->Prop
 |[],[]=>True
 |y::ys,j::js=>(X.N[j]?=some y/\X.env.scope.names.lookup y=some .cell/\(relabel scope X.env).names.lookup y=some .cell)/\RdAll X scope ys js
 |_,_=>False
theorem RdAll.len:∀{ys:List Str}{js:List Nat},RdAll X scope ys js->js.length=ys.length
 |[],[],_=>rfl
 |y::ys,j::js,h=>by rw[kz,kz,RdAll.len h.2]
theorem RdAll.at:∀{ys:List Str}{js:List Nat},RdAll X scope ys js->∀(i:Nat)(y:Str)(j:Nat),ys[i]?=some y->js[i]?=some j->X.N[j]?=some y/\X.env.scope.names.lookup y=some .cell/\(relabel scope X.env).names.lookup y=some .cell
 |[],[],_,i,y,j,e,_=>by simp at e
 |y'::ys,j'::js,h,0,y,j,e1,e2=>by
  simp at e1 e2;subst e1 e2;exact h.1
 |y'::ys,j'::js,h,i+1,y,j,e1,e2=>RdAll.at h.2 i y j (by simpa using e1) (by simpa using e2)
theorem Reads.many(h:RdAll X scope ys js):Reads X scope ys (λσ=>js.map λj=>σ.getD j Option.none):=by
 refineλσ=>⟨by rw[jF,h.len],λi y v e1 e2=>?_⟩;rw[jK]at e2
 cases q:js[i]? with
 |none=>rw[q]at e2;cases e2
 |some j=>
  rw[q]at e2;obtain⟨h1,h2,h3⟩:=h.at i y j e1 q;refine⟨j,h1,?_,h2,h3⟩;have e3:σ.getD j Option.none=some v:=kg e2;rw[List.getD_eq_getElem?_getD]at e3
  cases z:σ[j]? with
  |none=>rw[z]at e3;cases e3
  |some o=>rw[z]at e3;exact kA some e3
noncomputable def tCompG(k:Nat)(wi:TI)(g:TG)(tc:TT)(te:TE)(sel:St->St):TE:=λσ H Q=>wi σ H λJ H1=>∀l,H1 l=none->∃W:Nat->Nat->Hp->Prop,(∃m,W 0 m (upd H1 l (.lst [])))/\∀i m H,W i m H->
 (J.stop i H/\Q (.ref l) H)∨(J.go i H/\∀x H',J.yld i H x H'->∀zs:St,zs.length=k->g x (zs++sel σ) H' λσ2 H2=>(∃zs':St,zs'.length=k/\σ2=zs'++sel σ)/\tc σ2 H2 λb H3=>if b=true then te σ2 H3 λy H4=>∃ys,H4 l=some (.lst ys)/\ys.length<sizeLine/\∃m',m'<m/\W (i+1) m' (upd H4 l (.lst (ys++[y])))else∃m',m'<m/\W (i+1) m' H3)
theorem gT{prog:Program}{w:World}{A:Around}{R:Result->Shared->Prop}{s:Shared}{elt target iter:Expr}{ifs:List Expr}{scope:Scope}{pos:Pos}{it acc:Value}{env:Env}(I:Nat->Shared->Prop)
  (turn:∀n s,I n s->wpAny (model prog w) A (pyNext it) (λr s₁=>match r with
   |none=>R (.ok .next) s₁
   |some v=>wpAny (model prog w) A (letOwnedTupleGo target it v) (λ_ s₁'=>wpAny (model prog w) A (assign target env v) (λ_ s₂=>
     wpAny (model prog w) A (forIn ifs true λc r=>if r=true then do let ok<-isTrue c env (eval c env);pure (ForInStep.yield ok) else pure (ForInStep.yield r)) (λok s₃=>if ok=true then wpAny (model prog w) A (eval elt env) (λx s₄=>
      wpAny (model prog w) A (call (.builtin "list.append") [acc,x]) (λ_ s₅=>∃m,m<n/\I m s₅) (λ_ _=>False) s₄) (λ_ _=>False) s₃ else∃m,m<n/\I m s₃) (λ_ _=>False) s₂) (λ_ _=>False) s₁') (λ_ _=>False) s₁) (λ_ _=>False) s)
  (n:Nat)(h:I n s):
  codeAny (model prog w) A (.compLoop (.ListComp elt [⟨target,iter,ifs,0⟩] scope pos) 0 it acc env) R s:=by
 refine codeAny_loop rfl I (λn s hI=>?_) n h;show wpAny _ _ ((compTurn (.ListComp elt [⟨target,iter,ifs,0⟩] scope pos) 0 it acc env).onRaise (λx=>do noteFrame x env;theTreesLotGoes x)) _ _ s;refine wpAny_noted ?_;rw[compTurn_list];refine kJ (wpAny_standAt (kJ (l0 (turn n s hI) (λr s₁ h₁=>?_) λ_ _ h'=>h'.elim)))
 cases r with
 |none=>exact lg h₁
 |some v=>
  refine kJ (l0 h₁ (λ_ s₁' h₁'=>?_) λ_ _ h'=>h'.elim);refine kJ (l0 h₁' (λ_ s₂ h₂=>kJ (l0 h₂ (λok s₃ h₃=>?_) λ_ _ h'=>h'.elim)) λ_ _ h'=>h'.elim)
  cases ok with
  |false=>exact lg ⟨rfl,h₃⟩
  |true=>exact kJ (kJ (l0 h₃ (λx s₄ h₄=>kJ (l0 h₄ (λ_ s₅ h₅=>lg (lg ⟨rfl,h₅⟩)) λ_ _ h'=>h'.elim)) λ_ _ h'=>h'.elim))
theorem comp_blockG{rest:List Str}{Q:VK}
  {RR:Value->Addr->Result->Shared->Prop}
  (hcalm:X.calm=true)(hkind:scope.kind=.function)(hcell:∀z∈scope.names,z.2≠.cell)(hc:Clos X scope cl)(hr:Reads X scope rest sel)
  (hg:∀(C:Addr)(s:Shared)(H:Hp),PG (cq X pins (xs++rest) scope cl C fp s H) tg g)(ht:∀(C:Addr)(s:Shared)(H:Hp),PTs (cq X pins (xs++rest) scope cl C fp s H) ifs tc)
  (he:∀(C:Addr)(s:Shared)(H:Hp),PE (cq X pins (xs++rest) scope cl C fp s H) elt te)
  (I:Inv X pins σ H s)(T:Turn X.prog X.w X.K tg J fp it tn)(t0:tn 0 s.heap)(hf:∀b∈fp,FpOk X pins H b)
  (h:∀l,H l=none->∃W:Nat->Nat->Hp->Prop,(∃m,W 0 m (upd H l (.lst [])))/\∀i m H,W i m H->
   (J.stop i H/\Q (.ref l) H)∨(J.go i H/\∀x H',J.yld i H x H'->∀zs:St,zs.length=xs.length->g x (zs++sel σ) H' λσ2 H2=>(∃zs':St,zs'.length=xs.length/\σ2=zs'++sel σ)/\tc σ2 H2 λb H3=>if b=true then te σ2 H3 λy H4=>∃ys,H4 l=some (.lst ys)/\ys.length<sizeLine/\∃m',m'<m/\W (i+1) m' (upd H4 l (.lst (ys++[y]))) else∃m',m'<m/\W (i+1) m' H3))
  (hRR:∀(D C:Addr)(H':Hp)(s':Shared),Inv X pins σ H' s'->FpOk X pins H' C->(∃m,s'.heap.Ns C m)->Q (.ref D) H'->RR (.ref D) C (.ok .next) s'):
  wpAny (model X.prog X.w) X.A (newList []) (λacc s₃=>wpAny (model X.prog X.w) X.A (newFunctionEnv scope X.env.globals cl [] X.env.qual none .none (some X.env)) (λcenv s₄=>
   codeAny (model X.prog X.w) X.A (.compStart (.ListComp elt [⟨tg,iter,ifs,0⟩] scope pos) 0 (.ref it) acc {cenv with scope:=relabel scope X.env}) (RR acc cenv.locals) s₄) E s₃) E s:=by
 have hD:H s.heap.objs.size=none:=I.hok.fresh (jJ _);obtain⟨W,⟨m0,w0⟩,turn⟩:=h _ hD;refine wpAny_newObj_type ?_
 have I3:Inv X pins σ (upd H s.heap.objs.size (.lst [])) {s with heap:=s.heap.push {cls:=.type "list",dict:=none,data:=.seq ([]:List Value).toArray}}:=
  I.laid (t':=s.toks) (λb u e=>jZ _ e) (jJ _) ⟨jU _,[],0,.nil,kq _ rfl⟩
 generalize hs3:({s with heap:=s.heap.push {cls:=.type "list",dict:=none,data:=.seq ([]:List Value).toArray}}:Shared)=s3 at I3⊢;have old3:∀b o,s.heap.get? b=some o->s3.heap.get? b=some o:=λb o e=>by rw[<-hs3];exact jZ _ e
 refine wpAny_newFunctionEnv hcell (by intro y hy;simp at hy) (λh1 hns1 hsb1=>?_) hkind;have old4:∀b o,s3.heap.get? b=some o->h1.get? b=some o:=λb o e=>hsb1.extBut b o (kQ (kf e)) (jZ _ e)
 have fD:∀b∈fp,b≠s.heap.objs.size:=λb hb z=>by
  obtain⟨o,e,_⟩:=T.obj 0 _ t0 b hb;exact absurd (kf e) (by rw[z];exact lW _)
 have hf3:∀b∈fp,FpOk X pins (upd H s.heap.objs.size (.lst [])) b:=λb hb=>⟨by rw[ai (fD b hb)];exact(hf b hb).1,(hf b hb).2⟩
 have fC:∀b∈fp,b≠s3.heap.objs.size:=λb hb z=>by
  obtain⟨o,e,_⟩:=T.obj 0 _ t0 b hb;exact absurd (kf (old3 b o e)) (by rw[z];exact lW _)
 have cC:∀y c,cl.lookup y=some c->c≠s3.heap.objs.size:=λy c e z=>by
  obtain⟨v,q⟩:=I3.cell y c (hc.sub y c e);exact absurd q.lt (by rw[z];exact lW _)
 have fstk:∀b∈fp,b∉frs X.stack:=λb hb z=>(j3.mp (I3.stkSub b z)).elim (hf b hb).2.1 (hf b hb).2.2.1
 have ok:(cq X pins (xs++rest) scope cl s3.heap.objs.size fp s3 (upd H s.heap.objs.size (.lst []))).Ok:=by
  refine⟨I.ok.mod,hkind,I.ok.glob,I.ok.blt,jJ _,λy z c e1 e2=>I.ok.inj y z c (hc.sub y c e1) (hc.sub z c e2),λy hy=>hc.has y hy,λy c e=>(nomatch e),I.ok.hd,I.ok.frames,.inl rfl,λb hb=>⟨fC b hb,λy c e=>(hf b hb).2.2.2.2.1 y c (hc.sub y c e)⟩,
   I3.bs,jV I.ok.bsz I3.sz,λb o e hb=>?_,fstk,I3.stack,I3.stkFree⟩
  rcases(hf b hb).2.2.2.1 with z|z
  ·exact I.ok.noex b o e z
  ·exact absurd (kF (kf e) I.ok.bsz) (Nat.not_lt.mpr z)
 have I4:Inv (cq X pins (xs++rest) scope cl s3.heap.objs.size fp s3 (upd H s.heap.objs.size (.lst []))) [] (xs.map (λ_=>none)++sel σ) (upd H s.heap.objs.size (.lst [])) {s3 with heap:=h1,toks:=s3.toks+([]:List (Str×Value)).length}:=by
  refine⟨ok,rfl,I3.bare,Un.kept old4,⟨_,hns1,λi y v e1 e2 e3=>?_⟩,λy c e=>?_,I3.hok.fresh (jJ _),λy c e=>I3.freeC y c (hc.sub y c e),λp hp=>?_,I3.hok.kept old4,?_⟩
  ·have hge:xs.length<=i:=by
    apply kn
    intro hlt;rw[lG (by rw[jF];lia),jK]at e2
    cases q:xs[i]? with
    |none=>rw[q]at e2;cases e2
    |some z=>rw[q]at e2;cases e2
   have e1':rest[i-xs.length]?=some y:=by
    have e1:(xs++rest)[i]?=some y:=e1;rw[kP hge]at e1;exact e1
   have e2':(sel σ)[i-xs.length]?=some (some v):=by
    rw[kP (by rw[jF];exact hge),jF]at e2;exact e2
   obtain⟨j,q1,q2,q3,q4⟩:=(hr σ).2 _ y v e1' e2';obtain⟨m,hn,hl⟩:=I3.loc;obtain⟨u,r,l⟩:=hl j y v q1 q2 (.inr (.inl q3));refine⟨u,r,.inr ⟨.inl q4,?_⟩⟩;obtain⟨c,ec⟩:=hc.has y (.inl q4);refine⟨c,ec,?_⟩;rcases l with⟨k,_⟩|⟨_,c',e',z⟩
   ·have k':X.env.scope.names.lookup y=some .local:=k;rw[q3]at k';cases k'
   ·rw[hc.sub y c ec]at e'
    cases e';obtain⟨o,ho,hd⟩:=z;exact⟨o,old4 c o ho,hd⟩
  ·obtain⟨v,o,ho,hd⟩:=I3.cell y c (hc.sub y c e);exact⟨v,o,old4 c o ho,hd⟩
  ·have hp':p∈X.pn++pins:=by simpa[cq]using hp
   obtain⟨e,n,ne,nf,d⟩:=I3.pin p hp';exact⟨old4 _ _ e,n,kQ (kf e),λz=>(j3.mp (I3.stkSub _ z)).elim ne nf,d⟩
  ·show(xs.map (λ_=>none)++sel σ).length=(xs++rest).length;rw[jO,jO,jF,(hr σ).1]
 have stat:∀{H':Hp},(∀b∈fp,H' b=none)->∀b∈fp,FpOk (cq X pins (xs++rest) scope cl s3.heap.objs.size fp s3 (upd H s.heap.objs.size (.lst []))) [] H' b:=λhn b hb=>
  ⟨hn b hb,fC b hb,fstk b hb,.inl hb,λy c e=>(hf b hb).2.2.2.2.1 y c (hc.sub y c e),λp hp=>(hf b hb).2.2.2.2.2 p (by simpa[cq]using hp)⟩
 have t4:tn 0 h1:=T.keep _ _ _ t0 λb hb o e=>old4 b o (old3 b o e)
 have loop:∀s4:Shared,s4={s3 with heap:=h1,toks:=s3.toks+([]:List (Str×Value)).length}->
   codeAny (model X.prog X.w) X.A (.compLoop (.ListComp elt [⟨tg,iter,ifs,0⟩] scope pos) 0 (.ref it) (.ref s.heap.objs.size) (compEnvC scope cl s3.heap.objs.size X.env)) (RR (.ref s.heap.objs.size) s3.heap.objs.size) s4:=by
  rintro s4 rfl
  refine gT (λn s'=>∃i zs H',zs.length=xs.length/\Inv (cq X pins (xs++rest) scope cl s3.heap.objs.size fp s3 (upd H s.heap.objs.size (.lst []))) [] (zs++sel σ) H' s'/\tn i s'.heap/\(∀b∈fp,H' b=none)/\W i n H') ?_ m0
   ⟨0,_,_,jF _,I4,t4,λb hb=>(hf3 b hb).1,w0⟩
  rintro n s5⟨i,zs,H5,hzs,I5,t5,f5,w5⟩;rcases turn i n H5 w5 with⟨stop,qn⟩|⟨go,step⟩
  ·refine thn (T.done (cq X pins (xs++rest) scope cl s3.heap.objs.size fp s3 (upd H s.heap.objs.size (.lst []))) rfl rfl rfl hcalm i [] s5 _ H5 _ I5 (stat f5) t5 stop) λr s6⟨er,I6⟩=>?_;subst er;have J6:Inv X pins σ H5 s6:=I3.call' (ch:=fp) I6.os I6.base I6.hok I6.bare λb hb=>⟨(hf b hb).2.2.2.1,(hf b hb).2.1,(hf b hb).2.2.2.2.1,(hf b hb).2.2.2.2.2⟩;exact hRR _ _ H5 s6 J6 (I3.fpOk (jJ _) I6.free) (let⟨m,hn,_⟩:=I6.loc;⟨m,hn⟩) qn
  ·refine thn (T.item (cq X pins (xs++rest) scope cl s3.heap.objs.size fp s3 (upd H s.heap.objs.size (.lst []))) rfl rfl rfl hcalm i [] s5 _ H5 _ I5 (stat f5) t5 go) λr s6⟨u,er,h6⟩=>?_;subst er;refine thn h6 λ_ s7⟨y,H7,I7,r7,y7,t7,f7⟩=>?_;have I7':=I7.pinned (stat f7) (T.obj _ _ t7);refine thn (hg _ _ _ _ s7 _ H7 y u _ I7' r7 (step y H7 y7 zs hzs)) λ_ s8⟨σ8,H8,I8,⟨zs',hz',e8⟩,q8⟩=>?_;subst e8;refine thn (ht _ _ _ _ s8 _ H8 _ I8 q8) λb s9⟨H9,I9,q9⟩=>?_
   cases b with
   |false=>
    rw[if_neg kc]at q9⊢;obtain⟨m',hm,w9⟩:=q9;refine⟨m',hm,i+1,zs',_,hz',I9.unpinned,T.keep _ _ _ t7 λb hb o e=>(I9.pin (b,o) (j8 _ (j8 _ (dc hb e)))).1,λb hb=>?_,w9⟩;obtain⟨o,e,d⟩:=T.obj _ _ t7 b hb;exact(I9.pin (b,o) (j8 _ (j8 _ (dc hb e)))).2.1
   |true=>
    rw[if_pos rfl]at q9⊢;refine thn (he _ _ _ _ s9 _ H9 _ I9 q9) λz s9⟨yv,H9,I9,r9,ys,hl,hz,m',hm,w9⟩=>?_
    refine thn (bJ (X:=cq X pins (xs++rest) scope cl s3.heap.objs.size fp s3 (upd H s.heap.objs.size (.lst []))) _ s9 _ H9 (.ref s.heap.objs.size) [yv] (.ref s.heap.objs.size) [z]
     (λv H'=>H'=upd H9 s.heap.objs.size (.lst (ys++[yv]))) I9 rfl (.cons r9 .nil) ⟨_,ys,yv,rfl,rfl,hl,hz,rfl⟩) λ_ s10⟨v10,H10,I10,_,e10⟩=>?_
    subst e10;refine⟨m',hm,i+1,zs',_,hz',I10.unpinned,T.keep _ _ _ t7 λb hb o e=>(I10.pin (b,o) (j8 _ (j8 _ (dc hb e)))).1,λb hb=>?_,w9⟩;obtain⟨o,e,d⟩:=T.obj _ _ t7 b hb;exact(I10.pin (b,o) (j8 _ (j8 _ (dc hb e)))).2.1
 exact codeAny_compStart_list (loop _ rfl) (T.self _ 0 _ _ _ t4 (loop _ rfl))
theorem eP{rest:List Str}
  (hcalm:X.calm=true)(hi:PI X tg iter wi)(hg:∀(pins:List (Addr×Obj))(fp:List Addr)(C:Addr)(s:Shared)(H:Hp),PG (cq X pins (xs++rest) scope cl C fp s H) tg g)(ht:∀(pins:List (Addr×Obj))(fp:List Addr)(C:Addr)(s:Shared)(H:Hp),PTs (cq X pins (xs++rest) scope cl C fp s H) ifs tc)
  (he:∀(pins:List (Addr×Obj))(fp:List Addr)(C:Addr)(s:Shared)(H:Hp),PE (cq X pins (xs++rest) scope cl C fp s H) elt te)
  (hc:Clos X scope cl)(hr:Reads X scope rest sel)(hkind:scope.kind=.function:=by rfl)(hcell:∀z∈scope.names,z.2≠.cell:=by decide+kernel)(hnames:∀z∈scope.names,z.2=.local->scope.names.lookup z.1=some .local:=by decide+kernel)
  (hs:∀x,foldedSetIterable iter X.env x=pure x:=by intro _;rfl):
  PE X (.ListComp elt [⟨tg,iter,ifs,0⟩] scope pos) (tCompG xs.length wi g tc te sel):=by
 intro pins s σ H Q I h;rw[eval_ListComp];refine wpAny_comprehension_free (use:=none) rfl hs hc.clos hkind hnames (thn (hi pins s σ H _ I h) λv s1 h1=>thn h1 λitv s2 h2=>?_);obtain⟨it,fp,tn,J,H2,rfl,I2,T,t2,f2,q2⟩:=h2;refine comp_blockG (RR:=λacc C=>compPost (model X.prog X.w) X.A X.xe none (EP X pins σ Q) acc C) hcalm hkind hcell hc hr (hg pins fp) (ht pins fp) (he pins fp) I2 T t2 f2 q2 λD C H' s' I' fC⟨m,hn⟩q=>?_;exact⟨m,hn,λh' sb=>⟨.ref D,H',I'.turned (t':=s'.toks) (λb o hb e=>(sb.2 b hb).trans e) fC.1 fC.2.1 fC.2.2.2.1 fC.2.2.2.2.1 fC.2.2.2.2.2,rfl,q⟩⟩
theorem dA{rest:List Str}
  (hNX:X.N.Nodup)(hi':X.N[i]?=some y)(hy:X.env.scope.names.lookup y=some .local)
  (hcalm:X.calm=true)(hi:PI X tg iter wi)(hg:∀(pins:List (Addr×Obj))(fp:List Addr)(C:Addr)(s:Shared)(H:Hp),PG (cq X pins (xs++rest) scope cl C fp s H) tg g)(ht:∀(pins:List (Addr×Obj))(fp:List Addr)(C:Addr)(s:Shared)(H:Hp),PTs (cq X pins (xs++rest) scope cl C fp s H) ifs tc)
  (he:∀(pins:List (Addr×Obj))(fp:List Addr)(C:Addr)(s:Shared)(H:Hp),PE (cq X pins (xs++rest) scope cl C fp s H) elt te)
  (hc:Clos X scope cl)(hr:Reads X scope rest sel)(hkind:scope.kind=.function:=by rfl)(hcell:∀z∈scope.names,z.2≠.cell:=by decide+kernel)(hnames:∀z∈scope.names,z.2=.local->scope.names.lookup z.1=some .local:=by decide+kernel)
  (hs:∀x,foldedSetIterable iter X.env x=pure x:=by intro _;rfl)
  (hsw:swapsWith (.ListComp elt [⟨tg,iter,ifs,0⟩] scope pos) (some (.Name y py)) spos.line X.env=pure true:=by rfl):
  PS X (.Assign [.Name y py] (.ListComp elt [⟨tg,iter,ifs,0⟩] scope pos) spos) (tAsg (tCompG xs.length wi g tc te sel) (gName i)):=by
 intro pins s σ H D I h;rw[exec_Assign_Name_used _ _ _ _ hsw];refine kJ (wpAny_standAt (kJ ?_));show wpAny _ X.A (do let _<-comprehension (.ListComp elt [⟨tg,iter,ifs,0⟩] scope pos) scope X.env _ (newList []) false (eval iter X.env) (some (assign (.Name y py) X.env))) _ _ s
 refine kJ (l0 (wpAny_comprehension_free (use:=some (assign (.Name y py) X.env)) (Q:=λ_ s'=>SP X pins D .next s') rfl hs hc.clos hkind hnames
  (thn (hi pins s σ H _ I h) λv s1 h1=>thn h1 λitv s2 h2=>?_)) (λ_ s' hq=>lg (lg hq)) λ_ _ e=>e)
 obtain⟨it,fp,tn,J,H2,rfl,I2,T,t2,f2,q2⟩:=h2;refine comp_blockG (Q:=λx H1=>gName i x σ H1 D.nx) (RR:=λacc C=>compPost (model X.prog X.w) X.A X.xe (some (assign (.Name y py) X.env)) (λ_ s'=>SP X pins D .next s') acc C) hcalm hkind hcell hc hr (hg pins fp) (ht pins fp) (he pins fp) I2 T t2 f2 q2 λL C H' s' I' fC⟨m,hn⟩q=>?_;show wpAny _ X.A (assign (.Name y py) X.env (.ref L)) _ _ _;refine wpAny_assign_Name (store_ok2 I' hNX hi' (.inl hy) (v:=.ref L) rfl (λs2 I2'⟨a,sb,ha⟩=>?_) (.inr hy))
 have hCa:C≠a:=λz=>by
  rcases ha with z'|z'
  ·exact fC.2.1 (z.trans z')
  ·exact fC.2.2.2.2.1 y a z' z.symm
 exact⟨m,hn.sameBut sb hCa,λh' sb'=>⟨_,H',I2'.turned (t':=s2.toks) (λb o hb e=>(sb'.2 b hb).trans e) fC.1 fC.2.1 fC.2.2.2.1 fC.2.2.2.2.1 fC.2.2.2.2.2,q⟩⟩
end
section
variable{X:Cx}{pins:List (Addr×Obj)}{σ:St}{H:Hp}{s:Shared}{a:Addr}{o:Obj}{u:HO}
theorem Inv.freeze(I:Inv X pins σ H s)(ha:H a=some u)(mu:Mut (some u))(ho:s.heap.get? a=some o):Inv X pins σ (upd H a (.frz o u)) s:=by
 have mu':Mut (H a):=by rw[ha];exact mu
 have nown:∀c y,H c=some (.own y)->c≠a:=λc y r z=>by subst z;rw[r]at mu';exact mu'
 have ntup:∀c xs,H c=some (.tup xs)->c≠a:=λc xs r z=>by subst z;rw[r]at mu';exact mu'
 refine I.un (t':=s.toks) (Un.write (x:=a) (e:=a) mu' (.inl rfl) (λ_ _ _ q=>q) ⟨o,ho⟩) (I.hok.write (x:=a) (e:=a) mu' (.inl rfl) (λ_ _ _ q=>q) ⟨o,ho⟩ ⟨ho,?_⟩);exact(I.hok a u ha).stay (λ_ _ _ q=>q) (λc r=>by rw[ai (nown c a r)];exact r) λc xs r=>by rw[ai (ntup c xs r)];exact r
theorem Inv.thaw(I:Inv X pins σ H s)(ha:H a=some (.frz o u))(h0:∀o' u',X.H₀ a≠some (.frz o' u')):Inv X pins σ (upd H a u) s:=by
 have nown:∀c y,H c=some (.own y)->c≠a:=λc y r z=>by subst z;rw[r]at ha;cases ha
 have ntup:∀c xs,H c=some (.tup xs)->c≠a:=λc xs r z=>by subst z;rw[r]at ha;cases ha
 have nn:∀c,H c=none->c≠a:=λc r z=>by subst z;rw[r]at ha;cases ha
 have up:∀c,H c=none->upd H a u c=none:=λc r=>by rw[ai (nn c r)];exact r
 refine⟨I.ok,I.os,I.bare,⟨I.base.keep,I.base.slot,λb ob e n hx=>up b (I.base.free b ob e n hx),I.base.there,λb xs e=>?_,λb ob z e=>?_,λb ps e=>?_⟩,I.loc,I.cell,up _ I.free,λx c e=>up _ (I.freeC x c e),λp hp=>?_,λb ob e=>?_,I.len⟩
 ·have q:=I.base.tups b xs e;rw[ai (ntup b xs q)];exact q
 ·have q:=I.base.frzs b ob z e;have nb:b≠a:=λz'=>by subst z';exact h0 _ _ e
  rw[ai nb];exact q
 ·obtain⟨m,q⟩:=I.base.tbls b ps e;have nb:b≠a:=λz'=>by subst z';rw[q]at ha;cases ha
  exact⟨m,by rw[ai nb];exact q⟩
 ·obtain⟨e,n,r⟩:=I.pin p hp;exact⟨e,up _ n,r⟩
 ·by_cases hb:b=a
  ·subst hb;rw[ag]at e
   cases e;obtain⟨_,q⟩:=I.hok b _ ha;exact q.stay (λ_ _ _ q=>q) (λc r=>by rw[ai (nown c b r)];exact r) λc xs r=>by rw[ai (ntup c xs r)];exact r
  ·rw[ai hb]at e;exact(I.hok b ob e).stay (λ_ _ _ q=>q) (λc r=>by rw[ai (nown c b r)];exact r) λc xs r=>by rw[ai (ntup c xs r)];exact r
theorem Inv.nofrz(I:Inv X pins σ H s)(ha:H a=some u)(nu:∀o' u',u≠.frz o' u'):∀o' u',X.H₀ a≠some (.frz o' u'):=λo' u' e=>by
 have q:=I.base.frzs a o' u' e;rw[ha]at q;exact nu _ _ (kg q)
noncomputable def tThaw(t:TE):TE:=λσ H Q=>∃a u,H a=some u/\(∀o' u',u≠.frz o' u')/\t σ H λv H'=>∃o,H' a=some (.frz o u)/\Q v (upd H' a u)
theorem pe_thaw(h:PE X e t):PE X e (tThaw t):=by
 intro pins s σ H Q I q;obtain⟨a,u,ha,nu,q⟩:=q;exact thn (h pins s σ H _ I q) (by rintro v s1⟨x,H1,I1,r1,o,e1,q1⟩;exact⟨x,_,I1.thaw e1 (I.nofrz ha nu),r1,q1⟩)
noncomputable def tThawS(t:TS):TS:=λD σ H=>∃a u,H a=some u/\(∀o' u',u≠.frz o' u')/\t {D with nx:=λσ' H'=>∃o,H' a=some (.frz o u)/\D.nx σ' (upd H' a u),rt:=λv H'=>∃o,H' a=some (.frz o u)/\D.rt v (upd H' a u),ct:=λσ' H'=>∃o,H' a=some (.frz o u)/\D.ct σ' (upd H' a u),bk:=λσ' H'=>∃o,H' a=some (.frz o u)/\D.bk σ' (upd H' a u)} σ H
theorem cB{st:Stmt}(h:PS X st t):PS X st (tThawS t):=by
 intro pins s σ H D I q;obtain⟨a,u,ha,nu,q⟩:=q;have hn:=I.nofrz ha nu;refine thn (h pins s σ H _ I q) λf s1 q1=>?_
 cases f with
 |next=>obtain⟨σ1,H1,I1,o,e1,q2⟩:=q1;exact⟨σ1,_,I1.thaw e1 hn,q2⟩
 |cont=>obtain⟨σ1,H1,I1,o,e1,q2⟩:=q1;exact⟨σ1,_,I1.thaw e1 hn,q2⟩
 |brk=>obtain⟨σ1,H1,I1,o,e1,q2⟩:=q1;exact⟨σ1,_,I1.thaw e1 hn,q2⟩
 |ret v=>obtain⟨x,σ1,H1,I1,r1,o,e1,q2⟩:=q1;exact⟨x,σ1,_,I1.thaw e1 hn,r1,q2⟩
noncomputable def Itd(a:Addr)(o:Obj)(kvs:List (Key×V)):It:=
 ⟨λi H=>H a=some (.frz o (.dK kvs))/\i<kvs.length,λi H x H'=>H'=H/\∃kv,kvs[i]?=some kv/\x=kV kv.1,λi H=>H a=some (.frz o (.dK kvs))/\kvs.length<=i⟩
theorem KV.get:∀{kvs:List (κ×V)}{vs:List (κ×Value)}{i:Nat}{kv:κ×V},KV kvs vs->kvs[i]?=some kv->∃v,vs[i]?=some (kv.1,v)/\RelV kv.2 v
 |_,_,_,_,.nil,e=>by simp at e
 |_,_,0,kv,.cons (b:=b) r t,e=>by
  simp at e;subst e;exact⟨b.2,by simp[r.1],r.2⟩
 |_,_,i+1,kv,.cons r t,e=>by
  obtain⟨v,e',r'⟩:=KV.get (i:=i) t (by simpa using e);exact⟨v,by simpa using e',r'⟩
theorem is_kV{u:Value}(h:(bt P w).is k u=true):RelV (kV k) u:=by
 rcases bH (show keyIs k u=true from h)with⟨i,t,rfl,rfl⟩|⟨x,t,rfl,rfl⟩
 ·exact⟨t,rfl⟩
 ·exact⟨t,rfl⟩
theorem turn_dict{K:W.Frag}(a it:Addr)(o:Obj)(kvs:List (Key×V))(hd:o.data=.dict es ep):Turn P w K tg (Itd a o kvs) [it] it (λi h=>h.IsKeyIter it a i kvs.length ep)where
 mem:=by simp
 obj:=λi h st b hb=>by
  have e:b=it:=by simpa using hb
  subst e;obtain⟨o,e,c,d⟩:=st;exact⟨o,e,λv z=>by rw[d]at z;cases z⟩
 keep:=λi h h' st k=>st.at λo e=>k it (by simp) o e
 item:=by
  intro X hP hw hK hc i pins s σ H E I hf st hg;subst hP hw hK;obtain⟨ha,hi⟩:=hg;obtain⟨ho,hz,hs,vs,r,o',es',ep',e1,e2,e3,e4,e5,e6⟩:=I.hok a _ ha;rw[ho]at e1;cases e1;rw[hd]at e3;cases e3;have hx:kvs[i]?=some kvs[i]:=jH hi;obtain⟨v,hv,rv⟩:=KV.get r hx;obtain⟨f0,f1,f2,f3,f4,f5⟩:=hf it (by simp);have st0:s.heap.IsKeyIter it a i vs.length ep:=by rw[<-r.length];exact st
  refine wpAny_pyNext_dict_item st0 ⟨o,es,ho,e2,hd,e4,e5,e6⟩ hv λkey h' hk st' sb=>?_;rw[<-r.length]at st';have I1:Inv X pins σ H {s with heap:=h'}:=I.turned (t':=s.toks) (λb o hb e=>(sb.2 b hb).trans e) f0 f1 f3 f4 f5;obtain⟨oi,e,c,d⟩:=id st';exact⟨key,rfl,go_of (s:={s with heap:=h'}) e c d (by decide) ⟨kV (kvs[i]).1,H,I1,is_kV hk,⟨rfl,_,hx,rfl⟩,st',λb hb=>(hf b hb).1⟩⟩
 done:=by
  intro X hP hw hK hc i pins s σ H E I hf st hg;subst hP hw hK;obtain⟨ha,hi⟩:=hg;obtain⟨ho,hz,hs,vs,r,o',es',ep',e1,e2,e3,e4,e5,e6⟩:=I.hok a _ ha;rw[ho]at e1;cases e1;rw[hd]at e3;cases e3;obtain⟨f0,f1,f2,f3,f4,f5⟩:=hf it (by simp);have st0:s.heap.IsKeyIter it a i vs.length ep:=by rw[<-r.length];exact st
  exact wpAny_pyNext_dict_end (I.ok.hd hc) st0 ⟨o,es,ho,e2,hd,e4,e5,e6⟩ (List.getElem?_eq_none (by rw[<-r.length];exact hi)) λh' eb=>⟨rfl,I.turned (t':=s.toks) (λb o hb e=>eb b o hb e) f0 f1 f3 f4 f5⟩
 self:=λ_ _ _ _ _ st h=>wpAny_pyIter_keyiter st h
noncomputable def iDic(tl:TE):TI:=λσ H R=>tl σ H λx H1=>∃a kvs,x=.ref a/\H1 a=some (.dK kvs)/\∀o,R (Itd a o kvs) (upd H1 a (.frz o (.dK kvs)))
theorem dO(hl:PE X l tl):PI X tg l (iDic tl):=by
 intro pins s σ H R I h;refine thn (hl pins s σ H _ I h) λv s1⟨x,H1,I1,r1,q1⟩=>?_;obtain⟨a,kvs,e,ha,q⟩:=q1;subst e
 cases r1;obtain⟨hz,hs,vs,r,o,es,ep,e1,e2,e3,e4,e5,e6⟩:=dk_of I1.hok ha;have I2:Inv X pins σ (upd H1 a (.frz o (.dK kvs))) s1:=I1.freeze ha True.intro e1;refine wpAny_pyIter_dict hs ⟨o,es,e1,e2,e3,e4,e5,e6⟩ ?_;refine⟨s1.heap.objs.size,[s1.heap.objs.size],_,_,_,rfl,I2.kept (t':=s1.toks) λb o e=>jZ _ e,turn_dict a _ o kvs e3,⟨_,kq _ rfl,rfl,by rw[r.length];rfl⟩,λb hb=>?_,q o⟩;have e:b=s1.heap.objs.size:=by simpa using hb
 subst e;exact I2.fpOk (jJ _) (I2.hok.fresh (jJ _))
end
theorem e9{g:TG}{tb:TS}{D:Ends}(Pv:Nat->St->Hp->Prop)(h0:Pv 0 σ H)(hl:∀i σ H,i<=kvs.length->Pv i σ H->H a=some (.frz o (.dK kvs)))
  (hs:∀i kv σ H,kvs[i]?=some kv->Pv i σ H->g (kV kv.1) σ H λσ2 H2=>tb {D with nx:=Pv (i+1),ct:=Pv (i+1),bk:=D.nx} σ2 H2)(hd:∀σ H,Pv kvs.length σ H->D.nx σ H):
  ∃W:Nat->Nat->St->Hp->Prop,(∃m,W 0 m σ H)/\∀i m σ H,W i m σ H->
   ((Itd a o kvs).stop i H/\D.nx σ H)∨((Itd a o kvs).go i H/\∃N:St->Hp->Prop,(∀σ' H',N σ' H'->∃m',m'<m/\W (i+1) m' σ' H')/\∀x H',(Itd a o kvs).yld i H x H'->g x σ H' λσ2 H2=>tb {D with nx:=N,ct:=N,bk:=D.nx} σ2 H2):=by
 refine⟨λi m σ H=>m=kvs.length-i/\i<=kvs.length/\Pv i σ H,⟨kvs.length,by simp,jU _,h0⟩,?_⟩;rintro i m σ H⟨rfl,hi,p⟩;have q:=hl i σ H hi p;by_cases hlt:i<kvs.length
 ·refine .inr ⟨⟨q,hlt⟩,Pv (i+1),λσ' H' p'=>⟨kvs.length-(i+1),by lia,rfl,hlt,p'⟩,λx H' y=>?_⟩;obtain⟨e,kv,hkv,ex⟩:=y;subst e ex;exact hs i kv σ _ hkv p
 ·have e:i=kvs.length:=by lia
  subst e;exact .inl ⟨⟨q,jJ _⟩,hd σ H p⟩
noncomputable def ic(n:Nat)(Pv:Nat->Hp->Prop)(i:Nat)(H:Hp):Prop:=∃m',m'<n-i/\m'=n-(i+1)/\i+1<=n/\Pv (i+1) H
theorem dD(hi:i<n)(h:Pv (i+1) H):ic n Pv i H:=⟨n-(i+1),by omega,rfl,hi,h⟩
section
variable{l:Addr}{k:Nat}{g:TG}{tc:TT}{te:TE}{ρ:St}{R:Hp->Prop}{H₀:Hp}
theorem jD{J:It}(Pv:Nat->Hp->Prop)(h0:Pv 0 (upd H₀ l (.lst [])))(hgo:∀i H,i<n->Pv i H->J.go i H)(hst:∀H,Pv n H->J.stop n H)
  (hs:∀i x H H',i<n->J.yld i H x H'->Pv i H->∀zs:St,zs.length=k->g x (zs++ρ) H' λσ2 H2=>(∃zs':St,zs'.length=k/\σ2=zs'++ρ)/\tc σ2 H2 λb H3=>if b=true then te σ2 H3 λy H4=>∃ys,H4 l=some (.lst ys)/\ys.length<sizeLine/\ic n Pv i (upd H4 l (.lst (ys++[y]))) else ic n Pv i H3)
  (hd:∀H,Pv n H->R H):
  ∃W:Nat->Nat->Hp->Prop,(∃m,W 0 m (upd H₀ l (.lst [])))/\∀i m H,W i m H->
   (J.stop i H/\R H)∨(J.go i H/\∀x H',J.yld i H x H'->∀zs:St,zs.length=k->g x (zs++ρ) H' λσ2 H2=>(∃zs':St,zs'.length=k/\σ2=zs'++ρ)/\tc σ2 H2 λb H3=>if b=true then te σ2 H3 λy H4=>∃ys,H4 l=some (.lst ys)/\ys.length<sizeLine/\∃m',m'<m/\W (i+1) m' (upd H4 l (.lst (ys++[y]))) else∃m',m'<m/\W (i+1) m' H3):=by
 refine⟨λi m H=>m=n-i/\i<=n/\Pv i H,⟨n,by simp,jU _,h0⟩,?_⟩;rintro i m H⟨rfl,hi,p⟩;by_cases hlt:i<n
 ·exact .inr ⟨hgo i H hlt p,λx H' y=>hs i x H H' hlt y p⟩
 ·have e:i=n:=by lia
  subst e;exact .inl ⟨hst H p,hd H p⟩
theorem de{K:W.Frag}(Pv:Nat->Hp->Prop)(h0:Pv 0 (upd H₀ l (.lst [])))(hl:∀i H,Pv i H->SqL K H a xs)
  (hs:∀i x H,xs[i]?=some x->Pv i H->∀zs:St,zs.length=k->g x (zs++ρ) H λσ2 H2=>(∃zs':St,zs'.length=k/\σ2=zs'++ρ)/\tc σ2 H2 λb H3=>if b=true then te σ2 H3 λy H4=>∃ys,H4 l=some (.lst ys)/\ys.length<sizeLine/\ic xs.length Pv i (upd H4 l (.lst (ys++[y]))) else ic xs.length Pv i H3)
  (hd:∀H,Pv xs.length H->R H):
  ∃W:Nat->Nat->Hp->Prop,(∃m,W 0 m (upd H₀ l (.lst [])))/\∀i m H,W i m H->
   ((Itl K a).stop i H/\R H)∨((Itl K a).go i H/\∀x H',(Itl K a).yld i H x H'->∀zs:St,zs.length=k->g x (zs++ρ) H' λσ2 H2=>(∃zs':St,zs'.length=k/\σ2=zs'++ρ)/\tc σ2 H2 λb H3=>if b=true then te σ2 H3 λy H4=>∃ys,H4 l=some (.lst ys)/\ys.length<sizeLine/\∃m',m'<m/\W (i+1) m' (upd H4 l (.lst (ys++[y]))) else∃m',m'<m/\W (i+1) m' H3):=
 jD (n:=xs.length) Pv h0 (λi H hi p=>⟨xs,xs[i],hl i H p,jH hi⟩) (λH p=>⟨xs,hl _ H p,jJ _⟩) (λi x H H' hi y p=>by
  obtain⟨e,y⟩:=y;subst e;exact hs i x _ (y xs (hl i _ p)) p) hd
theorem cQ{lo:Int}(Pv:Nat->Hp->Prop)(h0:Pv 0 (upd H₀ l (.lst [])))
  (hs:∀i H,i<n->Pv i H->∀zs:St,zs.length=k->g (.int (lo+i)) (zs++ρ) H λσ2 H2=>(∃zs':St,zs'.length=k/\σ2=zs'++ρ)/\tc σ2 H2 λb H3=>if b=true then te σ2 H3 λy H4=>∃ys,H4 l=some (.lst ys)/\ys.length<sizeLine/\ic n Pv i (upd H4 l (.lst (ys++[y])))else ic n Pv i H3)
  (hd:∀H,Pv n H->R H):
  ∃W:Nat->Nat->Hp->Prop,(∃m,W 0 m (upd H₀ l (.lst [])))/\∀i m H,W i m H->
   ((Itr lo n).stop i H/\R H)∨((Itr lo n).go i H/\∀x H',(Itr lo n).yld i H x H'->∀zs:St,zs.length=k->g x (zs++ρ) H' λσ2 H2=>(∃zs':St,zs'.length=k/\σ2=zs'++ρ)/\tc σ2 H2 λb H3=>if b=true then te σ2 H3 λy H4=>∃ys,H4 l=some (.lst ys)/\ys.length<sizeLine/\∃m',m'<m/\W (i+1) m' (upd H4 l (.lst (ys++[y])))else∃m',m'<m/\W (i+1) m' H3):=
 jD (n:=n) Pv h0 (λi H hi p=>hi) (λH p=>jJ _) (λi x H H' hi y p=>by
  obtain⟨e,y⟩:=y;subst e y;exact hs i _ hi p) hd
theorem compG_dict(Pv:Nat->Hp->Prop)(h0:Pv 0 (upd H₀ l (.lst [])))(hl:∀i H,Pv i H->H a=some (.frz o (.dK kvs)))
  (hs:∀i kv H,kvs[i]?=some kv->Pv i H->∀zs:St,zs.length=k->g (kV kv.1) (zs++ρ) H λσ2 H2=>(∃zs':St,zs'.length=k/\σ2=zs'++ρ)/\tc σ2 H2 λb H3=>if b=true then te σ2 H3 λy H4=>∃ys,H4 l=some (.lst ys)/\ys.length<sizeLine/\ic kvs.length Pv i (upd H4 l (.lst (ys++[y])))else ic kvs.length Pv i H3)
  (hd:∀H,Pv kvs.length H->R H):
  ∃W:Nat->Nat->Hp->Prop,(∃m,W 0 m (upd H₀ l (.lst [])))/\∀i m H,W i m H->
   ((Itd a o kvs).stop i H/\R H)∨((Itd a o kvs).go i H/\∀x H',(Itd a o kvs).yld i H x H'->∀zs:St,zs.length=k->g x (zs++ρ) H' λσ2 H2=>(∃zs':St,zs'.length=k/\σ2=zs'++ρ)/\tc σ2 H2 λb H3=>if b=true then te σ2 H3 λy H4=>∃ys,H4 l=some (.lst ys)/\ys.length<sizeLine/\∃m',m'<m/\W (i+1) m' (upd H4 l (.lst (ys++[y])))else∃m',m'<m/\W (i+1) m' H3):=
 jD (n:=kvs.length) Pv h0 (λi H hi p=>⟨hl i H p,hi⟩) (λH p=>⟨hl _ H p,jJ _⟩) (λi x H H' hi y p=>by
  obtain⟨e,kv,hkv,ex⟩:=y;subst e ex;exact hs i kv _ hkv p) hd
end
theorem g1(h:Q (some v::ρ) H):∀zs:St,zs.length=1->gName 0 v (zs++ρ) H Q:=λzs hz=>by
 match zs,hz with
 |[z],_=>exact h
theorem yes{A B:Hp->Prop}(h:A H):tYes σ H (λb H3=>if b=true then A H3 else B H3):=by
 show if true=true then A H else B H
 rw[if_pos rfl];exact h
section
variable{X:Cx}
noncomputable def Iti(a:Addr)(o:Obj)(kvs:List (Key×V)):It:=
 ⟨λi H=>H a=some (.frz o (.dK kvs))/\i<kvs.length,λi H x H'=>∃kv t,kvs[i]?=some kv/\H t=none/\x=.ref t/\H'=upd H t (.tup [kV kv.1,kv.2]),λi H=>H a=some (.frz o (.dK kvs))/\kvs.length<=i⟩
theorem iD:entryFor table "dict_itemiterator.__iter__"=some Builtin.«dict_keyiterator.__iter__»:=entryFor_alias (id':="dict_keyiterator.__iter__") (by kernel_rfl) rfl (by decide+kernel) (by kernel_rfl)
theorem Inv.trackI(I:Inv X pins σ H s)(h0:X.s₀.heap.objs.size<=t)(hn:H t=none)(hL:t≠X.env.locals)(hc:∀x c,X.env.cells.lookup x=some c->c≠t)(hp:∀p∈X.pn++pins,p.1≠t)(hok:HOk X.prog X.w (upd H t o) s.heap):Inv X pins σ (upd H t o) s:=by
 have up:∀c,c≠t->H c=none->upd H t o c=none:=λc n r=>by rw[ai n];exact r
 refine⟨I.ok,I.os,I.bare,⟨I.base.keep,I.base.slot,λb ob e n hx=>up b (kQ (kF (kf e) h0)) (I.base.free b ob e n hx),I.base.there,λb xs e=>?_,λb ob z e=>?_,λb ps e=>?_⟩,I.loc,I.cell,up _ hL.symm I.free,λx c e=>up _ (hc x c e) (I.freeC x c e),λp hp'=>?_,hok,I.len⟩
 ·have q:=I.base.tups b xs e;rw[ai (ar q hn)];exact q
 ·have q:=I.base.frzs b ob z e;rw[ai (ar q hn)];exact q
 ·obtain⟨m,q⟩:=I.base.tbls b ps e;exact⟨m,by rw[ai (ar q hn)];exact q⟩
 ·obtain⟨e,n,r⟩:=I.pin p hp';exact⟨e,up _ (hp p hp') n,r⟩
theorem turn_items{K:W.Frag}(a it:Addr)(o:Obj)(kvs:List (Key×V))(hd:o.data=.dict es ep):
  Turn P w K (.Tuple elts x1 tpos) (Iti a o kvs) [it] it (λi h=>∃ok ov,IsItemIter h it a i kvs.length ep ok ov) where
 mem:=by simp
 obj:=λi h st b hb=>by
  have e:b=it:=by simpa using hb
  subst e;obtain⟨ok,ov,e⟩:=st
  exact⟨_,e,λv z=>by
   have z':Data.fields _=Data.cell v:=z
   cases z'⟩
 keep:=λi h h' st k=>let⟨ok,ov,e⟩:=st;⟨ok,ov,k it (by simp) _ e⟩
 item:=by
  intro X hP hw hK hc i pins s σ H E I hf st hg;subst hP hw hK;obtain⟨ha,hi⟩:=hg;obtain⟨ho,hz,hs,vs,r,o',es',ep',e1,e2,e3,e4,e5,e6⟩:=I.hok a _ ha;rw[ho]at e1;cases e1;rw[hd]at e3;cases e3;have hx:kvs[i]?=some kvs[i]:=jH hi;obtain⟨v,hv,rv⟩:=KV.get r hx;obtain⟨f0,f1,f2,f3,f4,f5⟩:=hf it (by simp);obtain⟨ok,ov,st⟩:=st;have st0:IsItemIter s.heap it a i vs.length ep ok ov:=by rw[<-r.length];exact st
  refine wpAny_pyNext_items_item st0 ⟨o,es,ho,e2,hd,e4,e5,e6⟩ hv λkey h' hk st' ht hz' kk=>?_;rw[<-r.length]at st';refine⟨_,rfl,?_⟩;refine wpAny_letOwnedTupleGo_items (s:={s with heap:=h'}) st' λh2 st2 sb=>?_;have nt:s.heap.objs.size≠it:=Nat.ne_of_gt (kf st0);have I1:Inv X pins σ H {s with heap:=h2,toks:=s.toks}:=I.turned (t':=s.toks) (λb o hb e=>(sb.2 b hb).trans (kk b o hb e)) f0 f1 f3 f4 f5;have hn:H s.heap.objs.size=none:=I.hok.fresh (jJ _);have ht2:h2.get? s.heap.objs.size=some {cls:=.type "tuple",data:=.seq #[key,v]}:=(sb.2 _ nt).trans ht
  have hok:HOk X.prog X.w (upd H s.heap.objs.size (.tup [kV (kvs[i]).1,(kvs[i]).2])) h2:=λb u e=>by
   by_cases hb:b=s.heap.objs.size
   ·subst hb;rw[ag]at e
    cases e;exact⟨zL2,[key,v],.cons (is_kV hk) (.cons rv .nil),_,ht2,rfl,_,rfl⟩
   ·rw[ai hb]at e;exact(I1.hok b u e).stay (λ_ _ _ q=>q) (λc q=>by rw[ai (ar q hn)];exact q) λc xs q=>by rw[ai (ar q hn)];exact q
  have I2:=I1.trackI (t:=s.heap.objs.size) I.sz hn (Nat.ne_of_gt I.lt) (λx c e z=>by
   obtain⟨v,q⟩:=I.cell x c e;exact absurd q.lt (by rw[z];exact lW _)) (λp hp z=>absurd (kf (I.pin p hp).1) (by rw[z];exact lW _)) hok
  refine⟨.ref s.heap.objs.size,_,I2,rfl,⟨_,_,hx,hn,rfl,rfl⟩,⟨_,_,st2⟩,λb hb=>?_⟩;have e:b=it:=by simpa using hb
  subst e;rw[ai nt.symm];exact f0
 done:=by
  intro X hP hw hK hc i pins s σ H E I hf st hg;subst hP hw hK;obtain⟨ha,hi⟩:=hg;obtain⟨ho,hz,hs,vs,r,o',es',ep',e1,e2,e3,e4,e5,e6⟩:=I.hok a _ ha;rw[ho]at e1;cases e1;rw[hd]at e3;cases e3;obtain⟨f0,f1,f2,f3,f4,f5⟩:=hf it (by simp);obtain⟨ok,ov,st⟩:=st;have st0:IsItemIter s.heap it a i vs.length ep ok ov:=by rw[<-r.length];exact st
  exact wpAny_pyNext_items_end (I.ok.hd hc) st0 ⟨o,es,ho,e2,hd,e4,e5,e6⟩ (List.getElem?_eq_none (by rw[<-r.length];exact hi)) λh' eb=>⟨rfl,I.turned (t':=s.toks) (λb o hb e=>eb b o hb e) f0 f1 f3 f4 f5⟩
 self:=λ_ _ _ _ _ st h=>by
  obtain⟨ok,ov,st⟩:=st;have hT:Shared.TypeIs _ (.ref it) "dict_itemiterator":=⟨_,st,rfl⟩;refine wpAny_pyIter_slot hT F.slot_dict_itemiterator_iter (wpAny_call_entry F.slot_dict_itemiterator_iter hT iD ?_ (F.args_dict_itemiterator_iter_1 _));show wpAny _ _ (ret (.ref it)) _ _ _;exact lg ⟨_,rfl,"dict_itemiterator",_,hT,F.slot_dict_itemiterator_next.lookup,h⟩
noncomputable def iItems(to:TE):TI:=λσ H R=>to σ H λx H1=>∃a kvs,x=.ref a/\H1 a=some (.dK kvs)/\∀o,R (Iti a o kvs) (upd H1 a (.frz o (.dK kvs)))
theorem eO(ho:PE X o to)(hbase:attributeBase o "items" X.env (eval o X.env)=eval o X.env:=by rfl)(hline:(apos.endLine==cpos.line)=true:=by rfl):
  PI X (.Tuple elts x1 tpos) (.Call (.Attribute o "items" apos) [] [] cpos) (iItems to):=by
 intro pins s σ H R I h;refine wpAny_Call_method0_late hbase hline (thn (ho pins s σ H _ I h) λv s1⟨x,H1,I1,r1,a,kvs,e,ha,q⟩=>?_);subst e
 cases r1;obtain⟨hz,hs,vs,r,o,es,ep,e1,e2,e3,e4,e5,e6⟩:=dk_of I1.hok ha;have hm:s1.heap.DictOf (bt X.prog X.w) a vs:=⟨o,es,ep,e1,e2,e3,e4,e5,e6⟩;obtain⟨h1,h2⟩:=tyV_is (T:="dict") I1 (x:=.ref a) rfl (.inr (.inr (.inl ⟨rfl,.inl ⟨kvs,ha⟩⟩)));refine⟨"dict","dict.items",F.plainAttrs_dict,F.slot_dict_items,F.type_dict_items,h1,h2,?_⟩;have I2:Inv X pins σ (upd H1 a (.frz o (.dK kvs))) s1:=I1.freeze ha True.intro e1;refine method_meetsIn F.slot_dict_items F.entry_dict_items rfl (PySem.evalArgs_none ⟨rfl,hm.typeIs,F.args_dict_items_1 _,_,meets_dict_items (bt X.prog X.w) a hs,⟨vs,hm⟩,?_⟩);have I3:Inv X pins σ (upd H1 a (.frz o (.dK kvs))) {s1 with heap:=s1.heap.push {cls:=.type "dict_items",data:=.fields #[.ref a]}}:=I2.kept (t':=s1.toks) λb o e=>jZ _ e;refine wpAny_pyIter_items (knd:=bt X.prog X.w) (d:=a) (kvs:=vs) (ep:=ep) ⟨_,kq _ rfl,rfl,rfl⟩ ⟨o,es,jZ _ e1,e2,e3,e4,e5,e6⟩ ?_;refine⟨_,[_],_,_,_,rfl,I3.kept (t':=s1.toks) λb o e=>jZ _ e,turn_items a _ o kvs e3,⟨.none,.none,?_⟩,λb hb=>?_,q o⟩
 ·rw[r.length];exact kq _ rfl
 ·have e:=jN.mp hb;subst e;exact I3.fpOk (jJ _) (I3.hok.fresh (jJ _))
end
theorem dX{g:TG}{tb:TS}{D:Ends}(Pv:Nat->St->Hp->Prop)(h0:Pv 0 σ H)(hl:∀i σ H,i<=kvs.length->Pv i σ H->H a=some (.frz o (.dK kvs)))
  (hs:∀i kv t σ H,kvs[i]?=some kv->H t=none->Pv i σ H->g (.ref t) σ (upd H t (.tup [kV kv.1,kv.2])) λσ2 H2=>tb {D with nx:=Pv (i+1),ct:=Pv (i+1),bk:=D.nx} σ2 H2)(hd:∀σ H,Pv kvs.length σ H->D.nx σ H):
  ∃W:Nat->Nat->St->Hp->Prop,(∃m,W 0 m σ H)/\∀i m σ H,W i m σ H->
   ((Iti a o kvs).stop i H/\D.nx σ H)∨((Iti a o kvs).go i H/\∃N:St->Hp->Prop,(∀σ' H',N σ' H'->∃m',m'<m/\W (i+1) m' σ' H')/\∀x H',(Iti a o kvs).yld i H x H'->g x σ H' λσ2 H2=>tb {D with nx:=N,ct:=N,bk:=D.nx} σ2 H2):=by
 refine⟨λi m σ H=>m=kvs.length-i/\i<=kvs.length/\Pv i σ H,⟨kvs.length,by simp,jU _,h0⟩,?_⟩;rintro i m σ H⟨rfl,hi,p⟩;have q:=hl i σ H hi p;by_cases hlt:i<kvs.length
 ·refine .inr ⟨⟨q,hlt⟩,Pv (i+1),λσ' H' p'=>⟨kvs.length-(i+1),by lia,rfl,hlt,p'⟩,λx H' y=>?_⟩;obtain⟨kv,t,hkv,ht,ex,eh⟩:=y;subst ex eh;exact hs i kv t σ _ hkv ht p
 ·have e:i=kvs.length:=by lia
  subst e;exact .inl ⟨⟨q,jJ _⟩,hd σ H p⟩
theorem vals_idx:∀{xs:List V}{us:List Value},xs.length=us.length->(∀(j:Nat)(x:V)(u:Value),xs[j]?=some x->us[j]?=some u->RelV x u)->Vals xs us
 |[],[],_,_=>.nil
 |[],_::_,h,_=>by cases h
 |_::_,[],h,_=>by cases h
 |x::xs,u::us,h,k=>.cons (k 0 x u rfl rfl) (vals_idx (Nat.succ.inj h) λj y w a b=>k (j+1) y w (by simpa using a) (by simpa using b))
section
variable{X:Cx}
theorem cX(hh:X.A.handled=none):dH X (.type "list") (λxs H Q=>∃p kvs,xs=[.ref p]/\Rd H p (.dK kvs)/\∀l,H l=none->Q (.ref l) (upd H l (.lst (kvs.map λkv=>kV kv.1)))):=by
 intro pins s σ H xs us Q I r h;obtain⟨p,kvs,rfl,hp,q⟩:=h;obtain⟨u,rfl,rx⟩:=gH r
 cases rx;obtain⟨hz,hs,vs,kv,hD⟩:=gR I.hok hp;obtain⟨ep,hat⟩:=hD.dictAt;have el:=kv.length;refine PySem.W.kdl_call (PySem.W.kdl_dict (knd:=bt X.prog X.w) (kvs:=vs) (ep:=ep) hs) hh hat (by rw[<-el];exact hz) λh' tk acc c hk hD' hacc=>?_;obtain⟨e1,e2⟩:=hacc;refine⟨.ref s.heap.objs.size,_,I.laid (t':=tk) hk (jJ _) (show ObjOk X.prog X.w _ h' _ (.lst (kvs.map λkv=>kV kv.1))from⟨by rw[jF];exact hz,acc.toList,c,vals_idx (by rw[jF,el,<-e1];simp) λj x w a b=>?_,by simpa using hD'⟩),rfl,q _ (I.hok.fresh (jJ _))⟩;rw[jK]at a
 cases e:kvs[j]? with
 |none=>rw[e]at a;cases a
 |some z=>
  rw[e]at a
  cases a;obtain⟨v,hv,_⟩:=KV.get kv e;obtain⟨k,y,hk,hi⟩:=e2 j w (by simpa using b);rw[hv]at hk
  cases hk;exact is_kV hi
noncomputable def ViewO(v d:Addr):HO:=.ext λh=>h.IsValuesView v d
noncomputable def rValues:V->List V->Hp->VK->Prop:=λx vs H Q=>∃a kvs,x=.ref a/\vs=[]/\Rd H a (.dK kvs)/\∀v,H v=none->Q (.ref v) (upd H v (ViewO v a))
theorem mt_values:MtM X "dict.values" rValues:=by
 intro pins s σ H x vs v us Q I rx rv h;obtain⟨a,kvs,rfl,rfl,ha,q⟩:=h
 cases rx
 cases rv;obtain⟨hz,hs,ws,kv,hD⟩:=gR I.hok ha;refine call_meetsIn PySem.F.slot_dict_values hD.typeIs PySem.F.entry_dict_values (PySem.F.args_dict_values_1 _) (meets_dict_values (bt X.prog X.w) a hs) ⟨⟨ws,hD⟩,?_⟩;have e:(s.heap.push {cls:=.type "dict_values",data:=.fields #[.ref a]}).get? s.heap.objs.size=some {cls:=.type "dict_values",data:=.fields #[.ref a]}:=kq _ rfl;refine⟨.ref s.heap.objs.size,_,I.laid (t':=s.toks) (λb o e=>jZ _ e) (jJ _) (show ObjOk X.prog X.w _ _ _ (ViewO _ a) from⟨⟨_,e,rfl,rfl⟩,⟨_,e⟩,λh1 h2 z k=>?_⟩),rfl,q _ (I.hok.fresh (jJ _))⟩;obtain⟨o,ho,c⟩:=z;exact⟨o,k _ ho,c⟩
theorem call_list_vals(hh:X.A.handled=none):dH X (.type "list") (λxs H Q=>∃v a kvs,xs=[.ref v]/\H v=some (ViewO v a)/\Rd H a (.dK kvs)/\∀l,H l=none->Q (.ref l) (upd H l (.lst (kvs.map (·.2))))):=by
 intro pins s σ H xs us Q I r h;obtain⟨v,p,kvs,rfl,hv,hp,q⟩:=h;obtain⟨u,rfl,rx⟩:=gH r
 cases rx;obtain⟨hz,hs,vs,kv,hD⟩:=gR I.hok hp;obtain⟨ep,hat⟩:=hD.dictAt;obtain⟨hview,_⟩:=(show ObjOk X.prog X.w H s.heap v (ViewO v p) from I.hok v _ hv);have el:=kv.length;refine PySem.W.kdl_call (PySem.W.kdl_values (knd:=bt X.prog X.w) (kvs:=vs) (ep:=ep)) hh ⟨hview,hat⟩ (by rw[<-el];exact hz) λh' tk acc c hk hD' hacc=>?_;obtain⟨e1,e2⟩:=hacc;refine⟨.ref s.heap.objs.size,_,I.laid (t':=tk) hk (jJ _) (show ObjOk X.prog X.w _ h' _ (.lst (kvs.map (·.2))) from⟨by rw[jF];exact hz,acc.toList,c,vals_idx (by rw[jF,el,<-e1];simp) λj x w a b=>?_,by simpa using hD'⟩),rfl,q _ (I.hok.fresh (jJ _))⟩;rw[jK]at a
 cases e:kvs[j]? with
 |none=>rw[e]at a;cases a
 |some z=>
  rw[e]at a
  cases a;obtain⟨y,hy,ry⟩:=KV.get kv e;obtain⟨k,hk⟩:=e2 j w (by simpa using b);rw[hy]at hk
  cases hk;exact ry
end
section
variable{X:Cx}
theorem ia:dH X (.type "dict") (λxs H Q=>∃p kvs,xs=[.ref p]/\Rd H p (.dK kvs)/\∀l,H l=none->Q (.ref l) (upd H l (.dK kvs))):=by
 intro pins s σ H xs us Q I r h;obtain⟨p,kvs,rfl,hp,q⟩:=h;obtain⟨u,rfl,rx⟩:=gH r
 cases rx;exact d_copyOf I hp λl s' nl I'=>⟨.ref l,_,I',rfl,q l nl⟩
end
section
variable{l:Addr}{k:Nat}{g:TG}{tc:TT}{te:TE}{ρ:St}{R:Hp->Prop}{H₀:Hp}
theorem compG_items(Pv:Nat->Hp->Prop)(h0:Pv 0 (upd H₀ l (.lst [])))(hl:∀i H,Pv i H->H a=some (.frz o (.dK kvs)))
  (hs:∀i kv t H,kvs[i]?=some kv->H t=none->Pv i H->∀zs:St,zs.length=k->g (.ref t) (zs++ρ) (upd H t (.tup [kV kv.1,kv.2])) λσ2 H2=>(∃zs':St,zs'.length=k/\σ2=zs'++ρ)/\tc σ2 H2 λb H3=>if b=true then te σ2 H3 λy H4=>∃ys,H4 l=some (.lst ys)/\ys.length<sizeLine/\ic kvs.length Pv i (upd H4 l (.lst (ys++[y])))else ic kvs.length Pv i H3)
  (hd:∀H,Pv kvs.length H->R H):
  ∃W:Nat->Nat->Hp->Prop,(∃m,W 0 m (upd H₀ l (.lst [])))/\∀i m H,W i m H->
   ((Iti a o kvs).stop i H/\R H)∨((Iti a o kvs).go i H/\∀x H',(Iti a o kvs).yld i H x H'->∀zs:St,zs.length=k->g x (zs++ρ) H' λσ2 H2=>(∃zs':St,zs'.length=k/\σ2=zs'++ρ)/\tc σ2 H2 λb H3=>if b=true then te σ2 H3 λy H4=>∃ys,H4 l=some (.lst ys)/\ys.length<sizeLine/\∃m',m'<m/\W (i+1) m' (upd H4 l (.lst (ys++[y])))else∃m',m'<m/\W (i+1) m' H3):=
 jD (n:=kvs.length) Pv h0 (λi H hi p=>⟨hl i H p,hi⟩) (λH p=>⟨hl _ H p,jJ _⟩) (λi x H H' hi y p=>by
  obtain⟨kv,t,hkv,ht,ex,eh⟩:=y;subst ex eh;exact hs i kv t _ hkv ht p) hd
end
section
variable{X:Cx}{CX:CXT}{j:Nat}{E:XK}{m:Str}{pos apos:Pos}{e o:Expr}{es:List Expr}{ta:TE}{t:TA}
theorem pe_mtDK{K:W.Frag}(hP:X.prog=P)(hw:X.w=w)(hK:X.K=K)(hmg:X.mg=mg)(hb:X.base=base)(he:PE X o ta)(hr:Room j X.A)(hx:cY CX X E)(ha:PA X (e::es) t)
  (hst:starEach (e::es) X.env=(false,eval e X.env)::starEach es X.env:=by rfl)(hpl:(backTo pos (starEach es X.env)).any (·.1)=false:=by rfl)
  (ht:eval (.Call (.Attribute o m apos) (e::es) [] pos) X.env=(do
   let ov<-eval o X.env
   standAt apos.atName
   let(f,first)<-holding [ov] (getMethod ov m pl)
   callWith pos f first (backTo pos (starEach (e::es) X.env)) (backToKw pos (keywordEach [] X.env))):=by rfl):PE X (.Call (.Attribute o m apos) (e::es) [] pos) (tMethD P w K mg base CX m j E ta t):=by
 subst hP hw hK hmg hb;exact cJ he hr hx ha hst hpl ht
theorem pg_tupK{K:W.Frag}{t:TGs}(hK:X.K=K)(hc:X.calm=true)(h:PGs X es t)
  (hn:(assignEach es X.env).length=n:=by rfl)(hst:(assignEach es X.env).findIdx? (·.1)=none:=by rfl):PG X (.Tuple es k pos) (gTup K n t):=by
 subst hK;exact gB hc h hn hst
end
theorem eqV_str(x y:Str):eqV (.str x) (.str y)=decide (x=y):=by
 unfold eqV;by_cases h:x=y
 ·subst h;simp
 ·simp[h]
theorem flat_strs(ts:List Str):(ts.map V.str).all cU=true:=by
 rw[List.all_eq_true];intro v hv;obtain⟨t,_,rfl⟩:=jL.mp hv;rfl
theorem ne_idx:∀{ts:List Str}{m:Nat},m<ts.idxOf y->ts[m]?≠some y
 |[],_,_=>by simp
 |t::ts,m,h=>by
  rw[List.idxOf_cons]at h;by_cases e:t=y
  ·simp[e]at h
  ·have hb:(t==y)=false:=by simpa using e
   rw[hb]at h
   cases m with
   |zero=>simpa using e
   |succ m=>simpa using ne_idx (ts:=ts) (m:=m) (by simpa using h)
section
variable{X:Cx}
noncomputable def rIndexT(K:W.Frag):V->List V->Hp->VK->Prop:=λx vs H Q=>∃(l:Addr)(ts:List Str)(y:Str),x=.ref l/\vs=[.str y]/\SqL K H l (ts.map V.str)/\y∈ts/\Q (.int (ts.idxOf y:Nat)) H
theorem mt_indexT:MtM X "list.index" (rIndexT X.K):=by
 intro pins s σ H x vs v us Q I rx rv h;obtain⟨l,ts,y,rfl,rfl,hq,hy,q⟩:=h
 cases rx;obtain⟨u,rfl,ru⟩:=rv.one;obtain⟨its,r,pl,hz⟩:=I.list hq;have el:=r.length;rw[jF]at el hz;obtain⟨⟨cls,dd,data,sl⟩,ho,hc,n,hd⟩:=pl.isList;simp only at hc hd;subst hc hd;have hj:ts.idxOf y<ts.length:=List.idxOf_lt_length_iff.mpr hy;have hzz:=PySem.sizeLine_eq
 have key:∀(m:Nat)(hm:m<its.length),eqU (.str y) its[m]=decide (ts[m]'(by lia)=y):=λm hm=>by
  have g1:(ts.map V.str)[m]?=some (.str (ts[m]'(by lia))):=by rw[jK,jH (by lia)];rfl
  rw[eqU_of (cG r g1 (jH hm)) rfl,eqV_str]
 refine call_meets F.slot_list_index ⟨_,ho,rfl⟩ F.entry_list_index (F.args_list_index_2 _ _) (SeqAt.list_indexAt l its.toArray n dd sl u (eqU (.str y)) (ts.idxOf y) (by rw[j5];lia) (by lia) ?_ ?_) ⟨ho,λw hw=>ju ru rfl r (flat_strs ts) w (by simpa using hw),?_⟩
 ·rw[kY,key _ (by lia)];exact j6 (List.getElem_idxOf hj)
 ·intro m hm hlt;rw[j5]at hm;rw[kY,key _ hm];refine jY λe=>?_;exact ne_idx hlt (by rw[jH (by lia),e])
 ·exact⟨.int _,H,I.tok _,⟨_,rfl⟩,q⟩
end
section
variable{prog:Program}{w:World}{A:Around}
variable{E:Value->Shared->Prop}{s:Shared}
noncomputable def ci(led:Bool):Obj:={cls:=.type "set",dict:=none,data:=.set #[] 0 (.fresh 0 0 led)}
end
section
variable{X:Cx}
inductive IrNeL(K:W.Frag)(x:V)(y:V)(H:Hp)(Q:VK):Prop
 |mk(p:_)(q:_)(xs:_)(ys:_)(h1:x=.ref p)(h2:y=.ref q)(h3:SqL K H p xs)(h4:SqL K H q ys)(h5:xs.all cU=true)(h6:ys.all cU=true)(h7:Q (.bl (!eqVs xs ys)) H):IrNeL K x y H Q
end
noncomputable def dput(acc:List Str)(x:Str):List Str:=if x∈acc then acc else acc++[x]
noncomputable def fk(ts:List Str):List Str:=ts.foldl dput []
theorem dset_snoc(ts:List Str)(x:Str):fk (ts++[x])=if x∈fk ts then fk ts else fk ts++[x]:=by
 unfold fk;rw[lL];rfl
theorem dgo_mem:∀{ts acc:List Str},x∈ts.foldl dput acc↔x∈acc∨x∈ts
 |[],acc=>by simp
 |t::ts,acc=>by
  rw[lZ,dgo_mem,j3];unfold dput
  split
  ·rename_i h;constructor
   ·exactλz=>z.imp id .inr
   ·rintro(z|rfl|z)
    ·exact .inl z
    ·exact .inl h
    ·exact .inr z
  ·rw[jP,jN,or_assoc]
theorem mem_dset:x∈fk ts↔x∈ts:=by
 unfold fk;rw[dgo_mem];simp
theorem dgo_len:∀(ts acc:List Str),(ts.foldl dput acc).length<=acc.length+ts.length/\((ts.foldl dput acc).length=acc.length+ts.length↔ts.Nodup/\∀x∈ts,¬x∈acc)
 |[],acc=>by simp
 |t::ts,acc=>by
  rw[lZ,kz,kM];obtain⟨h1,h2⟩:=dgo_len ts (dput acc t);unfold dput at h1 h2⊢;by_cases m:t∈acc
  ·rw[if_pos m]at h1 h2⊢;exact⟨by omega,λz=>by omega,λz=>absurd m (z.2 t j4)⟩
  ·rw[if_neg m]at h1 h2⊢;rw[jO]at h1 h2;simp only[kr]at h1 h2;refine⟨by omega,λz=>?_,λz=>?_⟩
   ·obtain⟨a1,a2⟩:=h2.mp (by omega);refine⟨⟨λq=>a2 t q (j8 _ (jN.mpr rfl)),a1⟩,λx hx q=>?_⟩;rcases j3.mp hx with rfl|hx
    ·exact m q
    ·exact a2 x hx (jX _ q)
   ·have:=h2.mpr ⟨z.1.2,λx hx q=>?_⟩
    ·omega
    ·rcases jP.mp q with q|q
     ·exact z.2 x (jW _ hx) q
     ·rw[jN.mp q]at hx;exact z.1.1 hx
theorem dset_len(ts:List Str):(fk ts).length<=ts.length:=by
 have:=(dgo_len ts []).1
 unfold fk;simpa using this
theorem dset_nodup(ts:List Str):(fk ts).length=ts.length↔ts.Nodup:=by
 have:=(dgo_len ts []).2
 unfold fk;simpa using this
section
variable{prog:Program}{w:World}{A:Around}
theorem setD_loop{St:Nat->Shared->Prop}(W:WalksS prog w A.in1 it fp wr G ts.length Pv St)
  (hv:∀i v,Pv i v->∃x t,ts[i]?=some x/\v=.str x t)(hb:ts.length+1<scanBound)(hp:p∉fp):
  ∀(k i:Nat)(s:Shared),i+k=ts.length->St i s->s.heap.SetOf (PySem.strKind prog w) p (λx=>decide (x∈ts.take i)) (fk (ts.take i)).length->
   (∀s',Moved (p::wr) G s s'->s'.heap.SetOf (PySem.strKind prog w) p (λx=>decide (x∈ts)) (fk ts).length->R (.ok (.ret .none)) s')->
   codeAny (model prog w) A (.builtin "set.update.loop" ⟨[.ref p,.ref it],[]⟩) R s
 |0,i,s,hk,st,hS,hR=>by
  have hi:i=ts.length:=by omega
  refine codeAny_builtin PyProof.Rows.F.entry_set_update_loop ?_;rw[Around.under_plainId PyProof.Rows.F.plain_set_update_loop _];show wpAny _ A.in1 (pyNext (.ref it)>>=_) _ _ s;rw[hi]at st;refine kJ (W.done s _ _ st λs' hm=>?_);show wpAny _ A.in1 (ret Value.none) _ _ s';refine lg (hR s' (hm.mono λb h=>jW _ h) ?_);rw[hi,jQ]at hS;obtain⟨o,es,ep,t,ho,c⟩:=hS;exact⟨o,es,ep,t,hm.heap p _ (λh=>hp (W.sub _ h)) ho,c⟩
 |k+1,i,s,hk,st,hS,hR=>by
  refine codeAny_builtin PyProof.Rows.F.entry_set_update_loop ?_;rw[Around.under_plainId PyProof.Rows.F.plain_set_update_loop _];show wpAny _ A.in1 (pyNext (.ref it)>>=_) _ _ s;refine kJ (W.item i s _ _ (by omega) st λv s1 h1 st1 hm=>?_);obtain⟨x,t,ex,rfl⟩:=hv i v h1
  have hS1:s1.heap.SetOf (PySem.strKind prog w) p (λx=>decide (x∈ts.take i)) (fk (ts.take i)).length:=by
   obtain⟨o,es,ep,t,ho,c⟩:=hS;exact⟨o,es,ep,t,hm.heap p _ (λh=>hp (W.sub _ h)) ho,c⟩
  have dl:=dset_len (ts.take i);rw[jT]at dl;show wpAny _ A.in1 (holding [Value.str x t] (setAdd p (.str x t))>>=_) _ _ s1;refine kJ (wpAny_holding ?_);unfold setAdd;refine wpAny_holding (kJ ((PySem.strKind prog w).pyHash (k:=x) (PySem.strKind_is _ _ _ _) ?_));refine wpAny_setAddHashed_of (knd:=PySem.strKind prog w) (s:={s1 with toks:=s1.toks+1}) (PySem.strKind_is _ _ _ _) rfl hS1 (by omega) λh' sb hS2=>?_
  have hS3:h'.SetOf (PySem.strKind prog w) p (λx=>decide (x∈ts.take (i+1))) (fk (ts.take (i+1))).length:=by
   refine PyProof.Rows.SetOf_congr hS2 (λz=>?_) ?_
   ·rw[jS,ex,j0,Bool.eq_iff_iff];simp
   ·rw[jS,ex,j0,dset_snoc];by_cases m:x∈ts.take i
    ·rw[if_pos (j6 m),if_pos (mem_dset.mpr m)]
    ·rw[if_neg (by rw[jY m];decide),if_neg (λz=>m (mem_dset.mp z)),jO];rfl
  refine lg ⟨plainId_quiet PyProof.Rows.F.plain_set_update_loop _,setD_loop W hv hb hp k (i+1) _ (by omega) (W.frame _ s1 _ _ st1 (Nat.le_succ _) λb hb o e=>?_) hS3 λs2 hm2 hS4=>?_⟩
  ·rw[sb.2 b λz=>hp (z▸hb)];exact e
  ·refine hR s2 (Moved.trans W.gtrans ((hm.mono λb h=>jW _ h).then_heap (Nat.le_succ _) λb o hb e=>?_) hm2) hS4;rw[sb.2 b λz=>hb (z▸j4)];exact e
variable{E:Value->Shared->Prop}{s:Shared}
theorem init_setD(hh:A.handled=none)(hl:s.heap.IsList l its.toArray)(hv:Vals (ts.map V.str) its)(hb:ts.length+1<scanBound)
  {R:Value->Shared->Prop}(h:∀(h':Heap)(tk:Nat),h'.SetOf (PySem.strKind prog w) s.heap.objs.size (λx=>decide (x∈ts)) (fk ts).length->(∀b o,s.heap.get? b=some o->h'.get? b=some o)->R .none {s with heap:=h',toks:=tk}):
  wpAny (model prog w) A (Builtin.«set.__init__» ⟨[.ref s.heap.objs.size,.ref l],[]⟩) (λfin s'=>∃r,fin=.done (.ret r)/\R r s') E {s with heap:=s.heap.push (ci led)}:=by
 obtain⟨⟨cls,dd,data,sl⟩,ho,hc,n,hd⟩:=id hl;simp only at hc hd;subst hc hd;have hol:(s.heap.push (ci led)).get? l=some _:=jZ _ ho;have z1:=PySem.F.sub_list_set;have z2:=PySem.F.sub_list_frozenset;have z3:(Value.type "list"==Value.type "dict")=false:=by decide
 unfold Builtin.«set.__init__»noKeywords Builtin.Frozenset.updateFrom;generalize hPI:pyIter=PI
 wp_walk
 subst hPI;have lt:=kf ho;have hl1:(s.heap.push (ci led)).IsList l its.toArray:=⟨_,hol,rfl,n,rfl⟩;have hS:(s.heap.push (ci led)).get? s.heap.objs.size=some (ci led):=kq _ rfl;refine wpAny_pyIter_list hl1 (kJ (wpAny_runValue ?_));have el:=hv.length;rw[jF]at el;have n1:l≠(s.heap.push (ci led)).objs.size:=by rw[Heap.size_push];exact kQ (Nat.lt_succ_of_lt lt)
 have n2:s.heap.objs.size∉[(s.heap.push (ci led)).objs.size,l]:=by
  rw[Heap.size_push];intro m;rcases j3.mp m with z|z
  ·exact absurd z (kQ (Nat.lt_succ_self _))
  ·exact absurd (jN.mp z) (Nat.ne_of_gt lt)
 have e2:its.toArray.size=ts.length:=by rw[j5,el]
 have W:=(Walks.list (prog:=prog) (w:=w) (A:=A.in1) (by simpa using hh) (s.heap.push (ci led)).objs.size l n1 its.toArray).toS;rw[e2]at W;refine setD_loop W (λi v hvi=>?_) hb n2 ts.length 0 _ (by lia) ⟨⟨_,kq _ rfl,rfl,rfl⟩,hl1.push _⟩ ?_ λs' hm hS'=>?_
 ·have g:its[i]?=some v:=by simpa using hvi
  have hi:i<ts.length:=by rw[el];exact(jG.mp g).1
  have g1:(ts.map V.str)[i]?=some (.str ts[i]):=by rw[jK,jH hi];rfl
  obtain⟨t,e⟩:=cG hv g1 g;exact⟨_,t,jH hi,e⟩
 ·exact PyProof.Rows.SetOf_congr ((PyProof.Rows.setObjOf_fresh (knd:=PySem.strKind prog w) led).setOf (jZ _ hS) (by unfold scanBound;lia)) (λ_=>by simp) rfl
 ·obtain⟨h',g',d',tk',os'⟩:=s';have eg:g'=s.gens:=hm.gens;have ed:d'=s.drawn:=hm.drawn;have eo:os'=s.os:=hm.os;subst eg ed eo;show wpAny _ _ _ _ _ _;refine lg ?_;show wpAny _ _ (ret Value.none) _ _ _;refine lg ⟨_,rfl,h h' tk' hS' λb o e=>?_⟩;have lb:=kf e;refine hm.heap b o (λm=>?_) (jZ _ (jZ _ e));rcases j3.mp m with z|z
  ·exact absurd z (kQ lb)
  ·refine absurd (jN.mp z) (kQ ?_);rw[Heap.size_push];exact Nat.lt_succ_of_lt lb
theorem call_set_strsD(hh:A.handled=none)(hl:s.heap.IsList l its.toArray)(hv:Vals (ts.map V.str) its)(hb:ts.length+1<scanBound)
  (h:∀(h':Heap)(tk:Nat),h'.SetOf (PySem.strKind prog w) s.heap.objs.size (λx=>decide (x∈ts)) (fk ts).length->(∀b o,s.heap.get? b=some o->h'.get? b=some o)->Q (.ref s.heap.objs.size) {s with heap:=h',toks:=tk}):
  wpAny (model prog w) A (call (.type "set") [.ref l]) Q E s:=by
 obtain⟨c,tl,y1⟩:=F.called_set.mro;have y2:=F.called_set.made;have y3:=F.called_set.sub;have y4:=F.called_set.notType;have y5:=F.called_set.canCreate;have y6:=PySem.F.typeCall_set_1 (.ref l);refine wpAny_call (codeAny_of_tree ?_);show wpAny _ _ (callAny (.type "set") _) _ _ _;refine lg ⟨Code.quiet_builtin _ (by decide+kernel),codeAny_builtin F.entry_type_call ?_⟩;rw[Around.under_plain (weight_type_call_type "set" [.ref l] []) rfl]
 repeat(any_goals(first|assumption|wp_step))
 refine codeAny_mono (code_set_new_1 (.ref l) (E:=E) (Q₁:=λv s1=>∃led:Bool,v=.ref s.heap.objs.size/\s1={s with heap:=s.heap.push (ci led)}) λled=>⟨led,rfl,rfl⟩) λr s1 hr=>?_
 cases r with
 |error e=>exact hr
 |ok fl=>
  cases fl with
  |ret v=>
   obtain⟨led,rfl,rfl⟩:=hr;have hS:(s.heap.push (ci led)).get? s.heap.objs.size=some (ci led):=kq _ rfl;have hT:Shared.TypeIs {s with heap:=s.heap.push (ci led)} (.ref s.heap.objs.size) "set":=⟨_,hS,rfl⟩;have y7:=F.called_set.init.lookup;have y8:=F.called_set.init.bind (.ref s.heap.objs.size)
   repeat(any_goals(first|assumption|wp_step))
   refine codeAny_mono (codeAny_call_builtin (R:=wants (λr s2=>r=.none/\∃h' tk,s2={s with heap:=h',toks:=tk}/\h'.SetOf (PySem.strKind prog w) s.heap.objs.size (λx=>decide (x∈ts)) (fk ts).length/\(∀b o,s.heap.get? b=some o->h'.get? b=some o)) E) F.called_set.init.plain F.entry_set_init (check_set_init_1 hT ?_)) λr2 s2 hr2=>?_
   ·refine l0 (init_setD (prog:=prog) (w:=w) (A:=A.in1.in1) (E:=E) (led:=led) (R:=λr s2=>r=.none/\∃h' tk,s2={s with heap:=h',toks:=tk}/\h'.SetOf (PySem.strKind prog w) s.heap.objs.size (λx=>decide (x∈ts)) (fk ts).length/\(∀b o,s.heap.get? b=some o->h'.get? b=some o)) (by simpa using hh) hl hv hb λh' tk a1 a2=>⟨rfl,h',tk,rfl,a1,a2⟩) (λfin s'⟨r,e,z⟩=>?_) λ_ _ x=>x;subst e;exact z
   ·cases r2 with
    |error e=>exact hr2
    |ok fl2=>
     cases fl2 with
     |ret r=>
      obtain⟨rfl,h',tk,rfl,a1,a2⟩:=hr2
      repeat(any_goals(first|assumption|wp_step))
      exact h _ _ a1 a2
     |_=>exact hr2.elim
  |_=>exact hr.elim
end
section
variable{X:Cx}
noncomputable def SetD(P:Program)(w:World)(p:Addr)(ts:List Str):HO:=.ext λh=>h.SetOf (PySem.strKind P w) p (λx=>decide (x∈ts)) (fk ts).length
theorem call_setD(hh:X.A.handled=none):dH X (.type "set") (λxs H Q=>∃(p:Addr)(ts:List Str),xs=[.ref p]/\SqL X.K H p (ts.map V.str)/\ts.length<=1000/\∀l,H l=none->Q (.ref l) (upd H l (SetD X.prog X.w l ts))):=by
 intro pins s σ H xs us Q I r h;obtain⟨p,ts,rfl,hq,hl,q⟩:=h;obtain⟨u,rfl,rx⟩:=gH r
 cases rx;obtain⟨its,r',pl,hz⟩:=I.list hq;refine call_set_strsD hh pl.isList r' (by unfold scanBound;lia) λh' tk a1 a2=>?_;refine⟨.ref s.heap.objs.size,_,I.laid (t':=tk) a2 (jJ _) (show ObjOk X.prog X.w _ h' _ (SetD X.prog X.w _ ts)from⟨a1,?_,λh1 h2 z k=>?_⟩),rfl,q _ (I.hok.fresh (jJ _))⟩
 ·obtain⟨o,_,_,_,e,_⟩:=a1;exact⟨o,e⟩
 ·obtain⟨o,es,ep,t,e,c⟩:=z;exact⟨o,es,ep,t,k _ e,c⟩
theorem iR:dH X (.builtin "len") (λxs H Q=>∃(p:Addr)(ts:List Str),xs=[.ref p]/\H p=some (SetD X.prog X.w p ts)/\ts.length<=1000/\Q (.int (fk ts).length) H):=by
 intro pins s σ H xs us Q I r h;obtain⟨p,ts,rfl,hp,hl,q⟩:=h;obtain⟨u,rfl,rx⟩:=gH r
 cases rx;obtain⟨⟨o,es,ep,t,ho,hex,hd,_,_,_,hf,hn⟩,_⟩:=I.hok p _ hp;have dl:=dset_len ts;refine PySem.call_len_set ho hex hd hf (by lia) ⟨.int _,H,I.tok _,⟨_,rfl⟩,?_⟩;rw[hn];exact q
end
section
variable{X:Cx}
theorem tup_all{us ws:List Value}(e1:xs.length=us.length)(e2:ys.length=ws.length):((List.range (min us.toArray.size ws.toArray.size)).all (jB xs ys)&&us.toArray.size==ws.toArray.size)=eqVs xs ys:=by
 rw[j5,j5,<-e1,<-e2];by_cases hl:xs.length=ys.length
 ·rw[<-hl,Nat.min_self,eqVs_all hl];simp
 ·rw[eqVs_len hl];simp[hl]
theorem tup_eqs(I:Inv X pins σ H s)(r:Vals xs us)(r':Vals ys ws)(fx:xs.all cU=true)(fy:ys.all cU=true):∀j(h1:j<us.toArray.size)(h2:j<ws.toArray.size),SeqAt.EqAt A s us.toArray[j] ws.toArray[j] (jB xs ys j):=λj h1 h2=>by
 have e1:=r.length;have e2:=r'.length;have j1:j<us.length:=by simpa using h1
 have j2:j<ws.length:=by simpa using h2
 have a1:xs[j]?=some (xs[j]'(by lia)):=jH _;have a2:ys[j]?=some (ys[j]'(by lia)):=jH _
 have:jB xs ys j=eqV (xs[j]'(by lia)) (ys[j]'(by lia)):=by unfold jB;rw[a1,a2]
 rw[this,kY,kY];exact eqAt_V (cG r a1 (jH j1)) (cG r' a2 (jH j2)) (List.all_eq_true.mp fx _ (List.getElem_mem _)) (List.all_eq_true.mp fy _ (List.getElem_mem _))
noncomputable def rNeT(K:W.Frag):R2:=λx y H Q=>∃p q xs ys,x=.ref p/\y=.ref q/\SqT K H p xs/\SqT K H q ys/\xs.all cU=true/\ys.all cU=true/\Q (.bl (!eqVs xs ys)) H
theorem op_neT(hu:X.A.units<cLine):OpR X (compareOp .NotEq) (rNeT X.K):=by
 intro pins s σ H x y v u Q I rx ry h;obtain⟨p,q,xs,ys,rfl,rfl,hp,hq,fx,fy,k⟩:=h
 cases rx
 cases ry;obtain⟨us,r,pl,_⟩:=I.tuple hp;obtain⟨ws,r',pl',_⟩:=I.tuple hq;refine SeqAt.RcNeAt.tuples (e:=jB xs ys) pl pl' hu (tup_eqs I r r' fx fy) X.prog X.w X.xe _ ⟨.bl _,H,I,rfl,?_⟩;rw[tup_all r.length r'.length];exact k
end
section
variable{X:Cx}
inductive EqD(K:W.Frag)(H:Hp):Nat->V->V->Prop
 |flat{n:Nat}{v:V}(h:cU v=true):EqD K H n v v
 |lst{n:Nat}{p q:Addr}{xs ys:List V}(hp:SqL K H p xs)(hq:SqL K H q ys)(hl:xs.length=ys.length)(h:∀(j:Nat)(x y:V),xs[j]?=some x->ys[j]?=some y->EqD K H n x y):EqD K H (n+1) (.ref p) (.ref q)
 |tup{n:Nat}{p q:Addr}{xs ys:List V}(hp:SqT K H p xs)(hq:SqT K H q ys)(hl:xs.length=ys.length)(h:∀(j:Nat)(x y:V),xs[j]?=some x->ys[j]?=some y->EqD K H n x y):EqD K H (n+1) (.ref p) (.ref q)
theorem eqV_self(h:cU v=true):eqV v v=true:=by
 cases v with
 |non=>rfl
 |bl b=>cases b<;>rfl
 |int i=>show(i==i)=true;exact beq_self_eq_true i
 |str z=>show(z==z)=true;exact beq_self_eq_true z
 |_=>exact absurd (show false=true from h) kc
theorem all_tt(n:Nat):(List.range n).all (λ_=>true)=true:=by rw[List.all_eq_true];exactλ_ _=>rfl
theorem EqD.at(I:Inv X pins σ H s)(h:EqD X.K H n v u):∀{A:Around}{v' u':Value},A.units+n<cLine->RelV v v'->RelV u u'->SeqAt.EqAt A s v' u' true:=by
 induction h with
 |flat h=>
  intro A v' u' _ r1 r2
  have:=eqAt_V (A:=A) (s:=s) r1 r2 h h
  rw[eqV_self h]at this;exact this
 |@lst n p q xs ys hp hq hl h ih=>
  intro A v' u' hu r1 r2
  cases r1
  cases r2;by_cases e:p=q
  ·subst e;exact SeqAt.EqAt.same _
  ·obtain⟨us,r,pl,_⟩:=I.list hp;obtain⟨ws,r',pl',_⟩:=I.list hq;have e1:=r.length;have e2:=r'.length
   have:=SeqAt.RcAt.lists (A:=A) (e:=λ_=>true) pl.isList pl'.isList (by rw[j5,j5];omega) (by omega) (λj h1 h2=>by
    have j1:j<us.length:=by simpa using h1
    have j2:j<ws.length:=by simpa using h2
    have a1:xs[j]?=some (xs[j]'(by omega)):=jH _;have a2:ys[j]?=some (ys[j]'(by omega)):=jH _;rw[kY,kY];exact ih j _ _ a1 a2 (show A.units+1+n<cLine by omega) (cG r a1 (jH j1)) (cG r' a2 (jH j2)))
   rw[all_tt]at this;exact SeqAt.EqAt.of_refs e this
 |@tup n p q xs ys hp hq hl h ih=>
  intro A v' u' hu r1 r2
  cases r1
  cases r2;by_cases e:p=q
  ·subst e;exact SeqAt.EqAt.same _
  ·obtain⟨us,r,pl,_⟩:=I.tuple hp;obtain⟨ws,r',pl',_⟩:=I.tuple hq;have e1:=r.length;have e2:=r'.length
   have:=SeqAt.RcAt.tuples (A:=A) (e:=λ_=>true) pl pl' (by omega) (λj h1 h2=>by
    have j1:j<us.length:=by simpa using h1
    have j2:j<ws.length:=by simpa using h2
    have a1:xs[j]?=some (xs[j]'(by omega)):=jH _;have a2:ys[j]?=some (ys[j]'(by omega)):=jH _;rw[kY,kY];exact ih j _ _ a1 a2 (show A.units+1+n<cLine by omega) (cG r a1 (jH j1)) (cG r' a2 (jH j2)))
   rw[all_tt,j5,j5,show us.length=ws.length by omega,beq_self_eq_true,Bool.and_self]at this;exact SeqAt.EqAt.of_refs e this
theorem i8{K:W.Frag}(hK:X.K=K):dH X (.type "list") (λxs H Q=>∃p ys,xs=[.ref p]/\(SqL K H p ys∨SqT K H p ys)/\∀l,H l=none->Q (.ref l) (upd H l (.lst ys))):=by
 subst hK;exact gG
end
section
variable{X:Cx}
noncomputable def rDeL(K:W.Frag)(b:Bool):R2:=λx y H Q=>∃p q xs ys,x=.ref p/\y=.ref q/\SqL K H p xs/\SqL K H q ys/\xs.length=ys.length/\(∀(j:Nat)(x y:V),xs[j]?=some x->ys[j]?=some y->EqD K H 20 x y)/\Q (.bl b) H
theorem deL_at(I:Inv X pins σ H s)(r:Vals xs us)(r':Vals ys ws)(hd:∀(j:Nat)(x y:V),xs[j]?=some x->ys[j]?=some y->EqD X.K H 20 x y)(hu:A.units+20<cLine)(j:Nat)(h1:j<us.toArray.size)(h2:j<ws.toArray.size):SeqAt.EqAt A s us.toArray[j] ws.toArray[j] true:=by
 have e1:=r.length;have e2:=r'.length;have j1:j<us.length:=by simpa using h1
 have j2:j<ws.length:=by simpa using h2
 have a1:xs[j]?=some (xs[j]'(by lia)):=jH _;have a2:ys[j]?=some (ys[j]'(by lia)):=jH _;rw[kY,kY];exact(hd j _ _ a1 a2).at I hu (cG r a1 (jH j1)) (cG r' a2 (jH j2))
theorem op_eqDL(hu:X.A.units+64<cLine):OpR X (compareOp .Eq) (rDeL X.K true):=by
 intro pins s σ H x y v u Q I rx ry h;obtain⟨p,q,xs,ys,rfl,rfl,hp,hq,hl,hd,k⟩:=h
 cases rx
 cases ry;obtain⟨us,r,pl,_⟩:=I.list hp;obtain⟨ws,r',pl',_⟩:=I.list hq;have e1:=r.length;have e2:=r'.length;refine SeqAt.eq_listAt (e:=λ_=>true) pl.isList pl'.isList (by rw[j5,j5];lia) (by lia) (λj h1 h2=>deL_at I r r' hd (show X.A.units+1+20<cLine by lia) j h1 h2) ⟨.bl _,H,I,rfl,?_⟩;rw[all_tt];exact k
end
section
variable{X:Cx}
noncomputable def rLClear:V->List V->Hp->VK->Prop:=λx vs H Q=>∃l xs,x=.ref l/\vs=[]/\H l=some (.lst xs)/\Q .non (upd H l (.lst []))
theorem mt_lclear:MtM X "list.clear" rLClear:=by
 intro pins s σ H x vs v us Q I rx rv h;obtain⟨l,xs,rfl,rfl,hH,q⟩:=h
 cases rx
 cases rv;obtain⟨z,its,n,r,hl,e⟩:=I.lstM hH;have hn:=r.length;refine call_meets PySem.F.slot_list_clear ⟨_,e,rfl⟩ PySem.F.entry_list_clear (PySem.F.args_list_clear_1 _) (PySem.AutoSeq1.list_clear_list_0 l its.toArray n (by rw[j5];lia)) ⟨e,?_⟩;exact⟨.non,_,I.lset (its':=[]) hH e (by simp) .nil (jU _),rfl,q⟩
end
end L2
namespace G
noncomputable def gcd(a b:Int):Int:=(Int.gcd a b:Int)
theorem gcd_nonneg(a b:Int):0<=gcd a b:=Int.natCast_nonneg _
theorem gcd_zero(a:Int)(h:0<=a):gcd a 0=a:=by
 unfold gcd;rw[Int.gcd_zero_right];lia
theorem gcd_abs(a b:Int):gcd (if a<0 then-a else a) (if b<0 then-b else b)=gcd a b:=by
 unfold gcd;congr 1
 split<;>split<;>simp[Int.neg_gcd,Int.gcd_neg]
theorem gcd_step(a b:Int)(hb:0<b):gcd b (a%b)=gcd a b:=by
 unfold gcd;congr 1;rw[Int.gcd_comm b];have e:a=a%b+(a/b)*b:=by have:=Int.emod_add_mul_ediv a b;rw[kN]at this;lia
 have h:=Int.gcd_add_mul_right_left b (a%b) (a/b);rw[<-e]at h;exact h.symm
theorem gr(a b:Nat):(a:Int).fdiv (b:Int)=((a/b:Nat):Int):=by
 rw[Int.fdiv_eq_ediv_of_nonneg _ (Int.natCast_nonneg _)];rfl
theorem den_pos(x:Rat):(0:Int)<(x.den:Int):=by have:=x.den_nz;lia
theorem gcd_den(x:Rat):gcd x.num x.den=1:=by
 have h:=x.reduced;have e:Int.gcd x.num x.den=1:=h;unfold gcd;rw[e];rfl
theorem init_spec(a b:Int)(hb:b≠0):a.fdiv (if b<0 then-(gcd a b) else gcd a b)=(Rat.divInt a b).num/\b.fdiv (if b<0 then-(gcd a b) else gcd a b)=((Rat.divInt a b).den:Int):=by
 have gp:0<Int.gcd a b:=Int.gcd_pos_of_ne_zero_right a hb;obtain⟨k,hk⟩:=l6 a b;obtain⟨m,hm⟩:=Int.gcd_dvd_right a b;have gz:(Int.gcd a b:Int)≠0:=by lia
 rw[Rat.num_divInt,Rat.den_divInt,if_neg hb,Int.gcd_comm b a];unfold gcd;generalize hgg:Int.gcd a b=g at*;have e1:∀z:Int,(g*z).fdiv g=z:=λz=>by rw[kN,Int.mul_fdiv_cancel _ gz]
 have e2:∀z:Int,(g*z).fdiv (-(g:Int))=-z:=λz=>by
  have:(g:Int)*z=(-z)*(-(g:Int)):=by rw[Int.neg_mul_neg,kN]
  rw[this,Int.mul_fdiv_cancel _ (by lia)]
 by_cases hs:b<0
 ·rw[if_pos hs,Int.sign_eq_neg_one_of_neg hs];constructor
  ·conv=>lhs;rw[hk,e2]
   have:-1*a=-k*g:=by rw[hk,kN (g:Int) k,Int.neg_mul,Int.neg_mul,Int.one_mul]
   rw[this,Int.mul_ediv_cancel _ gz]
  ·conv=>lhs;rw[hm,e2]
   have mneg:m<0:=by
    rcases Int.lt_trichotomy m 0 with h|h|h
    ·exact h
    ·rw[h]at hm;lia
    ·have:=lF (show(0:Int)<g by lia) h;lia
   have:b.natAbs=m.natAbs*g:=by rw[hm,kB,lU,Nat.mul_comm]
   rw[this,Nat.mul_div_cancel _ gp];lia
 ·rw[if_neg hs,Int.sign_eq_one_of_pos (by lia)];constructor
  ·conv=>lhs;rw[hk,e1]
   have:1*a=k*g:=by rw[hk,kN (g:Int) k,Int.one_mul]
   rw[this,Int.mul_ediv_cancel _ gz]
  ·conv=>lhs;rw[hm,e1]
   have mpos:0<m:=by
    rcases Int.lt_trichotomy m 0 with h|h|h
    ·have:=Int.mul_neg_of_pos_of_neg (show(0:Int)<g by lia) h;lia
    ·rw[h]at hm;lia
    ·exact h
   have:b.natAbs=m.natAbs*g:=by rw[hm,kB,lU,Nat.mul_comm]
   rw[this,Nat.mul_div_cancel _ gp];lia
theorem i7{a:Int}{g:Nat}(h:(g:Int)∣a):a.fdiv (g:Int)=a.tdiv g:=by
 rw[Int.fdiv_eq_ediv_of_nonneg _ (Int.natCast_nonneg _),Int.tdiv_eq_ediv_of_dvd h]
theorem add_spec(x y:Rat):
  let g:=gcd x.den y.den
  let own:=(x.den:Int).fdiv g
  let top:=x.num*((y.den:Int).fdiv g)+y.num*own
  let left:=gcd top g
  top.fdiv left=(x+y).num/\own*((y.den:Int).fdiv left)=((x+y).den:Int):=by
 have hx:=x.den_nz;have hy:=y.den_nz;have eg:gcd x.den y.den=((x.den.gcd y.den:Nat):Int):=by unfold gcd;rw[Int.gcd_natCast_natCast]
 have gpos:0<x.den.gcd y.den:=Nat.gcd_pos_of_pos_left _ (by lia);intro g own top left;have hown:own=((x.den/x.den.gcd y.den:Nat):Int):=by show(x.den:Int).fdiv (gcd x.den y.den)=_;rw[eg,gr]
 have htop:top=x.num*((y.den/x.den.gcd y.den:Nat):Int)+y.num*((x.den/x.den.gcd y.den:Nat):Int):=by
  show x.num*((y.den:Int).fdiv (gcd x.den y.den))+y.num*own=_;rw[hown,eg,gr]
 have hleft:left=((top.natAbs.gcd (x.den.gcd y.den):Nat):Int):=by
  show((Int.gcd top (gcd x.den y.den):Nat):Int)=_;rw[eg];rfl
 have e1:x+y=Rat.add x y:=rfl;rw[e1];delta Rat.add;dsimp only;rw[hleft,hown]
 split
 ·rename_i h1;rw[htop];simp only[h1,Nat.div_one,Nat.gcd_one_right,gr];simp
 ·rename_i h1;rw[Rat.maybeNormalize_eq];dsimp only;simp only[Int.divExact_eq_tdiv];rw[<-htop];have d1:((top.natAbs.gcd (x.den.gcd y.den):Nat):Int)∣top:=Int.ofNat_dvd_left.2 (Nat.gcd_dvd_left _ _);have d2:(top.natAbs.gcd (x.den.gcd y.den):Nat)∣y.den:=Nat.dvd_trans (Nat.gcd_dvd_right _ _) (Nat.gcd_dvd_right _ _);refine⟨?_,?_⟩
  ·rw[i7 d1]
  ·rw[gr,<-Int.natCast_mul,Nat.mul_div_assoc _ d2]
theorem mul_spec(x y:Rat):
  let first:=gcd x.num y.den
  let second:=gcd y.num x.den
  x.num.fdiv first*y.num.fdiv second=(x*y).num/\(x.den:Int).fdiv second*(y.den:Int).fdiv first=((x*y).den:Int):=by
 intro first second
 have e1:x*y=Rat.mul x y:=rfl;rw[e1];delta Rat.mul;dsimp only;have h1:first=((x.num.natAbs.gcd y.den:Nat):Int):=rfl
 have h2:second=((y.num.natAbs.gcd x.den:Nat):Int):=rfl;rw[h1,h2];simp only[Int.divExact_eq_tdiv,Nat.divExact_eq_div];rw[i7 (Int.ofNat_dvd_left.2 (Nat.gcd_dvd_left _ _)),i7 (Int.ofNat_dvd_left.2 (Nat.gcd_dvd_left _ _)),gr,gr];exact⟨rfl,by rw[Int.natCast_mul]⟩
theorem inv_pos_spec(y:Rat)(h:0<y.num):(y⁻¹).num=y.den/\((y⁻¹).den:Int)=y.num:=by
 rw[Rat.num_inv,Rat.den_inv,Int.sign_eq_one_of_pos h,if_neg (by lia)];constructor<;>lia
theorem inv_neg_spec(y:Rat)(h:y.num<0):(y⁻¹).num=-y.den/\((y⁻¹).den:Int)=-y.num:=by
 rw[Rat.num_inv,Rat.den_inv,Int.sign_eq_neg_one_of_neg h,if_neg (by lia)];constructor<;>lia
end G
namespace G
noncomputable def Bd(n:Nat)(x:Rat):Prop:=x.num.natAbs<=2^n/\x.den<=2^n
theorem pow_le(h:m<=n):2^m<=2^n:=kG (by decide) h
theorem Bd.mono(b:Bd m x)(h:m<=n):Bd n x:=⟨jV b.1 (pow_le h),jV b.2 (pow_le h)⟩
theorem eX(a:Int)(d:Nat):(a/(d:Int)).natAbs<=a.natAbs:=by
 rcases Nat.eq_zero_or_pos d with h|h
 ·subst h;simp
 ·have hd:(0:Int)<d:=by omega
  rcases Int.le_total 0 a with ha|ha
  ·have h1:=Int.ediv_nonneg ha (Int.le_of_lt hd);have h2:=Int.ediv_le_self (d:Int) ha;omega
  ·have h1:a/(d:Int)<=0:=Int.ediv_nonpos_of_nonpos_of_neg ha hd
   have h2:a<=a/(d:Int):=by
    rw[Int.le_ediv_iff_mul_le hd];have h3:0<=(-a)*((d:Int)-1):=Int.mul_nonneg (by lia) (by lia);rw[Int.neg_mul,Int.mul_sub,Int.mul_one]at h3;omega
   omega
theorem Bd.divInt{a b:Int}(ha:a.natAbs<=2^n)(hb:b.natAbs<=2^n):Bd n (Rat.divInt a b):=by
 constructor
 ·rw[Rat.num_divInt];refine jV (eX _ _) ?_;rw[kB]
  have:b.sign.natAbs<=1:=by
   rcases Int.lt_trichotomy b 0 with h|h|h
   ·rw[Int.sign_eq_neg_one_of_neg h];decide
   ·rw[h];decide
   ·rw[Int.sign_eq_one_of_pos h];decide
  calc b.sign.natAbs*a.natAbs<=1*a.natAbs:=Nat.mul_le_mul_right _ this
   _<=2^n:=by lia
 ·rw[Rat.den_divInt]
  split
  ·exact Nat.one_le_two_pow
  ·exact jV (Nat.div_le_self _ _) hb
theorem cx{a b m n:Nat}(ha:a<=2^m)(hb:b<=2^n):a*b<=2^(m+n):=by
 rw[lN];exact lO ha hb
theorem Bd.add(hx:Bd m x)(hy:Bd n y):Bd (m+n+1) (x+y):=by
 constructor
 ·rw[Rat.num_add];refine jV (eX _ _) ?_;have h1:=cx hx.1 hy.2;have h2:=cx hx.2 hy.1;have e1:(x.num*(y.den:Int)).natAbs=x.num.natAbs*y.den:=by rw[kB,lU]
  have e2:(y.num*(x.den:Int)).natAbs=x.den*y.num.natAbs:=by rw[kB,lU,Nat.mul_comm]
  have:=Int.natAbs_add_le (x.num*(y.den:Int)) (y.num*(x.den:Int))
  rw[e1,e2]at this;rw[Nat.pow_succ];lia
 ·rw[Rat.den_add];refine jV (Nat.div_le_self _ _) (jV (cx hx.2 hy.2) (pow_le (by lia)))
theorem Bd.neg(hx:Bd m x):Bd m (-x):=⟨by rw[Rat.neg_num,Int.natAbs_neg];exact hx.1,hx.2⟩
theorem Bd.sub(hx:Bd m x)(hy:Bd n y):Bd (m+n+1) (x-y):=by
 rw[Rat.sub_eq_add_neg];exact hx.add hy.neg
theorem Bd.mul(hx:Bd m x)(hy:Bd n y):Bd (m+n) (x*y):=by
 constructor
 ·rw[Rat.num_mul];refine jV (eX _ _) ?_;rw[kB];exact cx hx.1 hy.1
 ·rw[Rat.den_mul];exact jV (Nat.div_le_self _ _) (cx hx.2 hy.2)
theorem Bd.inv(hx:Bd m x):Bd m x⁻¹:=by
 constructor
 ·rw[Rat.num_inv,kB,lU]
  have:x.num.sign.natAbs<=1:=by
   rcases Int.lt_trichotomy x.num 0 with h|h|h
   ·rw[Int.sign_eq_neg_one_of_neg h];decide
   ·rw[h];decide
   ·rw[Int.sign_eq_one_of_pos h];decide
  calc x.num.sign.natAbs*x.den<=1*x.den:=Nat.mul_le_mul_right _ this
   _<=2^m:=by have:=hx.2;lia
 ·rw[Rat.den_inv];split
  ·exact Nat.one_le_two_pow
  ·exact hx.1
theorem Bd.zero:Bd 0 0:=⟨by decide,by decide⟩
theorem Bd.one:Bd 0 1:=⟨by decide,by decide⟩
end G
namespace G
theorem divInt_nn(n:Int)(h:0<d):0<=Rat.divInt n d↔0<=n:=Rat.divInt_nonneg_iff_of_pos_right h
theorem lt_div{a b c d:Int}(hb:0<b)(hd:0<d):Rat.divInt a b<Rat.divInt c d↔a*d<c*b:=by
 rw[<-Rat.not_le,Rat.le_iff_sub_nonneg,Rat.divInt_sub_divInt _ _ (by lia) (by lia),divInt_nn _ (lF hb hd)]
 lia
end G
namespace G
open PySem
theorem str_ext{x y:Str}(h:x.cps.toList=y.cps.toList):x=y:=by
 cases x;cases y;exact kA Str.mk (Array.toList_inj.mp h)
theorem cps_app(x y:Str):(x++y).cps.toList=x.cps.toList++y.cps.toList:=by
 show(x.cps++y.cps).toList=_;exact Array.toList_append
theorem app_left{x y z:Str}(h:x++y=x++z):y=z:=by
 have:=kA (λu:Str=>u.cps.toList) h
 simp only[cps_app]at this;exact str_ext (List.append_cancel_left this)
theorem app_right{x y z:Str}(h:x++y=z++y):x=z:=by
 have:=kA (λu:Str=>u.cps.toList) h
 simp only[cps_app]at this;exact str_ext (List.append_cancel_right this)
theorem rep_cps(c n:Nat):((List.replicate n #[c]).foldl (·++·) (#[]:Array Nat)).toList=List.replicate n c:=by
 have:∀(n:Nat)(a:Array Nat),((List.replicate n #[c]).foldl (·++·) a).toList=a.toList++List.replicate n c:=by
  intro n
  induction n with
  |zero=>intro a;simp
  |succ n ih=>
   intro a;rw[List.replicate_succ,lZ,ih];simp[List.replicate_succ]
 simpa using this n #[]
theorem mul_cps(c:Nat)(n:Int):(Txt.mul ⟨#[c]⟩ n).cps.toList=List.replicate n.toNat c:=by
 unfold Txt.mul;by_cases h1:n<1
 ·rw[if_pos h1,show n.toNat=0 by lia];rfl
 ·rw[if_neg h1];by_cases h2:n=1
  ·subst h2;rfl
  ·rw[if_neg (by simp[h2,Str.length])];exact rep_cps c n.toNat
theorem len_cps(x:Str):x.length=x.cps.toList.length:=by show x.cps.size=_;rw[Array.length_toList]
noncomputable def sgs:Str:="abcdefghijklmnopqrstuvwxyz0123456789."
noncomputable def sgAt(i:Int):Nat:=sgs.cps.toList.getD i.toNat 0
noncomputable def turnK(k c:Int):Int:=(k*(1+c/5%36)+c/180)%37
theorem sgs_list:sgs.cps.toList=[97,98,99,100,101,102,103,104,105,106,107,108,109,110,111,112,113,114,115,116,117,118,119,120,121,122,48,49,50,51,52,53,54,55,56,57,46]:=by decide+kernel
theorem sgAt_some(h0:0<=i)(h1:i<37):L2.atI sgs.cps.toList i=some (sgAt i):=by
 obtain⟨n,rfl⟩:=lV h0;have hn:n<37:=by lia
 refine L2.atI_nat ?_;unfold sgAt;rw[sgs_list,List.getD_eq_getElem?_getD,Int.toNat_natCast];rw[jH (by simpa using hn)];rfl
theorem sgAt_inj:∀i<37,∀j<37,sgs.cps.toList.getD i 0=sgs.cps.toList.getD j 0->i=j:=by
 rw[sgs_list];decide+kernel
end G
namespace G
noncomputable def Cop(a b:Int):Prop:=∀d:Int,d∣a->d∣b->d∣1
theorem Cop.one{a b:Int}(h:gcd a b=1):Cop a b:=λd h1 h2=>by
 have:=Int.dvd_coe_gcd h1 h2
 rw[show((Int.gcd a b:Nat):Int)=1 from h]at this;exact this
theorem Cop.gcd{a b:Int}(h:Cop a b):Int.gcd a b=1:=by
 have h1:=Int.eq_one_of_dvd_one (Int.natCast_nonneg _) (h _ (l6 a b) (Int.gcd_dvd_right a b))
 lia
theorem Cop.gauss(h:Cop d m)(hd:d∣m*n):d∣n:=by
 have e:=h.gcd;rw[<-Int.natAbs_dvd_natAbs]at hd⊢;rw[kB]at hd;exact Nat.Coprime.dvd_of_dvd_mul_left e hd
theorem Cop.quot(hc:c=G.gcd B b)(c0:c≠0)(hB:B=c*u)(hb:b=c*v):Cop u v:=λd h1 h2=>by
 have k:c*d∣c:=by
  have:=Int.dvd_coe_gcd (a:=B) (b:=b) (c:=c*d) (by rw[hB];exact Int.mul_dvd_mul_left c h1) (by rw[hb];exact Int.mul_dvd_mul_left c h2)
  rw[show((Int.gcd B b:Nat):Int)=c from hc.symm]at this;exact this
 obtain⟨z,hz⟩:=k;refine⟨z,?_⟩
 have:c*(d*z)=c*1:=by rw[<-lS,<-hz,Int.mul_one]
 exact(Int.eq_of_mul_eq_mul_left c0 this).symm
theorem den_ne'(x:Rat):(x.den:Int)≠0:=by have:=x.den_nz;lia
structure TInv(x:Rat)(T B s:Int):Prop where
 pB:0<B
 ps:0<s
 r:∃r,B=s*r/\Cop T r
 v:Rat.divInt T B=x
theorem TInv.zero:TInv 0 0 1 1:=⟨by decide,by decide,⟨1,by decide,λd _ h=>h⟩,by rw[Rat.zero_divInt]⟩
theorem fdiv_mul{c k:Int}(h:c≠0):(c*k).fdiv c=k:=by rw[kN,Int.mul_fdiv_cancel _ h]
theorem TInv.step(I:TInv x T B s):
  TInv (x+y) (T*(y.den:Int).fdiv (gcd B y.den)+y.num*B.fdiv (gcd B y.den)) (B*(y.den:Int).fdiv (gcd B y.den)) (s*(gcd B y.den).fdiv (gcd s (gcd B y.den))):=by
 obtain⟨pB,ps,⟨r,hr,cr⟩,hv⟩:=I;have yp:=den_pos y
 have cp:0<gcd B y.den:=by
  have:=Int.gcd_pos_of_ne_zero_left (y.den:Int) (show B≠0 by lia)
  unfold gcd;lia
 generalize hc':gcd B y.den=c at cp⊢;have hc:=hc'.symm;have dB:c∣B:=by rw[hc];exact l6 _ _
 have db:c∣(y.den:Int):=by rw[hc];exact Int.gcd_dvd_right _ _
 obtain⟨u,hu⟩:=dB;obtain⟨v,hv'⟩:=db;have c0:c≠0:=by lia
 have cuv:Cop u v:=Cop.quot hc c0 hu hv';have ey:(y.den:Int).fdiv c=v:=by rw[hv',fdiv_mul c0]
 have eB:B.fdiv c=u:=by rw[hu,fdiv_mul c0]
 have up:0<u:=Int.pos_of_mul_pos_left (by rw[kN,<-hu];exact pB) cp;have vp:0<v:=Int.pos_of_mul_pos_left (by rw[kN,<-hv'];exact yp) cp;rw[ey,eB]
 have gp:0<gcd s c:=by
  have:=Int.gcd_pos_of_ne_zero_left c (show s≠0 by lia)
  unfold gcd;lia
 generalize hg':gcd s c=g at gp⊢;have hg:=hg'.symm;have d1:g∣s:=by rw[hg];exact l6 _ _
 have d2:g∣c:=by rw[hg];exact Int.gcd_dvd_right _ _
 obtain⟨s1,hs1⟩:=d1;obtain⟨c1,hc1⟩:=d2;have g0:g≠0:=by lia
 have cs:Cop s1 c1:=Cop.quot hg g0 hs1 hc1;have ec:c.fdiv g=c1:=by rw[hc1,fdiv_mul g0]
 rw[ec];have c1p:0<c1:=Int.pos_of_mul_pos_left (by rw[kN,<-hc1];exact cp) gp;have s1p:0<s1:=Int.pos_of_mul_pos_left (by rw[kN,<-hs1];exact ps) gp
 have e1:c1*u=s1*r:=by
  apply Int.eq_of_mul_eq_mul_left g0
  rw[<-lS,<-lS,<-hc1,<-hs1,<-hu,hr]
 have k1:c1∣r:=Cop.gauss (d:=c1) (m:=s1) (λd a b=>cs d b a) ⟨u,e1.symm⟩;obtain⟨r1,hr1⟩:=k1
 have e2:u=s1*r1:=by
  apply Int.eq_of_mul_eq_mul_left (show c1≠0 by lia)
  rw[e1,hr1,<-lS,<-lS,kN s1 c1]
 refine⟨lF pB vp,lF ps c1p,⟨r1*v,?_,?_⟩,?_⟩
 ·rw[hr,hr1];simp only[lS]
 ·intro d h1 h2
  have cdv:Cop d v:=λe he hev=>by
   have z1:e∣y.num*u:=by
    have:=Int.dvd_sub (lD he h1) (lD hev (Int.dvd_mul_left T v))
    rw[Int.add_comm,Int.add_sub_cancel]at this;exact this
   rw[kN]at z1;have z2:e∣y.num:=Cop.gauss (λf h3 h4=>cuv f h4 (lD h3 hev)) z1;exact Cop.one (gcd_den y) e z2 (by rw[hv'];exact lD hev (Int.dvd_mul_left c v))
  have z3:d∣r1:=Cop.gauss cdv (by rw[kN];exact h2);have z4:d∣u:=by rw[e2];exact lD z3 (Int.dvd_mul_left s1 r1)
  have z5:d∣v*T:=by
   have:=Int.dvd_sub h1 (lD z4 (Int.dvd_mul_left y.num u))
   rw[Int.add_sub_cancel,kN]at this;exact this
  exact cr d (Cop.gauss cdv z5) (by rw[hr1];exact lD z3 (Int.dvd_mul_left c1 r1))
 ·rw[<-hv]
  conv=>rhs;rw[<-Rat.num_divInt_den y]
  rw[Rat.divInt_add_divInt _ _ (show B≠0 by lia) (den_ne' y),Rat.divInt_eq_divInt_iff (show B*v≠0 by have:=lF pB vp;lia) (Int.mul_ne_zero (by lia) (den_ne' y)),hv',hu];grind
theorem TInv.fin(I:TInv x T B s):T.fdiv (gcd T s)=x.num/\B.fdiv (gcd T s)=(x.den:Int):=by
 obtain⟨pB,ps,⟨r,hr,cr⟩,hv⟩:=I
 have e:gcd T s=gcd T B:=by
  refine Int.dvd_antisymm (gcd_nonneg _ _) (gcd_nonneg _ _) (Int.dvd_coe_gcd (l6 _ _) (lD (Int.gcd_dvd_right _ _) ⟨r,hr⟩)) (Int.dvd_coe_gcd (l6 _ _) ?_);refine Cop.gauss (m:=r) (λd h1 h2=>cr d (lD h1 (l6 _ _)) h2) ?_;rw[kN,<-hr];exact Int.gcd_dvd_right _ _
 obtain⟨i1,i2⟩:=init_spec T B (by lia);rw[if_neg (by lia),hv]at i1 i2;rw[e];exact⟨i1,i2⟩
end G
namespace G
open PySem L2
theorem sum_snoc(xs:List Rat)(a:Rat):(xs++[a]).sum=xs.sum+a:=by
 induction xs with
 |nil=>simp;grind
 |cons x xs ih=>rw[List.cons_append,List.sum_cons,List.sum_cons,ih];grind
noncomputable def addK(ks:List Str)(n:Str):List Str:=if n∈ks then ks else ks++[n]
noncomputable def a9(ns:List Str):List Str:=ns.foldl addK []
theorem fO(ns:List Str)(n:Str):a9 (ns++[n])=addK (a9 ns) n:=by unfold a9;rw[lL];rfl
theorem mem_addK:m∈addK ks n↔m∈ks∨m=n:=by
 unfold addK
 split
 ·exact⟨.inl,λh=>h.elim id λe=>by rw[e];assumption⟩
 ·simp
theorem nodup_addK(h:ks.Nodup):(addK ks n).Nodup:=by
 unfold addK
 split
 ·exact h
 ·rename_i hn;exact ky.mpr ⟨h,by simp,λx hx y hy e=>hn (by rw[jN.mp hy]at e;rw[<-e];exact hx)⟩
theorem len_addK(ks:List Str)(n:Str):(addK ks n).length<=ks.length+1:=by
 unfold addK
 split
 ·lia
 ·simp
theorem mem_fold{ns:List Str}:∀{ks:List Str}{m:Str},m∈ns.foldl addK ks↔m∈ks∨m∈ns:=by
 induction ns with
 |nil=>intro ks m;simp
 |cons n ns ih=>intro ks m;rw[lZ,ih,mem_addK,j3,or_assoc]
theorem mem_keysOf:m∈a9 ns↔m∈ns:=by unfold a9;rw[mem_fold];simp
theorem nodup_fold{ns:List Str}:∀{ks:List Str},ks.Nodup->(ns.foldl addK ks).Nodup:=by
 induction ns with
 |nil=>intro ks h;exact h
 |cons n ns ih=>intro ks h;exact ih (nodup_addK h)
theorem dR(ns:List Str):(a9 ns).Nodup:=nodup_fold lJ
theorem len_fold{ns:List Str}:∀{ks:List Str},(ns.foldl addK ks).length<=ks.length+ns.length:=by
 induction ns with
 |nil=>intro ks;exact jJ _
 |cons n ns ih=>intro ks;have h1:=ih (ks:=addK ks n);have h2:=len_addK ks n;rw[lZ,kz];lia
theorem cy(ns:List Str):(a9 ns).length<=ns.length:=by unfold a9;have:=len_fold (ns:=ns) (ks:=[]);simpa using this
noncomputable def upf{α:Type}(f:Str->α)(n:Str)(y:α):Str->α:=λm=>if m=n then y else f m
theorem upf_same:upf f n y n=y:=if_pos rfl
theorem iS(h:m≠n):upf f n y m=f m:=if_neg h
structure Tab{α:Type}(R:Hp->V->α->Prop)(H:Hp)(kvs:List (Key×V))(ks:List Str)(f:Str->α):Prop where
 keys:kvs.map (·.1)=ks.map (λn=>(Sum.inr n:Key))
 vals:∀n∈ks,∃v,bI kvs (Sum.inr n:Key)=some v/\R H v (f n)
section
variable{α:Type}{R:Hp->V->α->Prop}{H H':Hp}{kvs:List (Key×V)}{ks:List Str}{f:Str->α}{n:Str}{v:V}{y:α}
theorem Tab.mono(t:Tab R H kvs ks f)(h:∀v x,R H v x->R H' v x):Tab R H' kvs ks f:=⟨t.keys,λn hn=>let⟨v,e,r⟩:=t.vals n hn;⟨v,e,h _ _ r⟩⟩
theorem Tab.congr(t:Tab R H kvs ks f)(h:∀n∈ks,f n=g n):Tab R H kvs ks g:=⟨t.keys,λn hn=>let⟨v,e,r⟩:=t.vals n hn;⟨v,e,by rw[<-h n hn];exact r⟩⟩
theorem Tab.nil:Tab R H [] [] f:=⟨rfl,λn h=>absurd h j9⟩
theorem inr_in:(Sum.inr n:Key)∈ks.map (λn=>(Sum.inr n:Key))↔n∈ks:=by
 constructor
 ·intro h;obtain⟨y,hy,e⟩:=jL.mp h;rw[<-ma e];exact hy
 ·exactλh=>jL.mpr ⟨n,h,rfl⟩
theorem Tab.none(t:Tab R H kvs ks f)(h:¬n∈ks):bI kvs (Sum.inr n:Key)=none:=by
 cases e:bI kvs (Sum.inr n:Key) with
 |none=>rfl
 |some v=>
  have:=valV_in e
  rw[t.keys]at this;exact absurd (inr_in.mp this) h
theorem Tab.len(t:Tab R H kvs ks f):kvs.length=ks.length:=by have:=kA List.length t.keys;rwa[jF,jF]at this
theorem Tab.put(t:Tab R H kvs ks f)(r:R H v y):Tab R H (bv kvs (Sum.inr n:Key) v) (addK ks n) (upf f n y):=by
 refine⟨?_,λm hm=>?_⟩
 ·by_cases hn:n∈ks
  ·obtain⟨u,e,_⟩:=t.vals n hn;unfold bv addK;rw[dk,e,if_pos (show(some u).isSome=true from rfl),if_pos hn,<-t.keys,kO];refine List.map_congr_left λkv _=>?_;show(if kv.1=_ then _ else _:Key×V).1=kv.1
   split<;>rfl
  ·rw[f9 _ (t.none hn)];unfold addK;rw[if_neg hn,jM,jM,t.keys];rfl
 ·rw[valV_put];by_cases e:m=n
  ·subst e;rw[if_pos rfl,upf_same];exact⟨v,rfl,r⟩
  ·rw[if_neg λz=>e (ma z),iS e];exact t.vals m ((mem_addK.mp hm).resolve_right e)
theorem val_idx[DecidableEq κ]:∀{kvs:List (κ×V)}{i:Nat}{kv:κ×V},(kvs.map (·.1)).Nodup->kvs[i]?=some kv->bI kvs kv.1=some kv.2
 |[],_,_,_,e=>by simp at e
 |p::r,0,kv,_,e=>by
  simp at e;subst e;exact bZ rfl
 |p::r,i+1,kv,nd,e=>by
  have e:r[i]?=some kv:=by simpa using e
  obtain⟨h1,h2⟩:=kM.mp (show(p.1::r.map (·.1)).Nodup from nd);rw[b5 λz=>h1 (by rw[z];exact jL.mpr ⟨kv,jI e,rfl⟩)];exact val_idx h2 e
theorem Tab.at_{i:Nat}(t:Tab R H kvs ks f)(nd:ks.Nodup)(e:kvs[i]?=some kv):∃n,ks[i]?=some n/\kv.1=Sum.inr n/\bI kvs (Sum.inr n:Key)=some kv.2/\R H kv.2 (f n):=by
 have hi:i<ks.length:=by rw[<-t.len];exact(jG.mp e).1
 have e1:kv.1=Sum.inr ks[i]:=by
  have g:=kA (λl=>l[i]?) t.keys;simp only[jK,e,jH hi,kU]at g;exact kg g
 have nd2:(kvs.map (·.1)).Nodup:=by
  rw[t.keys];exact nd.map _ (λu v h e=>h (ma e))
 have ev:=val_idx nd2 e;rw[e1]at ev;obtain⟨v,e2,r⟩:=t.vals _ (List.getElem_mem hi);rw[ev]at e2
 cases e2;exact⟨ks[i],jH hi,e1,ev,r⟩
end
theorem cz{ks:List Str}(nd:ks.Nodup)(e:ks[i]?=some n):ks.take (i+1)=ks.take i++[n]/\¬n∈ks.take i:=by
 have hi:=(jG.mp e).1;refine⟨by rw[jS,e];rfl,λm=>?_⟩;obtain⟨j,hj⟩:=kh.mp m
 have hj2:j<i:=by
  have:=(jG.mp hj).1
  rw[jT]at this
  lia
 rw[lI,if_pos hj2]at hj
 have:=(kR (by lia) nd).mp (hj.trans e.symm)
 lia
theorem fe(h:¬n∈ks):addK ks n=ks++[n]:=if_neg h
noncomputable def KeepD(H H':Hp):Prop:=∀b ob,H b=some ob->(∀kvs,ob≠.dK kvs)->(∀o u,ob≠.frz o u)->H' b=some ob
theorem KeepD.of(s:Same H H'):KeepD H H':=λb ob e _ _=>s b ob e
theorem KeepD.trans(s:KeepD H H')(t:KeepD H' H''):KeepD H H'':=λb ob e h1 h2=>t b ob (s b ob e h1 h2) h1 h2
theorem KeepD.put(hd:H d=some (.dK kvs)):KeepD H (upd H d o):=λb ob e h1 _=>by
 have:b≠d:=λz=>by rw[z,hd]at e;exact h1 kvs (kg e).symm
 rw[ai this];exact e
theorem KeepD.frz(hd:H d=some (.frz ob u)):KeepD H (upd H d o):=λb ob' e _ h2=>by
 have:b≠d:=λz=>by rw[z,hd]at e;exact h2 _ _ (kg e).symm
 rw[ai this];exact e
noncomputable def occ(zs:List (Str×Rat))(n:Str):List Rat:=(zs.filter (λz=>decide (z.1=n))).map (·.2)
theorem occ_snoc(zs:List (Str×Rat))(m n:Str)(y:Rat):occ (zs++[(m,y)]) n=if m=n then occ zs n++[y]else occ zs n:=by
 unfold occ;rw[l7,jM];by_cases h:m=n
 ·rw[if_pos h];simp[h]
 ·rw[if_neg h];simp[h]
theorem occ_none(h:¬n∈zs.map (·.1)):occ zs n=[]:=by
 unfold occ;rw[List.filter_eq_nil_iff.mpr,l9];intro z hz e;exact h (jL.mpr ⟨z,hz,lX e⟩)
inductive BdS:List Rat->Nat->Prop
 |nil:BdS [] 0
 |snoc{xs:List Rat}{N m:Nat}{x:Rat}:BdS xs N->Bd m x->BdS (xs++[x]) (N+(m+1))
theorem BdS.fn(h:BdS xs N):∃S:Nat->Nat,S 0=0/\(∀i,i<=xs.length->S i<=N)/\∀i y,xs[i]?=some y->∃m,Bd m y/\S i+(m+1)<=S (i+1):=by
 induction h with
 |nil=>exact⟨λ_=>0,rfl,λ_ _=>jU _,λi y e=>by simp at e⟩
 |@snoc xs N m x _ b ih=>
  obtain⟨S,h0,h1,h2⟩:=ih;refine⟨λj=>if j<=xs.length then S j else N+(m+1),by simp[h0],λi hi=>?_,λi y e=>?_⟩
  ·show(if i<=xs.length then S i else N+(m+1))<=_
   split
   ·rename_i h
    have:=h1 i h
    lia
   ·exact jJ _
  ·show∃m',Bd m' y/\(if i<=xs.length then S i else N+(m+1))+(m'+1)<=(if i+1<=xs.length then S (i+1)else N+(m+1));have hi:=(jG.mp e).1;rw[jO,kz,List.length_nil]at hi;by_cases hl:i<xs.length
   ·rw[lG hl]at e;obtain⟨m',b',q⟩:=h2 i y e;exact⟨m',b',by rw[if_pos (by lia),if_pos (by lia)];exact q⟩
   ·have ei:i=xs.length:=by lia
    subst ei;rw[kP (jJ _),Nat.sub_self]at e
    have:x=y:=by simpa using e
    subst this;refine⟨m,b,?_⟩;rw[if_pos (jJ _),if_neg (by lia)]
    have:=h1 _ (jJ _)
    lia
end G
namespace G
open PySem L2
noncomputable def Sm(i:Int):Prop:=i.natAbs<2^9000
noncomputable def SmR(x:Rat):Prop:=Sm x.num/\Sm (x.den:Int)
theorem Sm.le{a b:Int}(h:Sm b)(l:a.natAbs<=b.natAbs):Sm a:=kj l h
theorem fQ(a:Int)(hb:0<b)(ha:0<=a):(a.fdiv b).natAbs<=a.natAbs:=by
 rw[Int.fdiv_eq_ediv_of_nonneg a (Int.le_of_lt hb)];have h1:=Int.ediv_nonneg ha (Int.le_of_lt hb);have h2:=Int.ediv_le_self b ha
 lia
theorem fdiv_le'(a:Int)(hb:0<b)(hd:b∣a):(a.fdiv b).natAbs<=a.natAbs:=by
 obtain⟨k,rfl⟩:=hd;have e:(b*k).fdiv b=k:=by rw[kN,Int.mul_fdiv_cancel _ (by omega)]
 rw[e,kB];exact Nat.le_mul_of_pos_left _ (by omega)
theorem cO(a:Int)(h:b≠0):0<gcd a b:=by
 have:=Int.gcd_pos_of_ne_zero_right a h
 unfold gcd;lia
theorem gcd_le_r(a:Int)(h:b≠0):(gcd a b).natAbs<=b.natAbs:=by
 have:=Int.gcd_le_natAbs_right a h
 unfold gcd;omega
theorem gcd_dvd_l(a b:Int):gcd a b∣a:=l6 a b
theorem Sm.gcd_r(a:Int)(h:b≠0)(s:Sm b):Sm (gcd a b):=s.le (gcd_le_r a h)
theorem den_ne(x:Rat):(x.den:Int)≠0:=by have:=x.den_nz;lia
theorem tb:¬(("top":Str)="bottom"):=by decide+kernel
noncomputable def ff(t b:Int):List (Str×V):=[("top",.int t),("bottom",.int b)]
theorem ff_T(t b:Int):(ff t b).lookup ("top":Str)=some (.int t):=rfl
theorem ff_B(t b:Int):(ff t b).lookup ("bottom":Str)=some (.int b):=by
 have h:(("bottom":Str)=="top")=false:=by decide+kernel
 show List.lookup ("bottom":Str) [(("top":Str),V.int t),("bottom",V.int b)]=_;rw[ke,h];rfl
theorem ff_no(t b:Int){m:Str}(h1:(m=="top")=false)(h2:(m=="bottom")=false):(ff t b).lookup m=none:=by
 show List.lookup m [(("top":Str),V.int t),("bottom",V.int b)]=_;rw[ke,h1,ke,h2];rfl
theorem ff_new(t b:Int):bh "bottom" (.int b) (bh "top" (.int t) [])=ff t b:=by
 show(if("top":Str)="bottom"then _ else(("top":Str),V.int t)::[(("bottom":Str),V.int b)])=ff t b;rw[if_neg tb];rfl
theorem ff_put(a c t b:Int):bh "bottom" (.int b) (bh "top" (.int t) (ff a c))=ff t b:=by
 show bh "bottom" (.int b) (if("top":Str)="top"then(("top":Str),V.int t)::[(("bottom":Str),V.int c)]else _)=ff t b;rw[if_pos rfl];show(if("top":Str)="bottom"then _ else(("top":Str),V.int t)::(if("bottom":Str)="bottom"then(("bottom":Str),V.int b)::[]else _))=ff t b;rw[if_neg tb,if_pos rfl];rfl
noncomputable def FrAt(C:Addr)(H:Hp)(p:Addr)(x:Rat):Prop:=∃dx,H p=some (.ins C dx (ff x.num x.den))
theorem FrAt.mono(h:FrAt C H p x)(s:Same H H'):FrAt C H' p x:=by
 obtain⟨dx,e⟩:=h;exact⟨dx,s _ _ e⟩
theorem FrAt.up(s:Same H H')(h:FrAt C H p x):FrAt C H' p x:=h.mono s
structure FrC(K:W.Frag)(C:Addr):Prop where
 cl:Cls K C
 nT:NoAttr K C "top"
 nB:NoAttr K C "bottom"
 c1:PySem.W.findIn K (.ref C) "__class__"=some (some (.builtin "object.__class__"))
 c2:PySem.W.specialIn K (.builtin "object.__class__") "__get__"=some (some (.builtin "getset_descriptor.__get__"))
 c3:PySem.W.takesIn K (.builtin "object.__class__")=some true
 c4:PySem.W.mroIn K C (.type "object")=some true
theorem FrAt.ty{K:W.Frag}(F:FrC K C)(h:FrAt C H p x):TyOf K H (.ref p) (.ref C):=by
 obtain⟨_,e⟩:=h;exact TyOf.ins e F.cl F.c1 F.c2 F.c3 F.c4
noncomputable def tTop(C:Addr)(ta:TE):TE:=λσ H Q=>ta σ H λv H1=>∃p x,v=.ref p/\FrAt C H1 p x/\Q (.int x.num) H1
noncomputable def tBot(C:Addr)(ta:TE):TE:=λσ H Q=>ta σ H λv H1=>∃p x,v=.ref p/\FrAt C H1 p x/\Q (.int x.den) H1
section
variable{X:Cx}{C:Addr}{e o:Expr}{ta:TE}{pos:Pos}
theorem ck(F:FrC X.K C)(he:PE X e ta)(hb:attributeBase e "top" X.env (eval e X.env)=eval e X.env:=by rfl):PE X (.Attribute e "top" pos) (tTop C ta):=by
 intro pins s σ H Q I h;refine attr_of hb (thn (he pins s σ H _ I h) λu s1⟨v,H1,I1,r,p,x,e,⟨dx,hp⟩,q⟩=>?_);subst e;obtain rfl:u=Value.ref p:=r;exact i5 I1 hp F.cl F.nT (ff_T _ _) λu' s' I' r'=>⟨_,H1,I',r',q⟩
theorem cm(F:FrC X.K C)(he:PE X e ta)(hb:attributeBase e "bottom" X.env (eval e X.env)=eval e X.env:=by rfl):PE X (.Attribute e "bottom" pos) (tBot C ta):=by
 intro pins s σ H Q I h;refine attr_of hb (thn (he pins s σ H _ I h) λu s1⟨v,H1,I1,r,p,x,e,⟨dx,hp⟩,q⟩=>?_);subst e;obtain rfl:u=Value.ref p:=r;exact i5 I1 hp F.cl F.nB (ff_B _ _) λu' s' I' r'=>⟨_,H1,I',r',q⟩
noncomputable def tFrM(C:Addr)(sp:Sp)(E:XK)(ta:TE)(t:TA):TE:=λσ H Q=>ta σ H λv H1=>∃p x,v=.ref p/\FrAt C H1 p x/\t σ H1 λvs H2=>sp (v::vs) H2 Q E
variable{CX:CXT}{k j:Nat}{ps:List Str}{sp:Sp}{E:XK}{m:Str}{p apos:Pos}{es:List Expr}{t:TA}
theorem b7(F:FrC X.K C)(he:PE X o ta)(M:MtB X.prog X.w X.K X.mg X.base CX C m k ps sp)(hr:Room j X.A)(hx:cY CX X E)(ha:PA X (e::es) t)(hj:k<=j:=by decide)(h1:(m=="top")=false:=by decide+kernel)(h2:(m=="bottom")=false:=by decide+kernel)
  (hst:starEach (e::es) X.env=(false,eval e X.env)::starEach es X.env:=by rfl)(hpl:(backTo pos (starEach es X.env)).any (·.1)=false:=by rfl)
  (ht:eval (.Call (.Attribute o m apos) (e::es) [] pos) X.env=(do
   let ov<-eval o X.env
   standAt apos.atName
   let(f,first)<-holding [ov] (getMethod ov m pl)
   callWith pos f first (backTo pos (starEach (e::es) X.env)) (backToKw pos (keywordEach [] X.env))):=by rfl):PE X (.Call (.Attribute o m apos) (e::es) [] pos) (tFrM C sp E ta t):=by
 obtain⟨f,fd,hm,b,d⟩:=M;intro pins s σ H Q I h;refine PySem.W.methodCall_KW (pl:=pl) (thn (he pins s σ H _ I h) λu s1⟨v,H1,I1,rx,a,x,ex,⟨dx,ea⟩,q⟩=>?_) ht;subst ex;obtain rfl:u=Value.ref a:=rx;refine gD I1 ea F.cl hm (ff_no _ _ h1 h2) ?_;refine PySem.W.callWith_K (first:=[.ref a]) (h₀:=X.base) I.ok.mod.kin hm.kp (thn (ha pos pins s1 σ H1 _ I1 q) λus s2⟨vs,H2,I2,r,q2⟩=>⟨I2.kIn,?_⟩) hst hpl;exact run_fn (us:=.ref a::us) (vs:=.ref a::vs) (dvs:=[]) d (hr.mono hj) b .nil hx I2 (.cons rfl r) (by simpa using q2)
theorem di(F:FrC X.K C)(he:PE X o ta)(M:MtB X.prog X.w X.K X.mg X.base CX C m k ps sp)(hr:Room j X.A)(hx:cY CX X E)(hj:k<=j:=by decide)(h1:(m=="top")=false:=by decide+kernel)(h2:(m=="bottom")=false:=by decide+kernel)
  (ht:eval (.Call (.Attribute o m apos) [] [] pos) X.env=(do
   let ov<-eval o X.env
   standAt apos.atName
   let(f,first)<-holding [ov] (getMethod ov m pl)
   callWith pos f first (backTo pos (starEach [] X.env)) (backToKw pos (keywordEach [] X.env))):=by rfl):PE X (.Call (.Attribute o m apos) [] [] pos) (tFrM C sp E ta tNil):=by
 obtain⟨f,fd,hm,b,d⟩:=M;intro pins s σ H Q I h;refine PySem.W.methodCall_KW (pl:=pl) (thn (he pins s σ H _ I h) λu s1⟨v,H1,I1,rx,a,x,ex,⟨dx,ea⟩,q⟩=>?_) ht;subst ex;obtain rfl:u=Value.ref a:=rx;refine gD I1 ea F.cl hm (ff_no _ _ h1 h2) ?_;exact PySem.W.callWith_K0 (first:=[.ref a]) I1.kIn hm.kp (run_fn (us:=[.ref a]) (vs:=[.ref a]) (dvs:=[]) d (hr.mono hj) b .nil hx I1 (.cons rfl .nil) q)
noncomputable def spDiv:Sp:=λvs H Q _=>∃a b:Int,vs=[.int a,.int b]/\Q (.int (gcd a b)) H
noncomputable def spInit(C:Addr):Sp:=λvs H Q _=>∃(p dx:Addr)(a b:Int),vs=[.ref p,.int a,.int b]/\H p=some (.ins C dx [])/\b≠0/\Sm b/\∀H',H'=upd H p (.ins C dx (ff (Rat.divInt a b).num (Rat.divInt a b).den))->Q .non H'
noncomputable def NewFr(C:Addr)(H:Hp)(Q:VK)(x:Rat):Prop:=∀(r:Addr)(H':Hp),H r=none->Same H H'->FrAt C H' r x->Q (.ref r) H'
noncomputable def spLow(C:Addr):Sp:=λvs H Q _=>∃t b:Int,vs=[.int t,.int b]/\∀(r dx:Addr)(H':Hp),H r=none->Same H H'->H' r=some (.ins C dx (ff t b))->Q (.ref r) H'
noncomputable def spR2(C:Addr)(f:Rat->Rat->Rat)(pre:Rat->Rat->Prop):Sp:=λvs H Q _=>∃(p q:Addr)(x y:Rat),vs=[.ref p,.ref q]/\FrAt C H p x/\FrAt C H q y/\SmR x/\SmR y/\pre x y/\NewFr C H Q (f x y)
theorem mk_fr{a b:Int}(nx:H x=none)(nd:H dx=none)(hb:b≠0)(hs:Sm b)(k:∀H':Hp,Same H H'->FrAt C H' x (Rat.divInt a b)->Q .non H'):
  spInit C [.ref x,.int a,.int b] (upd (upd H dx (.own x)) x (.ins C dx [])) Q E:=by
 refine⟨x,dx,a,b,rfl,ag,hb,hs,λH' e=>?_⟩;subst e;refine k _ (λc o e=>?_) ⟨dx,ag⟩;rw[ai (ar e nx),ai (ar e nx),ai (ar e nd)];exact e
noncomputable def tMkFr(C:Addr)(dvs:List V)(t:TA):TE:=λσ H Q=>t σ H λvs H1=>∃a b:Int,vs++dvs=[.int a,.int b]/\b≠0/\Sm b/\NewFr C H1 Q (Rat.divInt a b)
theorem bD(F:MkB X.prog X.w X.K X.mg X.base CX C k ["self","top","bottom"] dvs (spInit C))(hr:Room j X.A)(hm:X.mg x=some (.ref C))(hx:cY CX X E)(ha:PA X (e::es) t)(hj:k+1<=j:=by decide)(hg:Gl X x:=by rfl)(hdb:(x==("__debug__":Str))=false:=by decide)
  (he:starEach (e::es) X.env=(false,eval e X.env)::starEach es X.env:=by rfl)(hpl:(backTo pos (starEach es X.env)).any (·.1)=false:=by rfl):PE X (.Call (.Name x p) (e::es) [] pos) (tMkFr C dvs t):=by
 obtain⟨f,fd,ds,M,b,c,d⟩:=F;intro pins s σ H Q I h;refine wpAny_Call_Name_kw (jx I hg hm ?_ hdb);refine PySem.W.callWith_K (h₀:=X.base) I.ok.mod.kin M.kp (thn (ha pos pins s σ H _ I h) λus s1⟨vs,H1,I1,r,a',b',ev,hb,hs,q⟩=>⟨I1.kIn,?_⟩) he hpl;refine run_make M d (hr.mono hj) b c hx I1 r λy dx n1 n2 _=>?_;rw[ev];exact mk_fr n1 n2 hb hs λH' s' f'=>⟨rfl,q y H' n1 s' f'⟩
end
end G
namespace G
open PySem L2
noncomputable def aP(i:Nat):Stmt:=PySem.Challenge.pw_gainstream_k36_whole_taken_apart.main.body.getD i (.Pass ⟨0,0,0,0⟩)
noncomputable abbrev s_divisor:Stmt:=aP 11
noncomputable abbrev fB:Stmt:=aP 13
noncomputable abbrev s_total:Stmt:=aP 14
noncomputable abbrev s_amount:Stmt:=aP 16
noncomputable abbrev fw:Stmt:=aP 17
noncomputable abbrev dz:Stmt:=aP 18
noncomputable abbrev eC:Stmt:=aP 19
noncomputable abbrev s_sums:Stmt:=aP 20
noncomputable abbrev s_together:Stmt:=aP 21
noncomputable abbrev s_scaled:Stmt:=aP 22
noncomputable abbrev ji:Stmt:=aP 24
noncomputable abbrev s_ways_of:Stmt:=aP 26
noncomputable abbrev s_gain_of:Stmt:=aP 27
noncomputable abbrev s_sent:Stmt:=aP 28
noncomputable abbrev gY:Stmt:=aP 31
noncomputable abbrev s_least:Stmt:=aP 32
noncomputable abbrev s_by_start:Stmt:=aP 33
noncomputable abbrev s_ring_in:Stmt:=aP 34
noncomputable abbrev jj:Stmt:=aP 35
noncomputable abbrev s_less:Stmt:=aP 36
noncomputable abbrev iE:Stmt:=aP 38
noncomputable abbrev gJ:Stmt:=aP 47
noncomputable abbrev s_check_way:Stmt:=aP 48
noncomputable abbrev gX:Stmt:=aP 49
noncomputable abbrev iI:Stmt:=aP 52
noncomputable abbrev s_law_names:Stmt:=aP 53
noncomputable abbrev s_law_gain:Stmt:=aP 54
noncomputable abbrev jo:Stmt:=aP 55
noncomputable abbrev s_law_way:Stmt:=aP 56
noncomputable abbrev s_law_cost:Stmt:=aP 57
noncomputable abbrev s_law_net:Stmt:=aP 58
noncomputable abbrev s_law_plus:Stmt:=aP 59
noncomputable abbrev s_law_times:Stmt:=aP 60
noncomputable abbrev s_law_ways:Stmt:=aP 61
noncomputable abbrev gK:Stmt:=aP 62
noncomputable abbrev s_law_ring:Stmt:=aP 63
noncomputable abbrev jk:Stmt:=aP 64
noncomputable abbrev iF:Stmt:=aP 65
noncomputable abbrev iG:Stmt:=aP 66
noncomputable abbrev s_law_send:Stmt:=aP 67
noncomputable abbrev iH:Stmt:=aP 68
noncomputable abbrev s_law_due:Stmt:=aP 69
noncomputable abbrev iJ:Stmt:=aP 70
noncomputable abbrev s_law_whole:Stmt:=aP 71
noncomputable abbrev s_law_told:Stmt:=aP 72
noncomputable abbrev jm:Stmt:=aP 73
noncomputable abbrev s_law_side:Stmt:=aP 74
noncomputable abbrev s_law_ends:Stmt:=aP 75
noncomputable abbrev jn:Stmt:=aP 76
noncomputable abbrev iK:Stmt:=aP 77
noncomputable abbrev s_law_many:Stmt:=aP 78
noncomputable abbrev s_law_right:Stmt:=aP 79
noncomputable abbrev fA:Stmt:=aP 80
noncomputable abbrev s_law:Stmt:=aP 81
noncomputable abbrev gP:Stmt:=aY (aP 12) 0
noncomputable abbrev gM:Stmt:=aY (aP 12) 1
noncomputable abbrev fZ:Stmt:=aY (aP 12) 2
noncomputable abbrev fY:Stmt:=aY (aP 12) 3
noncomputable abbrev gO:Stmt:=aY (aP 12) 4
noncomputable abbrev fX:Stmt:=aY (aP 12) 5
noncomputable abbrev gL:Stmt:=aY (aP 12) 7
noncomputable abbrev s_End_init:Stmt:=aY (aP 30) 0
noncomputable abbrev iL:Stmt:=aY (aP 37) 0
noncomputable abbrev fW:Stmt:=aY (aP 37) 1
noncomputable abbrev eE:Stmt:=aY (aP 37) 2
noncomputable abbrev fV:Stmt:=aY (aP 37) 3
noncomputable abbrev eD:Stmt:=aY (aP 37) 4
noncomputable abbrev eG:Stmt:=aY (aP 37) 5
noncomputable abbrev gA:Stmt:=aY (aP 40) 0
noncomputable abbrev s_Way_may_stay:Stmt:=aY (aP 40) 1
noncomputable abbrev s_Way_gain:Stmt:=aY (aP 40) 2
noncomputable abbrev dU:Stmt:=aY (aP 40) 3
noncomputable abbrev eJ:Stmt:=aY (aP 41) 0
noncomputable abbrev g7:Stmt:=aY (aP 41) 1
noncomputable abbrev eI:Stmt:=aY (aP 42) 0
noncomputable abbrev cR:Stmt:=aY (aP 42) 1
noncomputable abbrev s_Store_init:Stmt:=aY (aP 43) 0
noncomputable abbrev s_Store_may_stay:Stmt:=aY (aP 43) 1
noncomputable abbrev s_Net_init:Stmt:=aY (aP 50) 0
noncomputable abbrev s_Net_names:Stmt:=aY (aP 50) 1
noncomputable abbrev s_Net_want:Stmt:=aY (aP 50) 2
noncomputable abbrev s_Net_way:Stmt:=aY (aP 50) 3
noncomputable abbrev gZ:Stmt:=aY (aP 50) 4
structure Ad where
 Fraction:Addr
 End:Addr
 Taking:Addr
 Way:Addr
 Growing:Addr
 Leaking:Addr
 Store:Addr
 Net:Addr
 GainError:Addr
 NoNumber:Addr
 TooMany:Addr
 NoWay:Addr
 Broken:Addr
 Twice:Addr
 NoPlace:Addr
 OverBound:Addr
structure TX(K:W.Frag)(mg:Str->Option Value)(a:Ad):Prop where
 d_divisor:FDe K mg "divisor" s_divisor ["one","other"]
 d_in_lowest_terms:FDe K mg "in_lowest_terms" fB ["top","bottom"]
 d_total:FDe K mg "total" s_total ["some"]
 d_amount:FDe K mg "amount" s_amount ["plan","name"]
 d_without_noughts:FDe K mg "without_noughts" fw ["plan"]
 d_refuse_other_names:FDe K mg "refuse_other_names" dz ["net","plan"]
 d_sums_of_own_ways:FDe K mg "sums_of_own_ways" eC ["net","plan"]
 d_sums:FDe K mg "sums" s_sums ["net","plan"]
 d_together:FDe K mg "together" s_together ["one","other"]
 d_scaled:FDe K mg "scaled" s_scaled ["plan","number"]
 d_ring_along:FDe K mg "ring_along" ji ["pointers","place"]
 d_ways_of:FDe K mg "ways_of" s_ways_of ["net","walk"]
 d_gain_of:FDe K mg "gain_of" s_gain_of ["net","walk"]
 d_sent:FDe K mg "sent" s_sent ["net","walk","amount"]
 d_refuse_unfit:FDe K mg "refuse_unfit" gY ["net","plan"]
 d_least:FDe K mg "least" s_least ["numbers"]
 d_by_start:FDe K mg "by_start" s_by_start ["ways"]
 d_ring_in:FDe K mg "ring_in" s_ring_in ["net","plan"]
 d_most_along:FDe K mg "most_along" jj ["plan","unit"]
 d_less:FDe K mg "less" s_less ["plan","unit","amount"]
 d_taken_apart:FDe K mg "taken_apart" iE ["net","plan"]
 d_wants_by_name:FDe K mg "wants_by_name" gJ ["places"]
 d_check_way:FDe K mg "check_way" s_check_way ["way","ahead","wants"]
 d_ways_by_name:FDe K mg "ways_by_name" gX ["ways","wants"]
 d_law_cell_at:FDe K mg "_law_cell_at" iI ["_law_script","_law_k"]
 d_law_names:FDe K mg "_law_names" s_law_names ["_law_cell","_law_count"]
 d_law_gain:FDe K mg "_law_gain" s_law_gain ["_law_cell"]
 d_law_factor:FDe K mg "_law_factor" jo ["_law_cell","_law_equal"]
 d_law_way:FDe K mg "_law_way" s_law_way ["_law_name","_law_parts","_law_high","_law_cost_here"]
 d_law_cost:FDe K mg "_law_cost" s_law_cost ["_law_name","_law_ways_here","_law_cell"]
 d_law_net:FDe K mg "_law_net" s_law_net ["_law_spots","_law_ways_here","_law_cell"]
 d_law_plus:FDe K mg "_law_plus" s_law_plus ["_law_one","_law_other"]
 d_law_times:FDe K mg "_law_times" s_law_times ["_law_one","_law_other"]
 d_law_ways:FDe K mg "_law_ways" s_law_ways ["_law_script","_law_spots","_law_labels"]
 d_law_free_ways:FDe K mg "_law_free_ways" gK ["_law_script","_law_spots","_law_labels"]
 d_law_ring:FDe K mg "_law_ring" s_law_ring ["_law_ways_here","_law_around","_law_begin","_law_size","_law_name","_law_gain_here","_law_kind"]
 d_law_strand:FDe K mg "_law_strand" jk ["_law_ways_here","_law_labels","_law_count","_law_which","_law_cells"]
 d_law_strands:FDe K mg "_law_strands" iF ["_law_script","_law_ways_here","_law_labels","_law_count","_law_many_here"]
 d_law_product:FDe K mg "_law_product" iG ["_law_ways_here","_law_walk"]
 d_law_send:FDe K mg "_law_send" s_law_send ["_law_due_here","_law_ways_here","_law_walk","_law_put"]
 d_law_planned:FDe K mg "_law_planned" iH ["_law_due_here","_law_ways_here","_law_strand_here"]
 d_law_due:FDe K mg "_law_due" s_law_due ["_law_script","_law_ways_here","_law_strands_here"]
 d_law_brought:FDe K mg "_law_brought" iJ ["_law_spots","_law_ways_here","_law_due_here"]
 d_law_whole:FDe K mg "_law_whole" s_law_whole ["_law_found"]
 d_law_told:FDe K mg "_law_told" s_law_told ["_law_found"]
 d_law_places:FDe K mg "_law_places" jm ["_law_ways_here","_law_walk"]
 d_law_side:FDe K mg "_law_side" s_law_side ["_law_ways_here","_law_walk"]
 d_law_ends:FDe K mg "_law_ends" s_law_ends ["_law_ways_here","_law_strand_here"]
 d_law_formed:FDe K mg "_law_formed" jn ["_law_strand_here"]
 d_law_as_plan:FDe K mg "_law_as_plan" iK ["_law_due_here"]
 d_law_many:FDe K mg "_law_many" s_law_many ["_law_spots","_law_ways_here","_law_due_here","_law_at_spots"]
 d_law_right:FDe K mg "_law_right" s_law_right ["_law_spots","_law_ways_here","_law_due_here","_law_found"]
 d_law_apart_lists:FDe K mg "_law_apart_lists" fA ["_law_found"]
 d_law:FDe K mg "law" s_law ["_law_script"]
 cl_Fraction:Cls K a.Fraction
 mg_Fraction:mg "Fraction"=some (.ref a.Fraction)
 na_Fraction_top:NoAttr K a.Fraction "top"
 na_Fraction_bottom:NoAttr K a.Fraction "bottom"
 i_Fraction:IDe K a.Fraction "Fraction.__init__" gP ["self","top","bottom"] [[],[V.int 1]]
 m_Fraction_plus:MDe K a.Fraction "plus" "Fraction.plus" gM ["self","other"]
 m_Fraction_minus:MDe K a.Fraction "minus" "Fraction.minus" fZ ["self","other"]
 m_Fraction_times:MDe K a.Fraction "times" "Fraction.times" fY ["self","other"]
 m_Fraction_over:MDe K a.Fraction "over" "Fraction.over" gO ["self","other"]
 m_Fraction_under:MDe K a.Fraction "under" "Fraction.under" fX ["self","other"]
 m_Fraction_sign:MDe K a.Fraction "sign" "Fraction.sign" gL ["self"]
 c1_Fraction:PySem.W.findIn K (.ref a.Fraction) "__class__"=some (some (.builtin "object.__class__"))
 c4_Fraction:PySem.W.mroIn K a.Fraction (.type "object")=some true
 cl_End:Cls K a.End
 mg_End:mg "End"=some (.ref a.End)
 na_End_place:NoAttr K a.End "place"
 na_End_ring:NoAttr K a.End "ring"
 na_End_rest:NoAttr K a.End "rest"
 i_End:IDe K a.End "End.__init__" s_End_init ["self","place","ring","rest"] [[]]
 cl_Taking:Cls K a.Taking
 mg_Taking:mg "Taking"=some (.ref a.Taking)
 na_Taking_on:NoAttr K a.Taking "on"
 na_Taking_rest:NoAttr K a.Taking "rest"
 na_Taking_strands:NoAttr K a.Taking "strands"
 na_Taking_sources:NoAttr K a.Taking "sources"
 na_Taking_sinks:NoAttr K a.Taking "sinks"
 i_Taking:IDe K a.Taking "Taking.__init__" iL ["self","net","plan"] [[]]
 m_Taking_add_end:MDe K a.Taking "add_end" "Taking.add_end" fW ["self","place","ring","come"]
 m_Taking_take_ring:MDe K a.Taking "take_ring" "Taking.take_ring" eE ["self","ring"]
 m_Taking_sink_at:MDe K a.Taking "sink_at" "Taking.sink_at" fV ["self","place"]
 m_Taking_take_road:MDe K a.Taking "take_road" "Taking.take_road" eD ["self","source"]
 m_Taking_take_path:MDe K a.Taking "take_path" "Taking.take_path" eG ["self","source","path","sink"]
 cl_Way:Cls K a.Way
 mg_Way:mg "Way"=some (.ref a.Way)
 na_Way_name:NoAttr K a.Way "name"
 na_Way_start:NoAttr K a.Way "start"
 na_Way_goal:NoAttr K a.Way "goal"
 na_Way_high:NoAttr K a.Way "high"
 na_Way_cost:NoAttr K a.Way "cost"
 i_Way:IDe K a.Way "Way.__init__" gA ["self","name","start","goal","high","cost"] [[],[V.non,V.non]]
 c_Way:CDe K a.Way "Way.__init__" gA ["self","name","start","goal","high","cost"]
 m_Way_gain:MDe K a.Way "gain" "Way.gain" s_Way_gain ["self"]
 m_Way_out:MDe K a.Way "out" "Way.out" dU ["self","amount"]
 c1_Way:PySem.W.findIn K (.ref a.Way) "__class__"=some (some (.builtin "object.__class__"))
 c4_Way:PySem.W.mroIn K a.Way (.type "object")=some true
 cl_Growing:Cls K a.Growing
 mg_Growing:mg "Growing"=some (.ref a.Growing)
 na_Growing_rate:NoAttr K a.Growing "rate"
 na_Growing_name:NoAttr K a.Growing "name"
 na_Growing_start:NoAttr K a.Growing "start"
 na_Growing_goal:NoAttr K a.Growing "goal"
 na_Growing_high:NoAttr K a.Growing "high"
 na_Growing_cost:NoAttr K a.Growing "cost"
 i_Growing:IDe K a.Growing "Growing.__init__" eJ ["self","name","start","goal","rate","high","cost"] [[],[V.non,V.non]]
 m_Growing_gain:MDe K a.Growing "gain" "Growing.gain" g7 ["self"]
 m_Growing_out:MDe K a.Growing "out" "Way.out" dU ["self","amount"]
 c1_Growing:PySem.W.findIn K (.ref a.Growing) "__class__"=some (some (.builtin "object.__class__"))
 c4_Growing:PySem.W.mroIn K a.Growing (.type "object")=some true
 cl_Leaking:Cls K a.Leaking
 mg_Leaking:mg "Leaking"=some (.ref a.Leaking)
 na_Leaking_loss:NoAttr K a.Leaking "loss"
 na_Leaking_name:NoAttr K a.Leaking "name"
 na_Leaking_start:NoAttr K a.Leaking "start"
 na_Leaking_goal:NoAttr K a.Leaking "goal"
 na_Leaking_high:NoAttr K a.Leaking "high"
 na_Leaking_cost:NoAttr K a.Leaking "cost"
 i_Leaking:IDe K a.Leaking "Leaking.__init__" eI ["self","name","start","goal","loss","high","cost"] [[],[V.non,V.non]]
 m_Leaking_gain:MDe K a.Leaking "gain" "Leaking.gain" cR ["self"]
 m_Leaking_out:MDe K a.Leaking "out" "Way.out" dU ["self","amount"]
 c1_Leaking:PySem.W.findIn K (.ref a.Leaking) "__class__"=some (some (.builtin "object.__class__"))
 c4_Leaking:PySem.W.mroIn K a.Leaking (.type "object")=some true
 cl_Store:Cls K a.Store
 mg_Store:mg "Store"=some (.ref a.Store)
 na_Store_loss:NoAttr K a.Store "loss"
 na_Store_name:NoAttr K a.Store "name"
 na_Store_start:NoAttr K a.Store "start"
 na_Store_goal:NoAttr K a.Store "goal"
 na_Store_high:NoAttr K a.Store "high"
 na_Store_cost:NoAttr K a.Store "cost"
 m_Store_gain:MDe K a.Store "gain" "Leaking.gain" cR ["self"]
 m_Store_out:MDe K a.Store "out" "Way.out" dU ["self","amount"]
 c1_Store:PySem.W.findIn K (.ref a.Store) "__class__"=some (some (.builtin "object.__class__"))
 c4_Store:PySem.W.mroIn K a.Store (.type "object")=some true
 cl_Net:Cls K a.Net
 mg_Net:mg "Net"=some (.ref a.Net)
 na_Net_wants:NoAttr K a.Net "wants"
 na_Net_ways:NoAttr K a.Net "ways"
 i_Net:IDe K a.Net "Net.__init__" s_Net_init ["self","places","ways"] [[]]
 m_Net_names:MDe K a.Net "names" "Net.names" s_Net_names ["self"]
 m_Net_way:MDe K a.Net "way" "Net.way" s_Net_way ["self","name"]
 m_Net_all_ways:MDe K a.Net "all_ways" "Net.all_ways" gZ ["self"]
 no_Net_times:PySem.W.findIn K (.ref a.Net) "times"=some none
 no_Net_out:PySem.W.findIn K (.ref a.Net) "out"=some none
 c2:PySem.W.specialIn K (.builtin "object.__class__") "__get__"=some (some (.builtin "getset_descriptor.__get__"))
 c3:PySem.W.takesIn K (.builtin "object.__class__")=some true
 mg_GainError:mg "GainError"=some (.ref a.GainError)
 mg_NoNumber:mg "NoNumber"=some (.ref a.NoNumber)
 mg_TooMany:mg "TooMany"=some (.ref a.TooMany)
 mg_NoWay:mg "NoWay"=some (.ref a.NoWay)
 mg_Broken:mg "Broken"=some (.ref a.Broken)
 mg_Twice:mg "Twice"=some (.ref a.Twice)
 mg_NoPlace:mg "NoPlace"=some (.ref a.NoPlace)
 mg_OverBound:mg "OverBound"=some (.ref a.OverBound)
 k_Fraction_Fraction:PySem.W.kitOne K (.ref a.Fraction) (.ref a.Fraction)=some true
 k_Way_Store:PySem.W.kitOne K (.ref a.Way) (.ref a.Store)=some false
 k_Growing_Store:PySem.W.kitOne K (.ref a.Growing) (.ref a.Store)=some false
 k_Leaking_Store:PySem.W.kitOne K (.ref a.Leaking) (.ref a.Store)=some false
 k_int_bool:PySem.W.kitOne K (.type "int") (.type "bool")=some false
 k_int_int:PySem.W.kitOne K (.type "int") (.type "int")=some true
 k_list_list:PySem.W.kitOne K (.type "list") (.type "list")=some true
 k_str_str:PySem.W.kitOne K (.type "str") (.type "str")=some true
 k_tuple_tuple:PySem.W.kitOne K (.type "tuple") (.type "tuple")=some true
 gi_MOST_PLACES:∃tk,mg "MOST_PLACES"=some (.int 12 tk)
 gi_MOST_WAYS:∃tk,mg "MOST_WAYS"=some (.int 24 tk)
 z_abs:mg "abs"=none
 z_bool:mg "bool"=none
 z_dict:mg "dict"=none
 z_int:mg "int"=none
 z_isinstance:mg "isinstance"=none
 z_len:mg "len"=none
 z_list:mg "list"=none
 z_range:mg "range"=none
 z_set:mg "set"=none
 z_str:mg "str"=none
 z_tuple:mg "tuple"=none
open PySem L2 in
local macro_rules | `(tactic| walk_at "sc") => `(tactic| exact ⟨rfl, rfl, rfl, by decide +kernel, rfl, by decide +kernel, by decide +kernel⟩)
structure Bt(i:Int):Prop where
 le:Builtin.Int.intBits i<=2^20
inductive IspLaw(K:W.Frag)(vs:List V)(H:Hp)(Q:VK):Prop
 |mk(l:Addr)(ns:List Int)(h1:vs=[.ref l])(h2:SqL K H l (ns.map V.int))(h3:ns.length<=63)(h4:(∀i∈ns,Bt i))(h5:∀H',Q (.bl true) H'):IspLaw K vs H Q
noncomputable def spLaw(K:W.Frag):Sp:=λvs H Q _=>IspLaw K vs H Q
structure Zz where
 P:Program
 w:World
 K:W.Frag
 mg:Str->Option Value
 base:Heap
 a:Ad
noncomputable def ZzB(z:Zz):Prop:=TX z.K z.mg z.a->∀f fd,Fun z.K "law" "law" s_law f fd->FnOk z.P z.w z.K z.mg z.base CX0 20 f fd ["_law_script"] (spLaw z.K)
theorem Zz.ex:∃z:Zz,ZzB z->∀z,ZzB z:=by
 by_cases h:∃z,¬ZzB z
 ·obtain⟨z,hz⟩:=h;exact⟨z,λk=>absurd k hz⟩
 ·exact⟨⟨default,⟨λ_ _=>0,⟨λ_=>0,λ_=>0,λt=>t,λ_=>0,λ_ _=>0,λ_=>false,λ_=>0,.refcount,.text,λ_=>0,λ_=>none,λ_=>false,λ_ _ _=>true,λ_ _ _=>true,true,λ_=>false,λ_=>none,λ_=>none,λ_ _ _=>0,λ_ _=>none,λ_=>none,λ_=>(0,false,Str.ofString ""),λ_=>none,λd=>d,λ_=>false⟩⟩,[],λ_=>none,default,⟨0,0,0,0,0,0,0,0,0,0,0,0,0,0,0,0⟩⟩,λ_ z=>kn λk=>h ⟨z,k⟩⟩
@[irreducible]noncomputable def zz:Zz:=Classical.choose Zz.ex
@[irreducible]noncomputable def P:Program:=zz.P
@[irreducible]noncomputable def w:World:=zz.w
@[irreducible]noncomputable def K:W.Frag:=zz.K
@[irreducible]noncomputable def mg:Str->Option Value:=zz.mg
@[irreducible]noncomputable def base:Heap:=zz.base
@[irreducible]noncomputable def a:Ad:=zz.a
theorem zz_all(h:TX K mg a->∀f fd,Fun K "law" "law" s_law f fd->FnOk P w K mg base CX0 20 f fd ["_law_script"] (spLaw K)):∀z,ZzB z:=by
 unfold K mg a P w base zz at h;exact Classical.choose_spec Zz.ex h
section
theorem sc_divisor:FnScope ["one","other","rest"] ["one","other"] (ak s_divisor):=by walk_at"sc"
theorem sc_in_lowest_terms:FnScope ["top","bottom","made"] ["top","bottom"] (ak fB):=by walk_at"sc"
theorem sc_total:FnScope ["some","top","bottom","shared","number","common","own","left"] ["some"] (ak s_total):=by walk_at"sc"
theorem sc_amount:FnScope ["plan","name"] ["plan","name"] (ak s_amount):=by walk_at"sc"
theorem sc_without_noughts:FnScope ["plan","kept","name","part"] ["plan"] (ak fw):=by walk_at"sc"
theorem sc_refuse_other_names:FnScope ["net","plan","name"] ["net","plan"] (ak dz):=by walk_at"sc"
theorem sc_sums_of_own_ways:FnScope ["net","plan","result","place","way","part"] ["net","plan"] (ak eC):=by walk_at"sc"
theorem sc_sums:FnScope ["net","plan"] ["net","plan"] (ak s_sums):=by walk_at"sc"
theorem sc_together:FnScope ["one","other","added","name","part"] ["one","other"] (ak s_together):=by walk_at"sc"
theorem sc_scaled:FnScope ["plan","number","result","name","part"] ["plan","number"] (ak s_scaled):=by walk_at"sc"
theorem sc_ring_along:FnScope ["pointers","place","seen","ring"] ["pointers","place"] (ak ji):=by walk_at"sc"
theorem sc_ways_of:FnScope ["net","walk","ways","name","way"] ["net","walk"] (ak s_ways_of):=by walk_at"sc"
theorem sc_gain_of:FnScope ["net","walk","gain","way"] ["net","walk"] (ak s_gain_of):=by walk_at"sc"
theorem sc_sent:FnScope ["net","walk","amount","parts","going","way","plan","name","some"] ["net","walk","amount"] (ak s_sent):=by walk_at"sc"
theorem sc_refuse_unfit:FnScope ["net","plan","name","part"] ["net","plan"] (ak gY):=by walk_at"sc"
theorem sc_least:FnScope ["numbers","found","number"] ["numbers"] (ak s_least):=by walk_at"sc"
theorem sc_by_start:FnScope ["ways","found","way"] ["ways"] (ak s_by_start):=by walk_at"sc"
theorem sc_ring_in:FnScope ["net","plan","ways","onward","kept"] ["net","plan"] (ak s_ring_in):=by walk_at"sc"
theorem sc_most_along:FnScope ["plan","unit"] ["plan","unit"] (ak jj):=by walk_at"sc"
theorem sc_less:FnScope ["plan","unit","amount"] ["plan","unit","amount"] (ak s_less):=by walk_at"sc"
theorem sc_taken_apart:FnScope ["net","plan","taking","ring","source"] ["net","plan"] (ak iE):=by walk_at"sc"
theorem sc_wants_by_name:FnScope ["places","wants","name","want"] ["places"] (ak gJ):=by walk_at"sc"
theorem sc_check_way:FnScope ["way","ahead","wants","place"] ["way","ahead","wants"] (ak s_check_way):=by walk_at"sc"
theorem sc_ways_by_name:FnScope ["ways","wants","ahead","way"] ["ways","wants"] (ak gX):=by walk_at"sc"
theorem sc_law_cell_at:FnScope ["_law_script","_law_k"] ["_law_script","_law_k"] (ak iI):=by walk_at"sc"
theorem sc_law_names:FnScope ["_law_cell","_law_count","_law_signs","_law_fill","_law_at"] ["_law_cell","_law_count"] (ak s_law_names):=by walk_at"sc"
theorem sc_law_gain:FnScope ["_law_cell"] ["_law_cell"] (ak s_law_gain):=by walk_at"sc"
theorem sc_law_factor:FnScope ["_law_cell","_law_equal"] ["_law_cell","_law_equal"] (ak jo):=by walk_at"sc"
theorem sc_law_way:FnScope ["_law_name","_law_parts","_law_high","_law_cost_here","_law_gain_here"] ["_law_name","_law_parts","_law_high","_law_cost_here"] (ak s_law_way):=by walk_at"sc"
theorem sc_law_cost:FnScope ["_law_name","_law_ways_here","_law_cell"] ["_law_name","_law_ways_here","_law_cell"] (ak s_law_cost):=by walk_at"sc"
theorem sc_law_net:FnScope ["_law_spots","_law_ways_here","_law_cell","_law_made","_law_name","_law_high"] ["_law_spots","_law_ways_here","_law_cell"] (ak s_law_net):=by walk_at"sc"
theorem sc_law_plus:FnScope ["_law_one","_law_other"] ["_law_one","_law_other"] (ak s_law_plus):=by walk_at"sc"
theorem sc_law_times:FnScope ["_law_one","_law_other"] ["_law_one","_law_other"] (ak s_law_times):=by walk_at"sc"
theorem sc_law_ways:FnScope ["_law_script","_law_spots","_law_labels","_law_count","_law_ways_here","_law_k","_law_goal","_law_cell"] ["_law_script","_law_spots","_law_labels"] (ak s_law_ways):=by walk_at"sc"
theorem sc_law_free_ways:FnScope ["_law_script","_law_spots","_law_labels","_law_count","_law_ways_here","_law_k","_law_cell","_law_start","_law_goal"] ["_law_script","_law_spots","_law_labels"] (ak gK):=by walk_at"sc"
theorem sc_law_ring:FnScope ["_law_ways_here","_law_around","_law_begin","_law_size","_law_name","_law_gain_here","_law_kind","_law_names_here","_law_product_here","_law_label"] ["_law_ways_here","_law_around","_law_begin","_law_size","_law_name","_law_gain_here","_law_kind"] (ak s_law_ring):=by walk_at"sc"
theorem sc_law_strand:FnScope ["_law_ways_here","_law_labels","_law_count","_law_which","_law_cells","_law_kind","_law_start","_law_size","_law_ahead","_law_behind","_law_more","_law_less","_law_many_here","_law_head","_law_last","_law_tail","_law_path"] ["_law_ways_here","_law_labels","_law_count","_law_which","_law_cells"] (ak jk):=by walk_at"sc"
theorem sc_law_strands:FnScope ["_law_script","_law_ways_here","_law_labels","_law_count","_law_many_here","_law_strands_here","_law_k","_law_cells"] ["_law_script","_law_ways_here","_law_labels","_law_count","_law_many_here"] (ak iF):=by walk_at"sc"
theorem sc_law_product:FnScope ["_law_ways_here","_law_walk","_law_gain_here","_law_name"] ["_law_ways_here","_law_walk"] (ak iG):=by walk_at"sc"
theorem sc_law_send:FnScope ["_law_due_here","_law_ways_here","_law_walk","_law_put","_law_name"] ["_law_due_here","_law_ways_here","_law_walk","_law_put"] (ak s_law_send):=by walk_at"sc"
theorem sc_law_planned:FnScope ["_law_due_here","_law_ways_here","_law_strand_here","_law_put","_law_gain_here","_law_out"] ["_law_due_here","_law_ways_here","_law_strand_here"] (ak iH):=by walk_at"sc"
theorem sc_law_due:FnScope ["_law_script","_law_ways_here","_law_strands_here","_law_due_here","_law_strand_here","_law_labels","_law_k","_law_cell"] ["_law_script","_law_ways_here","_law_strands_here"] (ak s_law_due):=by walk_at"sc"
theorem sc_law_brought:FnScope ["_law_spots","_law_ways_here","_law_due_here","_law_at_spots","_law_spot","_law_name","_law_way_here","_law_put"] ["_law_spots","_law_ways_here","_law_due_here"] (ak iJ):=by walk_at"sc"
theorem sc_law_whole:FnScope ["_law_found"] ["_law_found"] (ak s_law_whole):=by walk_at"sc"
theorem sc_law_told:FnScope ["_law_found"] ["_law_found"] (ak s_law_told):=by walk_at"sc"
theorem sc_law_places:FnScope ["_law_ways_here","_law_walk","_law_places_here","_law_name"] ["_law_ways_here","_law_walk"] (ak jm):=by walk_at"sc"
theorem sc_law_side:FnScope ["_law_ways_here","_law_walk","_law_places_here","_law_gain_here"] ["_law_ways_here","_law_walk"] (ak s_law_side):=by walk_at"sc"
theorem sc_law_ends:FnScope ["_law_ways_here","_law_strand_here","_law_head","_law_path","_law_tail","_law_places_here","_law_walk","_law_begin","_law_end"] ["_law_ways_here","_law_strand_here"] (ak s_law_ends):=by walk_at"sc"
theorem sc_law_formed:FnScope ["_law_strand_here","_law_k","_law_put"] ["_law_strand_here"] (ak jn):=by walk_at"sc"
theorem sc_law_as_plan:FnScope ["_law_due_here","_law_plan","_law_name"] ["_law_due_here"] (ak iK):=by walk_at"sc"
theorem sc_law_many:FnScope ["_law_spots","_law_ways_here","_law_due_here","_law_at_spots","_law_many_here","_law_name","_law_spot"] ["_law_spots","_law_ways_here","_law_due_here","_law_at_spots"] (ak s_law_many):=by walk_at"sc"
theorem sc_law_right:FnScope ["_law_spots","_law_ways_here","_law_due_here","_law_found","_law_at_spots","_law_added","_law_strand_here","_law_begin","_law_end","_law_name","_law_one","_law_other"] ["_law_spots","_law_ways_here","_law_due_here","_law_found"] (ak s_law_right):=by walk_at"sc"
theorem sc_law_apart_lists:FnScope ["_law_found","_law_rest","_law_strand_here"] ["_law_found"] (ak fA):=by walk_at"sc"
theorem sc_law:FnScope ["_law_script","_law_cell","_law_spots","_law_labels","_law_ways_here","_law_strands_here","_law_net_here","_law_due_here","_law_plan","_law_handed","_law_k","_law_found","_law_name"] ["_law_script"] (ak s_law):=by walk_at"sc"
theorem sc_Fraction_init:FnScope ["self","top","bottom","common"] ["self","top","bottom"] (ak gP):=by walk_at"sc"
theorem sc_Fraction_plus:FnScope ["self","other","common","own","top","left"] ["self","other"] (ak gM):=by walk_at"sc"
theorem jg:FnScope ["self","other"] ["self","other"] (ak fZ):=by walk_at"sc"
theorem sc_Fraction_times:FnScope ["self","other","first","second","top"] ["self","other"] (ak fY):=by walk_at"sc"
theorem sc_Fraction_over:FnScope ["self","other"] ["self","other"] (ak gO):=by walk_at"sc"
theorem jf:FnScope ["self","other"] ["self","other"] (ak fX):=by walk_at"sc"
theorem sc_Fraction_sign:FnScope ["self"] ["self"] (ak gL):=by walk_at"sc"
theorem sc_End_init:FnScope ["self","place","ring","rest"] ["self","place","ring","rest"] (ak s_End_init):=by walk_at"sc"
theorem sc_Taking_init:FnScope ["self","net","plan","place","come"] ["self","net","plan"] (ak iL):=by walk_at"sc"
theorem je:FnScope ["self","place","ring","come"] ["self","place","ring","come"] (ak fW):=by walk_at"sc"
theorem sc_Taking_take_ring:FnScope ["self","ring","unit","amount","eaten"] ["self","ring"] (ak eE):=by walk_at"sc"
theorem sc_Taking_sink_at:FnScope ["self","place","end"] ["self","place"] (ak fV):=by walk_at"sc"
theorem sc_Taking_take_road:FnScope ["self","source","onward","path","place"] ["self","source"] (ak eD):=by walk_at"sc"
theorem sc_Taking_take_path:FnScope ["self","source","path","sink","unit","gain","amount"] ["self","source","path","sink"] (ak eG):=by walk_at"sc"
theorem sc_Way_init:FnScope ["self","name","start","goal","high","cost"] ["self","name","start","goal","high","cost"] (ak gA):=by walk_at"sc"
theorem sc_Way_gain:FnScope ["self"] ["self"] (ak s_Way_gain):=by walk_at"sc"
theorem gw:FnScope ["self","amount"] ["self","amount"] (ak dU):=by walk_at"sc"
theorem sc_Growing_init:FnScope ["self","name","start","goal","rate","high","cost"] ["self","name","start","goal","rate","high","cost"] (ak eJ):=by walk_at"sc"
theorem sc_Growing_gain:FnScope ["self"] ["self"] (ak g7):=by walk_at"sc"
theorem sc_Leaking_init:FnScope ["self","name","start","goal","loss","high","cost"] ["self","name","start","goal","loss","high","cost"] (ak eI):=by walk_at"sc"
theorem gI:FnScope ["self"] ["self"] (ak cR):=by walk_at"sc"
theorem sc_Net_init:FnScope ["self","places","ways"] ["self","places","ways"] (ak s_Net_init):=by walk_at"sc"
theorem sc_Net_names:FnScope ["self"] ["self"] (ak s_Net_names):=by walk_at"sc"
theorem sc_Net_way:FnScope ["self","name"] ["self","name"] (ak s_Net_way):=by walk_at"sc"
theorem sc_Net_all_ways:FnScope ["self"] ["self"] (ak gZ):=by walk_at"sc"
end
end G
local macro_rules | `(tactic| walk_at "q") => `(tactic| try dsimp only [L2.cxOf, L2.Cx.nox, L2.Cx.wish])
open PySem L2 in
local macro_rules | `(tactic| walk_at "kit") => `(tactic| first | exact G.TX.k_Fraction_Fraction (by assumption) | exact G.TX.k_Way_Store (by assumption) | exact G.TX.k_Growing_Store (by assumption) | exact G.TX.k_Leaking_Store (by assumption) | exact G.TX.k_int_bool (by assumption) | exact G.TX.k_int_int (by assumption) | exact G.TX.k_list_list (by assumption) | exact G.TX.k_str_str (by assumption) | exact G.TX.k_tuple_tuple (by assumption))
open PySem L2 in
local macro_rules | `(tactic| walk_at "sm") => `(tactic| first | assumption | (refine And.left (?_ : G.SmR _); assumption) | (refine And.right (?_ : G.SmR _); assumption))
open PySem L2 in
local macro_rules | `(tactic| walk_at "fa") => `(tactic| first | rfl | assumption | exact True.intro | exact (fun _ h => h) | ((with_reducible show L2.TyOf _ _ _ _); first | exact TyOf.int _ | exact TyOf.str _ | exact TyOf.bl _ | exact TyOf.non | exact G.FrAt.ty (G.TX.fr (by assumption)) (by walk_at "fa")) | ((with_reducible show PySem.W.kitOne _ _ _ = _); walk_at "kit") | ((with_reducible show G.FrAt _ _ _ _); apply G.FrAt.up; assumption; walk_at "fa") | ((with_reducible show L2.SqL _ _ _ _); apply Same.seq; assumption; walk_at "fa") | (show (0 : Int) < _; decide) | (refine (And.intro ?_ ?_ : CDiv _ _) <;> decide) | (refine (And.intro ?_ (And.intro ?_ ?_) : CPow _ _) <;> decide) | exact (PySem.IntMulOk.of_right (by decide)) | exact (PySem.IntMulOk.of_left (by decide)) | (refine (And.intro ?_ ?_ : CMulB _ _) <;> walk_at "sm"))
open PySem L2 in
local macro_rules | `(tactic| walk_at "rd") => `(tactic| repeat (first | refine L2.ItVar.mk _ (by walk_at "fa") ?_ | refine L2.ItB.mk _ (by walk_at "fa") ?_ | refine L2.ItTest.mk _ (by walk_at "fa") ?_ | refine L2.IrU.mk _ (by walk_at "fa") ?_ | refine L2.IrI0.mk _ _ (by walk_at "fa") (by walk_at "fa") ?_ | refine L2.IrIxL.mk _ _ _ _ (by walk_at "fa") (by walk_at "fa") (by walk_at "fa") (by walk_at "fa") ?_ | refine L2.IrIxT.mk _ _ _ _ (by walk_at "fa") (by walk_at "fa") (by walk_at "fa") (by walk_at "fa") ?_ | refine L2.ItFld.mk _ _ _ _ _ (by walk_at "fa") (by walk_at "fa") (by walk_at "fa") (by walk_at "fa") (by walk_at "fa") ?_ | apply @Exists.intro V | apply @Exists.intro Int | apply @Exists.intro Addr | apply @Exists.intro Rat | apply @Exists.intro Bool | apply @Exists.intro Value | apply @Exists.intro (List V) | apply @Exists.intro (List (Str × V)) | apply @Exists.intro Str | apply @Exists.intro (List Int) | refine And.intro (by walk_at "fa") ?_ | refine L2.iteT ?_ | refine L2.iteF ?_))
namespace G
open PySem L2
section
theorem TX.fr(T:TX K mg a):FrC K a.Fraction:=⟨T.cl_Fraction,T.na_Fraction_top,T.na_Fraction_bottom,T.c1_Fraction,T.c2,T.c3,T.c4_Fraction⟩
theorem gcd_turn{a b n m:Int}(h:gcd n m=gcd a b)(hm:0<=m)(p:m≠0):0<=n%m/\n%m<m/\gcd m (n%m)=gcd a b:=
 ⟨Int.emod_nonneg n p,Int.emod_lt_of_pos n (by lia),by rw[gcd_step n m (by lia),h]⟩
theorem cw(T:TX K mg a):FnB P w K mg base CX0 "divisor" 1 ["one","other"] spDiv:=by
 refine T.d_divisor.okA sc_divisor (λf cdv A outer s H vs Q E hr h=>?_) (λvs H Q E h=>?_)
 rotate_left
 ·obtain⟨a,b,rfl,_⟩:=h;rfl
 ·obtain⟨a,b,rfl,k⟩:=h
  refine⟨_,(af (aj (i:=0) sc_divisor.nd (aI call_abs (by rfl) T.z_abs PyProof.Rows.boot_abs (aa (pv 0) ae)))
   (af (aj (i:=1) sc_divisor.nd (aI call_abs (by rfl) T.z_abs PyProof.Rows.boot_abs (aa (pv 1) ae)))
   (af (gc jR (au fH (pv 1) ab) (af (aj (i:=2) sc_divisor.nd (ao aL (pv 0) (pv 1)))
   (af (aj (i:=0) sc_divisor.nd (pv 1))
   (ah (aj (i:=1) sc_divisor.nd (pv 2))))))
   (ah (ax (pv 0)))))),?_⟩
  walk_at"q"
  refine⟨_,rfl,_,rfl,_,rfl,_,rfl,?_⟩;refine while_by (λσ H'=>∃(n m:Int)(r:Option V),σ=[some (.int n),some (.int m),r]/\H'=H/\0<=n/\0<=m/\gcd n m=gcd a b) (λσ _=>match σ with|[_,some (.int m),_]=>m.toNat|_=>0) ?_ ?_ ?_
  ·refine⟨_,_,_,rfl,rfl,?_,?_,gcd_abs a b⟩<;>split<;>lia
  ·rintro σ H'⟨n,m,r,rfl,rfl,hn,hm,hg⟩;refine⟨_,rfl,rfl,_,rfl,?_⟩;by_cases z:m=0
   ·subst z;refine iteNS rfl ?_;refine⟨_,rfl,?_⟩;rw[gcd_zero n hn]at hg;rw[hg];exact k
   ·refine iteC (by rw[neV z];rfl) ?_;obtain⟨g1,g2,g3⟩:=gcd_turn hg hm z;refine⟨_,rfl,_,rfl,_,_,rfl,rfl,(by show(0:Int)<m;lia),_,rfl,_,rfl,⟨_,_,_,rfl,rfl,hm,g1,g3⟩,?_⟩;show(n%m).toNat<m.toNat
    lia
  ·rintro σ H' Q1 Q2 hq⟨v,e,s1,c,ec,q⟩;exact⟨v,e,s1,c,ec,hq _ _ q⟩
theorem ok_init(T:TX K mg a):∀dvs∈[[],[V.int 1]],MkB P w K mg base CX0 a.Fraction 2 ["self","top","bottom"] dvs (spInit a.Fraction):=by
 refine T.i_Fraction.okA sc_Fraction_init (λf cdv A outer s H vs Q E hr h=>?_) (λvs H Q E h=>?_)
 rotate_left
 ·obtain⟨p,dx,n,b,rfl,_⟩:=h;rfl
 ·obtain⟨p,dx,n,b,rfl,hp,hb,sb,k⟩:=h
  refine⟨_,(af (aN (au cT (pv 2) ab) (ah bP) aA)
   (af (aj (i:=3) sc_Fraction_init.nd (az (cw T) hr aq (aa (pv 1) (aa (pv 2) ae))))
   (af (aN (au gQ (pv 2) ab) (ah (aj (i:=3) sc_Fraction_init.nd (iN fR (pv 3)))) aA)
   (af (bG (pv 0) (ao bC (pv 1) (pv 3)) rfl)
   (ah (bG (pv 0) (ao bC (pv 2) (pv 3)) rfl)))))),?_⟩
  walk_at"q"
  refine⟨_,rfl,rfl,_,rfl,?_⟩;refine cL (neV hb) ?_;refine⟨_,rfl,_,rfl,n,b,rfl,?_⟩;refine⟨_,rfl,_,_,rfl,rfl,_,rfl,?_⟩;obtain⟨i1,i2⟩:=init_spec n b hb;have gp:=cO n hb;have gs:=Sm.gcd_r n hb sb
  have fin:∀c:Int,c≠0->Sm c->n.fdiv c=(Rat.divInt n b).num->b.fdiv c=((Rat.divInt n b).den:Int)->
    tSeq (sFld K (ix 0) (tOp (rI CDivB λi j=>.int (i.fdiv j)) (ix 1) (ix 3)) "top") (sFld K (ix 0) (tOp (rI CDivB λi j=>.int (i.fdiv j)) (ix 2) (ix 3)) "bottom") {nx:=λ_ H'=>Q .non H',rt:=Q} [some (.ref p),some (.int n),some (.int b),some (.int c)] H:=by
   intro c hc hs e1 e2;refine⟨_,rfl,_,rfl,_,_,rfl,rfl,⟨hc,hs⟩,_,rfl,p,a.Fraction,dx,_,rfl,hp,T.cl_Fraction,T.na_Fraction_top,(by show 0<1000;decide),?_⟩;refine⟨_,rfl,_,rfl,_,_,rfl,rfl,⟨hc,hs⟩,_,rfl,p,a.Fraction,dx,_,rfl,ag,T.cl_Fraction,T.na_Fraction_bottom,(by show 1<1000;decide),?_⟩;refine k _ ?_;rw[ie];dsimp only;rw[e1,e2,ff_new]
  refine ifB (λhn=>?_) (λhn=>?_)
  ·rw[if_pos hn]at i1 i2;refine⟨_,rfl,_,rfl,?_⟩;exact fin _ (by lia) (gs.le (by lia)) i1 i2
  ·rw[if_neg hn]at i1 i2;exact fin _ (by lia) gs i1 i2
theorem sm1:Sm 1:=Nat.one_lt_two_pow (by decide)
theorem mk2(T:TX K mg a):MkB P w K mg base CX0 a.Fraction 2 ["self","top","bottom"] [] (spInit a.Fraction):=ok_init T _ (by simp)
theorem mk1(T:TX K mg a):MkB P w K mg base CX0 a.Fraction 2 ["self","top","bottom"] [.int 1] (spInit a.Fraction):=ok_init T _ (by simp)
theorem bz(T:TX K mg a):FnB P w K mg base CX0 "in_lowest_terms" 4 ["top","bottom"] (spLow a.Fraction):=by
 refine T.d_in_lowest_terms.okA sc_in_lowest_terms (λf cdv A outer s H vs Q E hr h=>?_) (λvs H Q E h=>?_)
 rotate_left
 ·obtain⟨t,b,rfl,_⟩:=h;rfl
 ·obtain⟨t,b,rfl,k⟩:=h
  refine⟨_,(af (aj (i:=2) sc_in_lowest_terms.nd (bD (mk1 T) hr T.mg_Fraction aq (aa ab ae)))
   (af (bG (pv 2) (pv 0) rfl)
   (af (bG (pv 2) (pv 1) rfl)
   (ah (ax (pv 2)))))),?_⟩
  walk_at"q"
  refine⟨0,1,rfl,by decide,sm1,λx H1 nx s1⟨dx,hx⟩=>?_⟩;refine⟨_,rfl,_,rfl,x,a.Fraction,dx,_,rfl,hx,T.cl_Fraction,T.na_Fraction_top,(by show 2<1000;decide),?_⟩;refine⟨_,rfl,_,rfl,x,a.Fraction,dx,_,rfl,ag,T.cl_Fraction,T.na_Fraction_bottom,(by show 2<1000;decide),?_⟩;refine⟨_,rfl,?_⟩;refine k x dx _ nx (λc o e=>?_) ?_
  ·rw[ai (ar e nx),ai (ar e nx)];exact s1 _ _ e
  ·rw[ag,ff_put]
noncomputable abbrev always:Rat->Rat->Prop:=λ_ _=>True
theorem ok_plus(T:TX K mg a):MtB P w K mg base CX0 a.Fraction "plus" 5 ["self","other"] (spR2 a.Fraction (λx y=>x+y) always):=by
 refine T.m_Fraction_plus.okA sc_Fraction_plus (λf cdv A outer s H vs Q E hr h=>?_) (λvs H Q E h=>?_)
 rotate_left
 ·obtain⟨p,q,x,y,rfl,_⟩:=h;rfl
 ·obtain⟨p,q,x,y,rfl,hp,hq,sx,sy,_,k⟩:=h
  refine⟨_,(af (aj (i:=2) sc_Fraction_plus.nd (az (cw T) hr aq (aa (cm T.fr (pv 0)) (aa (cm T.fr (pv 1)) ae))))
   (af (aj (i:=3) sc_Fraction_plus.nd (ao bC (cm T.fr (pv 0)) (pv 2)))
   (af (aj (i:=4) sc_Fraction_plus.nd (ao aO (ao bE (ck T.fr (pv 0)) (ao bC (cm T.fr (pv 1)) (pv 2))) (ao bE (ck T.fr (pv 1)) (pv 3))))
   (af (aj (i:=5) sc_Fraction_plus.nd (az (cw T) hr aq (aa (pv 4) (aa (pv 2) ae))))
   (ah (ax (az (bz T) hr aq (aa (ao bC (pv 4) (pv 5)) (aa (ao bE (pv 3) (ao bC (cm T.fr (pv 1)) (pv 5))) ae))))))))),?_⟩
  walk_at"q"
  have hx:=den_ne x;have hy:=den_ne y;have xp:=den_pos x;have yp:=den_pos y;have gp:=cO (x.den:Int) hy;have gs:=Sm.gcd_r (x.den:Int) hy sy.2;have gn:gcd x.den y.den≠0:=by lia
  have so:Sm ((x.den:Int).fdiv (gcd x.den y.den)):=sx.2.le (fQ _ gp (by lia));have so2:Sm ((y.den:Int).fdiv (gcd x.den y.den)):=sy.2.le (fQ _ gp (by lia));refine⟨_,rfl,p,x,rfl,hp,_,rfl,q,y,rfl,hq,_,_,rfl,?_⟩;refine⟨_,rfl,p,x,rfl,hp,_,rfl,_,_,rfl,rfl,⟨by lia,gs⟩,?_⟩;refine⟨_,rfl,p,x,rfl,hp,_,rfl,q,y,rfl,hq,_,rfl,_,_,rfl,rfl,⟨by lia,gs⟩,_,_,rfl,rfl,⟨sx.1,so2⟩,_,rfl,q,y,rfl,hq,_,rfl,_,_,rfl,rfl,⟨sy.1,so⟩,_,_,rfl,rfl,?_⟩;refine⟨_,rfl,_,rfl,_,_,rfl,?_⟩;generalize htop:x.num*(y.den:Int).fdiv (gcd x.den y.den)+y.num*(x.den:Int).fdiv (gcd x.den y.den)=top;have lp:=cO top gn;have ls:=Sm.gcd_r top gn gs;refine⟨_,rfl,_,rfl,_,_,rfl,rfl,⟨by lia,ls⟩,_,rfl,_,rfl,q,y,rfl,hq,_,rfl,_,_,rfl,rfl,⟨by lia,ls⟩,_,_,rfl,rfl,⟨so,sy.2.le (fQ _ lp (by lia))⟩,_,_,rfl,?_⟩;intro r dx H' nr s1 h1;obtain⟨e1,e2⟩:=add_spec x y;try dsimp only at e1 e2
  rw[htop]at e1 e2;refine k r H' nr s1 ⟨dx,?_⟩;show H' r=some (.ins a.Fraction dx (ff (x+y).num (x+y).den));try rw[htop]at h1
  rw[h1,<-e1,<-e2]
theorem eR(T:TX K mg a):MtB P w K mg base CX0 a.Fraction "minus" 6 ["self","other"] (spR2 a.Fraction (λx y=>x-y) always):=by
 refine T.m_Fraction_minus.okA jg (λf cdv A outer s H vs Q E hr h=>?_) (λvs H Q E h=>?_)
 rotate_left
 ·obtain⟨p,q,x,y,rfl,_⟩:=h;rfl
 ·obtain⟨p,q,x,y,rfl,hp,hq,sx,sy,_,k⟩:=h;refine⟨_,(ah (ax (b7 T.fr (pv 0) (ok_plus T) hr aq (aa (az (bz T) hr aq (aa (iN fR (ck T.fr (pv 1))) (aa (cm T.fr (pv 1)) ae))) ae)))),?_⟩;walk_at"q"
  refine⟨_,rfl,p,x,rfl,hp,_,rfl,q,y,rfl,hq,_,rfl,_,rfl,q,y,rfl,hq,_,_,rfl,λr dx H1 nr s1 h1=>?_⟩;have f1:FrAt a.Fraction H1 r (-y):=⟨dx,h1⟩;refine⟨p,r,x,-y,rfl,hp.mono s1,f1,sx,⟨by show Sm (-y.num);exact sy.1.le (by omega),sy.2⟩,trivial,λr' H2 nr' s2 f2=>?_⟩;refine k r' H2 (s1.free nr') (s1.trans s2) ?_;show FrAt a.Fraction H2 r' (x-y);rw[Rat.sub_eq_add_neg];exact f2
theorem gm(T:TX K mg a):MtB P w K mg base CX0 a.Fraction "times" 5 ["self","other"] (spR2 a.Fraction (λx y=>x*y) always):=by
 refine T.m_Fraction_times.okA sc_Fraction_times (λf cdv A outer s H vs Q E hr h=>?_) (λvs H Q E h=>?_)
 rotate_left
 ·obtain⟨p,q,x,y,rfl,_⟩:=h;rfl
 ·obtain⟨p,q,x,y,rfl,hp,hq,sx,sy,_,k⟩:=h
  refine⟨_,(af (aj (i:=2) sc_Fraction_times.nd (az (cw T) hr aq (aa (ck T.fr (pv 0)) (aa (cm T.fr (pv 1)) ae))))
   (af (aj (i:=3) sc_Fraction_times.nd (az (cw T) hr aq (aa (ck T.fr (pv 1)) (aa (cm T.fr (pv 0)) ae))))
   (af (aj (i:=4) sc_Fraction_times.nd (ao bE (ao bC (ck T.fr (pv 0)) (pv 2)) (ao bC (ck T.fr (pv 1)) (pv 3))))
   (ah (ax (az (bz T) hr aq (aa (pv 4) (aa (ao bE (ao bC (cm T.fr (pv 0)) (pv 3)) (ao bC (cm T.fr (pv 1)) (pv 2))) ae)))))))),?_⟩
  walk_at"q"
  have hx:=den_ne x;have hy:=den_ne y;have xp:=den_pos x;have yp:=den_pos y;have p1:=cO x.num hy;have p2:=cO y.num hx;have s1:=Sm.gcd_r x.num hy sy.2;have s2:=Sm.gcd_r y.num hx sx.2;have t1:Sm (x.num.fdiv (gcd x.num y.den)):=sx.1.le (fdiv_le' _ p1 (gcd_dvd_l _ _));have t2:Sm (y.num.fdiv (gcd y.num x.den)):=sy.1.le (fdiv_le' _ p2 (gcd_dvd_l _ _));have t3:Sm ((x.den:Int).fdiv (gcd y.num x.den)):=sx.2.le (fQ _ p2 (by lia));have t4:Sm ((y.den:Int).fdiv (gcd x.num y.den)):=sy.2.le (fQ _ p1 (by lia));refine⟨_,rfl,p,x,rfl,hp,_,rfl,q,y,rfl,hq,_,_,rfl,?_⟩;refine⟨_,rfl,q,y,rfl,hq,_,rfl,p,x,rfl,hp,_,_,rfl,?_⟩;refine⟨_,rfl,p,x,rfl,hp,_,rfl,_,_,rfl,rfl,⟨by lia,s1⟩,_,rfl,q,y,rfl,hq,_,rfl,_,_,rfl,rfl,⟨by lia,s2⟩,_,_,rfl,rfl,⟨t1,t2⟩,?_⟩;refine⟨_,rfl,_,rfl,p,x,rfl,hp,_,rfl,_,_,rfl,rfl,⟨by lia,s2⟩,_,rfl,q,y,rfl,hq,_,rfl,_,_,rfl,rfl,⟨by lia,s1⟩,_,_,rfl,rfl,⟨t3,t4⟩,_,_,rfl,?_⟩;intro r dx H' nr s1 h1;obtain⟨e1,e2⟩:=mul_spec x y;refine k r H' nr s1 ⟨dx,?_⟩;show H' r=some (.ins a.Fraction dx (ff (x*y).num (x*y).den));rw[h1,<-e1,<-e2]
end
end G
namespace G
open PySem L2
section
noncomputable def spB2(C:Addr)(f:Rat->Rat->Bool):Sp:=λvs H Q _=>∃(p q:Addr)(x y:Rat),vs=[.ref p,.ref q]/\FrAt C H p x/\FrAt C H q y/\SmR x/\SmR y/\Q (.bl (f x y)) H
theorem ok_under(T:TX K mg a):MtB P w K mg base CX0 a.Fraction "under" 1 ["self","other"] (spB2 a.Fraction λx y=>decide (x<y)):=by
 refine T.m_Fraction_under.okA jf (λf cdv A outer s H vs Q E hr h=>?_) (λvs H Q E h=>?_)
 rotate_left
 ·obtain⟨p,q,x,y,rfl,_⟩:=h;rfl
 ·obtain⟨p,q,x,y,rfl,hp,hq,sx,sy,k⟩:=h;refine⟨_,(ah (ax (eQ gQ (ao bE (ck T.fr (pv 0)) (cm T.fr (pv 1))) (ao bE (ck T.fr (pv 1)) (cm T.fr (pv 0)))))),?_⟩;walk_at"q"
  walk_at"rd"
  show Q (.bl (decide (x.num*↑y.den<y.num*↑x.den))) H;rw[decide_eq_decide.mpr (Rat.lt_iff x y).symm];exact k
noncomputable def sgn(x:Rat):Int:=if 0<x.num then 1 else if x.num<0 then-1 else 0
theorem dj(T:TX K mg a):MtB P w K mg base CX0 a.Fraction "sign" 1 ["self"] (λvs H Q _=>∃(p:Addr)(x:Rat),vs=[.ref p]/\FrAt a.Fraction H p x/\Q (.int (sgn x)) H):=by
 refine T.m_Fraction_sign.okA sc_Fraction_sign (λf cdv A outer s H vs Q E hr h=>?_) (λvs H Q E h=>?_)
 rotate_left
 ·obtain⟨p,x,rfl,_⟩:=h;rfl
 ·obtain⟨p,x,rfl,hp,k⟩:=h
  refine⟨_,(af (aN (au iO (ck T.fr (pv 0)) ab) (ah (ax ab)) aA)
   (af (aN (au gQ (ck T.fr (pv 0)) ab) (ah (ax (iN fR ab))) aA)
   (ah (ax ab)))),?_⟩
  walk_at"q"
  walk_at"rd"
  refine ifB (λh1=>?_) (λh1=>?_)
  ·rw[show sgn x=1 from if_pos h1]at k;exact k
  ·walk_at"rd"
   refine ifB (λh2=>?_) (λh2=>?_)
   ·rw[show sgn x=-1 from(if_neg h1).trans (if_pos h2)]at k;walk_at"rd"
    exact k
   ·rw[show sgn x=0 from(if_neg h1).trans (if_neg h2)]at k;exact k
end
end G
namespace G
open PySem L2
section
structure WayC(K:W.Frag)(C:Addr):Prop where
 cl:Cls K C
 n1:NoAttr K C "name"
 n2:NoAttr K C "start"
 n3:NoAttr K C "goal"
 n4:NoAttr K C "high"
 n5:NoAttr K C "cost"
theorem TX.wW(T:TX K mg a):WayC K a.Way:=⟨T.cl_Way,T.na_Way_name,T.na_Way_start,T.na_Way_goal,T.na_Way_high,T.na_Way_cost⟩
theorem TX.wG(T:TX K mg a):WayC K a.Growing:=⟨T.cl_Growing,T.na_Growing_name,T.na_Growing_start,T.na_Growing_goal,T.na_Growing_high,T.na_Growing_cost⟩
theorem TX.wL(T:TX K mg a):WayC K a.Leaking:=⟨T.cl_Leaking,T.na_Leaking_name,T.na_Leaking_start,T.na_Leaking_goal,T.na_Leaking_high,T.na_Leaking_cost⟩
theorem TX.wS(T:TX K mg a):WayC K a.Store:=⟨T.cl_Store,T.na_Store_name,T.na_Store_start,T.na_Store_goal,T.na_Store_high,T.na_Store_cost⟩
structure W5(fs:List (Str×V))(n s g:Str)(vh vc:V):Prop where
 nm:fs.lookup ("name":Str)=some (.str n)
 st:fs.lookup ("start":Str)=some (.str s)
 go:fs.lookup ("goal":Str)=some (.str g)
 hi:fs.lookup ("high":Str)=some vh
 co:fs.lookup ("cost":Str)=some vc
 ga:fs.lookup ("gain":Str)=none
 ou:fs.lookup ("out":Str)=none
 len:fs.length<=10
theorem W5.new:W5 (bh "cost" vc (bh "high" vh (bh "goal" (.str g) (bh "start" (.str s) (bh "name" (.str n) []))))) n s g vh vc:=by
 refine⟨?_,?_,?_,?_,?_,?_,?_,?_⟩
 iterate 7
  simp only[cM]
  (repeat rw[if_neg (by decide+kernel)])
  try rw[if_pos rfl]
  try rfl
 ·have h1:=bR "cost" vc (bh "high" vh (bh "goal" (.str g) (bh "start" (.str s) (bh "name" (.str n) []))));have h2:=bR "high" vh (bh "goal" (.str g) (bh "start" (.str s) (bh "name" (.str n) [])));have h3:=bR "goal" (.str g) (bh "start" (.str s) (bh "name" (.str n) []));have h4:=bR "start" (.str s) (bh "name" (.str n) []);have h5:=bR "name" (.str n) [];simp only[List.length_nil]at h5
  lia
theorem W5.put(h:W5 fs n s g vh vc)(hf:f∈(["rate","loss"]:List Str))(hl:fs.length<=5):W5 (bh f v fs) n s g vh vc:=by
 have e:∀x∈(["name","start","goal","high","cost","gain","out"]:List Str),x≠f:=by
  intro x hx z;subst z
  revert hx hf
  simp only[j3,j9,or_false];rintro(rfl|rfl|rfl|rfl|rfl|rfl|rfl)(h|h)<;>exact absurd h (by decide+kernel)
 have l:=bR f v fs;refine⟨?_,?_,?_,?_,?_,?_,?_,by lia⟩<;>rw[cM,if_neg (e _ (by simp))]
 ·exact h.nm
 ·exact h.st
 ·exact h.go
 ·exact h.hi
 ·exact h.co
 ·exact h.ga
 ·exact h.ou
theorem bp(h:fs.length<=m):(bh f v fs).length<=m+1:=jV (bR f v fs) (Nat.succ_le_succ h)
theorem sgn_nn(h:0<=x.num):¬sgn x<0:=by
 unfold sgn
 repeat' split
 all_goals lia
theorem sgn_p(h:0<x.num):¬sgn x<=0:=by
 unfold sgn;rw[if_pos h];decide
noncomputable def HiOk(C:Addr)(H:Hp)(v:V):Prop:=v=.non∨∃(q:Addr)(x:Rat),v=.ref q/\FrAt C H q x/\0<=x.num
theorem HiOk.mono(h:HiOk C H v)(s:Same H H'):HiOk C H' v:=h.imp id (by rintro⟨q,x,e,f,z⟩;exact⟨q,x,e,f.mono s,z⟩)
noncomputable def CoIs(C:Addr)(H:Hp)(p:Addr)(vc vc':V):Prop:=(vc≠.non/\vc'=vc)∨(vc=.non/\∃q,vc'=.ref q/\q≠p/\FrAt C H q (Rat.divInt 0 1))
theorem CoIs.upd{C p:Addr}{H:Hp}{vc vc':V}{o:HO}(h:CoIs C H p vc vc'):CoIs C (upd H p o) p vc vc':=h.imp id λ⟨e,q,e2,ne,dq,f⟩=>⟨e,q,e2,ne,dq,by rw[ai ne];exact f⟩
inductive IspWayN(K:W.Frag)(a:Ad)(vs:List V)(H:Hp)(Q:VK):Prop
 |mk(p C dx:Addr)(n s g:Str)(vh vc:V)(h1:vs=[.ref p,.str n,.str s,.str g,vh,vc])(h2:H p=some (.ins C dx []))(h3:WayC K C)(h4:s≠g)(h5:HiOk a.Fraction H vh)(h6:∀H' fs vc',W5 fs n s g vh vc'->fs.length<=5->CoIs a.Fraction H' p vc vc'->(∀b o,H b=some o->b≠p->H' b=some o)->H' p=some (.ins C dx fs)->Q .non H'):IspWayN K a vs H Q
noncomputable def spWayN(K:W.Frag)(a:Ad):Sp:=λvs H Q _=>IspWayN K a vs H Q
theorem b_Way(T:TX K mg a):BodyOk P w K mg base "Way.__init__" gA ["self","name","start","goal","high","cost"] 3 (spWayN K a):=by
 intro f cdv A outer s₀ H vs Q E hr h;obtain⟨p,C,dx,n,s,g,vh,vc,rfl,hp,c,sg,hh,k⟩:=h
 refine⟨_,(aE (aN (PW.pt (c8 (au cT (pv 2) (pv 3)) (cH (dJ (cI (pe_mtD0 (CX:=CX0) (pv 0) hr aq)))))) (ah bP) aA)
   (aE (aN (PW.pt (c8 (au op_notN (pv 4) pe_non) (cH (au gQ (di T.fr (pv 4) (dj T) hr aq) ab)))) (ah bP) aA)
   (af (bG (pv 0) (pv 1) rfl)
   (af (bG (pv 0) (pv 2) rfl)
   (af (bG (pv 0) (pv 3) rfl)
   (af (bG (pv 0) (pv 4) rfl)
   (ah (bG (pv 0) (pe_ifExp (au op_isN (pv 5) pe_non) (bD (mk1 T) hr T.mg_Fraction aq (aa ab ae)) (pv 5)) rfl)))))))),?_⟩
 walk_at"q"
 refine bM (λσ' H'=>σ'=[some (.ref p),some (.str n),some (.str s),some (.str g),some vh,some vc]/\H'=H) ?_ ?_
 ·walk_at"rd"
  refine cL (jY λz=>sg (V.str.inj z)) ?_;walk_at"rd"
  first|exact⟨rfl,rfl⟩|exact rfl
 rintro zU hzU σ' H'⟨rfl,rfl⟩;subst hzU;refine⟨λσ' H''=>σ'=[some (.ref p),some (.str n),some (.str s),some (.str g),some vh,some vc]/\H''=H',?_,?_⟩
 ·rcases hh with rfl|⟨q,x,rfl,fq,hx⟩
  ·walk_at"rd"
   first|exact⟨rfl,rfl⟩|exact rfl
  ·walk_at"rd"
   refine cL (jY (sgn_nn hx)) ?_;first|exact⟨rfl,rfl⟩|exact rfl
 rintro σ' H''⟨rfl,rfl⟩;refine⟨_,rfl,_,rfl,p,C,dx,[],rfl,hp,c.cl,c.n1,by decide,?_⟩;refine⟨_,rfl,_,rfl,p,C,dx,_,rfl,ag,c.cl,c.n2,kj (bp (jJ 0)) (by decide),?_⟩;refine⟨_,rfl,_,rfl,p,C,dx,_,rfl,ag,c.cl,c.n3,kj (bp (bp (jJ 0))) (by decide),?_⟩;refine⟨_,rfl,_,rfl,p,C,dx,_,rfl,ag,c.cl,c.n4,kj (bp (bp (bp (jJ 0)))) (by decide),?_⟩;simp only[ie];walk_at"rd"
 by_cases hc:vc=.non
 ·refine iteC (j6 hc) ?_;walk_at"rd"
  refine⟨by decide,sm1,λq H1 nq s1 f1=>?_⟩;refine⟨_,rfl,p,C,dx,_,rfl,s1 _ _ ag,c.cl,c.n5,kj (bp (bp (bp (bp (jJ 0))))) (by decide),?_⟩;have nqp:q≠p:=λz=>by rw[z,ag]at nq;cases nq
  obtain⟨dq,f1⟩:=f1;refine k _ _ (.ref q) W5.new (bp (bp (bp (bp (bp (jJ 0)))))) (.inr ⟨hc,q,rfl,nqp,dq,by rw[ai nqp];exact f1⟩) (λb o e nb=>?_) ag;rw[ai nb];refine s1 _ _ ?_;rw[ai nb];exact e
 ·refine cL (jY hc) ?_;refine⟨_,rfl,_,rfl,p,C,dx,_,rfl,ag,c.cl,c.n5,kj (bp (bp (bp (bp (jJ 0))))) (by decide),?_⟩;rw[ie];refine k _ _ vc W5.new (bp (bp (bp (bp (bp (jJ 0)))))) (.inl ⟨hc,rfl⟩) (λb o e nb=>?_) ag;rw[ai nb];exact e
theorem len_WayN:∀vs H Q E,spWayN K a vs H Q E->vs.length=(["self","name","start","goal","high","cost"]:List Str).length:=λvs H Q E h=>by
 obtain⟨_,_,_,_,_,_,_,_,rfl,_⟩:=h;rfl
theorem mk_WayN(T:TX K mg a):∀dvs∈[[],[V.non,V.non]],MkB P w K mg base CX0 a.Way 4 ["self","name","start","goal","high","cost"] dvs (spWayN K a):=T.i_Way.okA sc_Way_init (b_Way T) len_WayN
theorem mk_Way(T:TX K mg a):MkB P w K mg base CX0 a.Way 4 ["self","name","start","goal","high","cost"] [] (spWayN K a):=mk_WayN T _ (by simp)
theorem cf_Way(T:TX K mg a):CfB P w K mg base CX0 a.Way "__init__" 4 ["self","name","start","goal","high","cost"] (spWayN K a):=T.c_Way.okA sc_Way_init (b_Way T) len_WayN
inductive IspPartN(K:W.Frag)(a:Ad)(f:Str)(ok:Rat->Prop)(vs:List V)(H:Hp)(Q:VK):Prop
 |mk(p C dx:Addr)(n s g:Str)(vh vc:V)(q:Addr)(x:Rat)(h1:vs=[.ref p,.str n,.str s,.str g,.ref q,vh,vc])(h2:H p=some (.ins C dx []))(h3:WayC K C)(h4:NoAttr K C f)(h5:s≠g)(h6:FrAt a.Fraction H q x)(h7:ok x)(h8:HiOk a.Fraction H vh)(h9:∀H' fs vc',W5 fs n s g vh vc'->fs.lookup f=some (.ref q)->CoIs a.Fraction H' p vc vc'->(∀b o,H b=some o->b≠p->H' b=some o)->H' p=some (.ins C dx fs)->Q .non H'):IspPartN K a f ok vs H Q
noncomputable def dN(K:W.Frag)(a:Ad)(f:Str)(ok:Rat->Prop):Sp:=λvs H Q _=>IspPartN K a f ok vs H Q
theorem len_PartN:∀vs H Q E,dN K a f ok vs H Q E->vs.length=(["self","name","start","goal",z,"high","cost"]:List Str).length:=λvs H Q E h=>by
 obtain⟨_,_,_,_,_,_,_,_,_,_,rfl,_⟩:=h;rfl
noncomputable abbrev growOk:Rat->Prop:=λx=>0<x.num
noncomputable abbrev leakOk:Rat->Prop:=λx=>0<=x.num/\x<1/\SmR x
theorem b_Growing(T:TX K mg a):BodyOk P w K mg base "Growing.__init__" eJ ["self","name","start","goal","rate","high","cost"] 4 (dN K a "rate" growOk):=by
 intro f cdv A outer s₀ H vs Q E hr h;obtain⟨p,C,dx,n,s,g,vh,vc,q,x,rfl,hp,c,nf,sg,fq,hx,hh,k⟩:=h
 refine⟨_,(af (aN (au op_le (di T.fr (pv 4) (dj T) hr aq) ab) (ah bP) aA)
   (af (aT (pe_cf (cf_Way T) hr T.mg_Way aq (aa (pv 0) (aa (pv 1) (aa (pv 2) (aa (pv 3) (aa (pv 5) (aa (pv 6) ae))))))))
   (ah (bG (pv 0) (pv 4) rfl)))),?_⟩
 walk_at"q"
 walk_at"rd"
 refine cL (jY (sgn_p hx)) ?_;refine⟨_,rfl,_,rfl,_,rfl,_,rfl,_,rfl,_,rfl,p,C,dx,n,s,g,vh,vc,rfl,hp,c,sg,hh,λH2 fs vc' h5 hl co hs ho=>?_⟩;refine⟨_,rfl,_,rfl,p,C,dx,fs,rfl,ho,c.cl,nf,kj hl (by decide),?_⟩;refine k _ _ vc' (h5.put (by simp) hl) ?_ co.upd (λb o e ne=>?_) ag
 ·rw[cM,if_pos rfl]
 ·rw[ai ne];exact hs b o e ne
theorem mk_GrowingN(T:TX K mg a):∀dvs∈[[],[V.non,V.non]],MkB P w K mg base CX0 a.Growing 5 ["self","name","start","goal","rate","high","cost"] dvs (dN K a "rate" growOk):=T.i_Growing.okA sc_Growing_init (b_Growing T) len_PartN
theorem mk_Growing(T:TX K mg a):MkB P w K mg base CX0 a.Growing 5 ["self","name","start","goal","rate","high","cost"] [] (dN K a "rate" growOk):=mk_GrowingN T _ (by simp)
theorem b_Leaking(T:TX K mg a):BodyOk P w K mg base "Leaking.__init__" eI ["self","name","start","goal","loss","high","cost"] 4 (dN K a "loss" leakOk):=by
 intro f cdv A outer s₀ H vs Q E hr h;obtain⟨p,C,dx,n,s,g,vh,vc,q,x,rfl,hp,c,nf,sg,fq,⟨hx,hx1,sx⟩,hh,k⟩:=h
 refine⟨_,(aE (aN (PW.pt (fE (au gQ (di T.fr (pv 4) (dj T) hr aq) ab) (dI (dJ (cI (b7 T.fr (pv 4) (ok_under T) hr aq (aa (bD (mk1 T) hr T.mg_Fraction aq (aa ab ae)) ae))))))) (ah bP) aA)
   (af (aT (pe_cf (cf_Way T) hr T.mg_Way aq (aa (pv 0) (aa (pv 1) (aa (pv 2) (aa (pv 3) (aa (pv 5) (aa (pv 6) ae))))))))
   (ah (bG (pv 0) (pv 4) rfl)))),?_⟩
 walk_at"q"
 refine bM (λσ' H'=>σ'=[some (.ref p),some (.str n),some (.str s),some (.str g),some (.ref q),some vh,some vc]/\Same H H') ?_ ?_
 ·walk_at"rd"
  refine cL (jY (sgn_nn hx)) ?_;walk_at"rd"
  refine⟨by decide,sm1,λr H1 nr s1 f1=>?_⟩;have e1:Rat.divInt 1 1=1:=rfl;rw[e1]at f1;have s2:SmR (1:Rat):=⟨sm1,sm1⟩;walk_at"rd"
  refine cL (by dsimp only;rw[j6 hx1];rfl) ?_;exact⟨rfl,s1⟩
 rintro zU hzU σ' H'⟨rfl,ss⟩;subst hzU;refine⟨_,rfl,_,rfl,_,rfl,_,rfl,_,rfl,_,rfl,p,C,dx,n,s,g,vh,vc,rfl,ss _ _ hp,c,sg,hh.mono ss,λH2 fs vc' h5 hl co hs ho=>?_⟩;refine⟨_,rfl,_,rfl,p,C,dx,fs,rfl,ho,c.cl,nf,kj hl (by decide),?_⟩;refine k _ _ vc' (h5.put (by simp) hl) ?_ co.upd (λb o e ne=>?_) ag
 ·rw[cM,if_pos rfl]
 ·rw[ai ne];exact hs b o (ss _ _ e) ne
theorem mk_LeakingN(T:TX K mg a):∀dvs∈[[],[V.non,V.non]],MkB P w K mg base CX0 a.Leaking 5 ["self","name","start","goal","loss","high","cost"] dvs (dN K a "loss" leakOk):=T.i_Leaking.okA sc_Leaking_init (b_Leaking T) len_PartN
theorem mk_Leaking(T:TX K mg a):MkB P w K mg base CX0 a.Leaking 5 ["self","name","start","goal","loss","high","cost"] [] (dN K a "loss" leakOk):=mk_LeakingN T _ (by simp)
inductive Kd where
 |way
 |gro
 |lea
 |sto
noncomputable def Kd.n:Kd->Int
 |.way=>0
 |.gro=>1
 |.lea=>2
 |.sto=>3
noncomputable def Kd.C(a:Ad):Kd->Addr
 |.way=>a.Way
 |.gro=>a.Growing
 |.lea=>a.Leaking
 |.sto=>a.Store
noncomputable def Kd.f:Kd->Str
 |.gro=>"rate"
 |_=>"loss"
noncomputable def Kd.ok:Kd->Rat->Prop
 |.way=>λ_=>True
 |.gro=>growOk
 |_=>leakOk
noncomputable def aD:Kd->Rat->Rat
 |.way=>λ_=>1
 |.gro=>λx=>x
 |_=>λx=>1-x
structure WayAt(a:Ad)(H:Hp)(p:Addr)(kd:Kd)(n s g:Str)(vh vc:V)(q:Addr)(x:Rat):Prop where
 ob:∃dx fs,H p=some (.ins (kd.C a) dx fs)/\W5 fs n s g vh vc/\(kd≠.way->fs.lookup kd.f=some (.ref q))
 fq:kd≠.way->FrAt a.Fraction H q x
noncomputable def Stays(a:Ad)(H H':Hp):Prop:=∀b C dx fs,(C=a.Fraction∨∃kd:Kd,C=kd.C a)->H b=some (.ins C dx fs)->H' b=some (.ins C dx fs)
theorem Stays.of{a:Ad}(s:Same H H'):Stays a H H':=λb C dx fs _ e=>s _ _ e
theorem Stays.fr{a:Ad}(k:Stays a H H')(h:FrAt a.Fraction H q x):FrAt a.Fraction H' q x:=by
 obtain⟨dq,f⟩:=h;exact⟨dq,k _ _ _ _ (.inl rfl) f⟩
theorem WayAt.keep{a:Ad}(h:WayAt a H p kd n s g vh vc q x)(k:Stays a H H'):WayAt a H' p kd n s g vh vc q x:=
 ⟨let⟨dx,fs,e,r⟩:=h.ob;⟨dx,fs,k _ _ _ _ (.inr ⟨kd,rfl⟩) e,r⟩,λz=>k.fr (h.fq z)⟩
theorem WayAt.mono{a:Ad}(h:WayAt a H p kd n s g vh vc q x)(ss:Same H H'):WayAt a H' p kd n s g vh vc q x:=h.keep (.of ss)
theorem Stays.put{a:Ad}(hd:H d=some o)(ho:∀C dx fs,o≠.ins C dx fs):Stays a H (upd H d o'):=λb C dx fs _ e=>by rw[ai (aG e hd (ho C dx fs).symm)];exact e
theorem bV(T:TX K mg a)(kd:Kd):WayC K (kd.C a):=by
 cases kd
 ·exact T.wW
 ·exact T.wG
 ·exact T.wL
 ·exact T.wS
noncomputable def NewWay(a:Ad)(H:Hp)(Q:VK)(kd:Kd)(n s g:Str)(vh vc:V)(x:Rat):Prop:=∀p H' vc' q,H p=none->Same H H'->WayAt a H' p kd n s g vh vc' q x->CoIs a.Fraction H' p vc vc'->Q (.ref p) H'
theorem fU(h1:H x=none)(h2:H dx=none)(h:∀b o,(upd (upd H dx (.own x)) x (.ins C dx [])) b=some o->b≠x->H' b=some o):Same H H':=by
 intro b o e;have n1:=ar e h1;refine h b o ?_ n1;rw[ai n1,ai (ar e h2)];exact e
theorem jh(h1:H x=none)(h2:H dx=none):Same H (upd (upd H dx (.own x)) x (.ins C dx [])):=by
 intro b o e;rw[ai (ar e h1),ai (ar e h2)];exact e
theorem mkW(T:TX K mg a)(sg:s≠g)(hh:HiOk a.Fraction H vh)(k:NewWay a H Q .way n s g vh vc x)(p dx:Addr)(h1:H p=none)(h2:H dx=none)(_:dx≠p):
  spWayN K a [.ref p,.str n,.str s,.str g,vh,vc] (upd (upd H dx (.own p)) p (.ins a.Way dx [])) (λv H2=>v=.non/\Q (.ref p) H2) E0:=by
 have ss:=jh (C:=a.Way) h1 h2;refine⟨p,_,dx,n,s,g,vh,vc,rfl,ag,T.wW,sg,hh.mono ss,λH' fs vc' h5 hl co hs ho=>⟨rfl,?_⟩⟩;have s2:=fU h1 h2 hs;exact k p _ vc' p h1 s2 ⟨⟨dx,fs,ho,h5,λz=>absurd rfl z⟩,λz=>absurd rfl z⟩ co
theorem mkG(T:TX K mg a)(sg:s≠g)(fq:FrAt a.Fraction H q x)(hx:growOk x)(hh:HiOk a.Fraction H vh)(k:NewWay a H Q .gro n s g vh vc x)(p dx:Addr)(h1:H p=none)(h2:H dx=none)(_:dx≠p):
  dN K a "rate" growOk [.ref p,.str n,.str s,.str g,.ref q,vh,vc] (upd (upd H dx (.own p)) p (.ins a.Growing dx [])) (λv H2=>v=.non/\Q (.ref p) H2) E0:=by
 have ss:=jh (C:=a.Growing) h1 h2;refine⟨p,_,dx,n,s,g,vh,vc,q,x,rfl,ag,T.wG,T.na_Growing_rate,sg,fq.mono ss,hx,hh.mono ss,λH' fs vc' h5 hl co hs ho=>⟨rfl,?_⟩⟩;have s2:=fU h1 h2 hs;exact k p _ vc' q h1 s2 ⟨⟨dx,fs,ho,h5,λ_=>hl⟩,λ_=>fq.mono s2⟩ co
theorem mkL(T:TX K mg a)(sg:s≠g)(fq:FrAt a.Fraction H q x)(hx:leakOk x)(hh:HiOk a.Fraction H vh)(k:NewWay a H Q .lea n s g vh vc x)(p dx:Addr)(h1:H p=none)(h2:H dx=none)(_:dx≠p):
  dN K a "loss" leakOk [.ref p,.str n,.str s,.str g,.ref q,vh,vc] (upd (upd H dx (.own p)) p (.ins a.Leaking dx [])) (λv H2=>v=.non/\Q (.ref p) H2) E0:=by
 have ss:=jh (C:=a.Leaking) h1 h2;refine⟨p,_,dx,n,s,g,vh,vc,q,x,rfl,ag,T.wL,T.na_Leaking_loss,sg,fq.mono ss,hx,hh.mono ss,λH' fs vc' h5 hl co hs ho=>⟨rfl,?_⟩⟩;have s2:=fU h1 h2 hs;exact k p _ vc' q h1 s2 ⟨⟨dx,fs,ho,h5,λ_=>hl⟩,λ_=>fq.mono s2⟩ co
inductive IspGain(a:Ad)(kd:Kd)(vs:List V)(H:Hp)(Q:VK):Prop
 |mk(p:Addr)(n s g:Str)(vh vc:V)(q:Addr)(x:Rat)(h1:vs=[.ref p])(h2:WayAt a H p kd n s g vh vc q x)(h3:SmR x)(h4:∀r H',Same H H'->FrAt a.Fraction H' r (aD kd x)->Q (.ref r) H'):IspGain a kd vs H Q
noncomputable def gV(a:Ad)(kd:Kd):Sp:=λvs H Q _=>IspGain a kd vs H Q
theorem jv:∀vs H Q E,gV a kd vs H Q E->vs.length=(["self"]:List Str).length:=λvs H Q E h=>by
 obtain⟨_,_,_,_,_,_,_,_,rfl,_⟩:=h;rfl
theorem gain_Way(T:TX K mg a):MtB P w K mg base CX0 a.Way "gain" 7 ["self"] (gV a .way):=by
 refine T.m_Way_gain.okA sc_Way_gain (λf cdv A outer s₀ H vs Q E hr h=>?_) jv;obtain⟨p,n,s,g,vh,vc,q,x,rfl,W,sx,k⟩:=h;refine⟨_,(ah (ax (bD (mk1 T) hr T.mg_Fraction aq (aa ab ae)))),?_⟩;walk_at"q"
 walk_at"rd"
 exact⟨by decide,sm1,λr H1 _ s1 f1=>k r H1 s1 f1⟩
theorem gain_Growing(T:TX K mg a):MtB P w K mg base CX0 a.Growing "gain" 7 ["self"] (gV a .gro):=by
 refine T.m_Growing_gain.okA sc_Growing_gain (λf cdv A outer s₀ H vs Q E hr h=>?_) jv;obtain⟨p,n,s,g,vh,vc,q,x,rfl,W,sx,k⟩:=h;refine⟨_,(ah (ax (aH (pv 0) rfl))),?_⟩;walk_at"q"
 obtain⟨dx,fs,ho,h5,hl⟩:=W.ob;exact⟨_,rfl,p,_,dx,fs,_,rfl,ho,T.wG.cl,T.na_Growing_rate,hl (by nofun),k q H (Same.refl _) (W.fq (by nofun))⟩
theorem b_gainL(T:TX K mg a)(kd:Kd)(C:Addr)(hC:kd.C a=C)(hk:kd≠.way)(hf:kd.f="loss")(hg:∀x,aD kd x=1-x)(cl:Cls K C)(nl:NoAttr K C "loss"):BodyOk P w K mg base "Leaking.gain" cR ["self"] 6 (gV a kd):=by
 intro f cdv A outer s₀ H vs Q E hr h;obtain⟨p,n,s,g,vh,vc,q,x,rfl,W,sx,k⟩:=h;refine⟨_,(ah (ax (b7 T.fr (bD (mk1 T) hr T.mg_Fraction aq (aa ab ae)) (eR T) hr aq (aa (aH (pv 0) rfl) ae)))),?_⟩;walk_at"q"
 obtain⟨dx,fs,ho,h5,hl⟩:=W.ob;have hl:=hl hk;rw[hf]at hl;rw[hC]at ho;walk_at"rd"
 refine⟨by decide,sm1,λr H1 nr s1 f1=>?_⟩;have e1:Rat.divInt 1 1=1:=rfl;rw[e1]at f1;have s2:SmR (1:Rat):=⟨sm1,sm1⟩;have ho1:=s1 _ _ ho;have fq1:=(W.fq hk).mono s1;walk_at"rd"
 intro r2 H2 nr2 s22 f2;refine k r2 H2 (s1.trans s22) ?_;rw[hg];exact f2
theorem gain_Leaking(T:TX K mg a):MtB P w K mg base CX0 a.Leaking "gain" 7 ["self"] (gV a .lea):=T.m_Leaking_gain.okA gI (b_gainL T .lea _ rfl (by nofun) rfl (λ_=>rfl) T.wL.cl T.na_Leaking_loss) jv
theorem gain_Store(T:TX K mg a):MtB P w K mg base CX0 a.Store "gain" 7 ["self"] (gV a .sto):=T.m_Store_gain.okA gI (b_gainL T .sto _ rfl (by nofun) rfl (λ_=>rfl) T.wS.cl T.na_Store_loss) jv
theorem gain_any(T:TX K mg a)(kd:Kd):MtB P w K mg base CX0 (kd.C a) "gain" 7 ["self"] (gV a kd):=by
 cases kd
 ·exact gain_Way T
 ·exact gain_Growing T
 ·exact gain_Leaking T
 ·exact gain_Store T
inductive IspOut(a:Ad)(kd:Kd)(vs:List V)(H:Hp)(Q:VK):Prop
 |mk(p r:Addr)(n s g:Str)(vh vc:V)(q:Addr)(x y:Rat)(h1:vs=[.ref p,.ref r])(h2:WayAt a H p kd n s g vh vc q x)(h3:FrAt a.Fraction H r y)(h4:SmR x)(h5:SmR y)(h6:SmR (aD kd x))(h7:∀r' H',Same H H'->FrAt a.Fraction H' r' (y*aD kd x)->Q (.ref r') H'):IspOut a kd vs H Q
noncomputable def spOut(a:Ad)(kd:Kd):Sp:=λvs H Q _=>IspOut a kd vs H Q
theorem len_Out:∀vs H Q E,spOut a kd vs H Q E->vs.length=(["self","amount"]:List Str).length:=λvs H Q E h=>by
 obtain⟨_,_,_,_,_,_,_,_,_,_,rfl,_⟩:=h;rfl
theorem b_out(T:TX K mg a)(kd:Kd):BodyOk P w K mg base "Way.out" dU ["self","amount"] 7 (spOut a kd):=by
 intro f cdv A outer s₀ H vs Q E hr h;obtain⟨p,r,n,s,g,vh,vc,q,x,y,rfl,W,fr,sx,sy,sg,k⟩:=h;refine⟨_,(ah (ax (b7 T.fr (pv 1) (gm T) hr aq (aa (pe_mtD0 (CX:=CX0) (pv 0) hr aq) ae)))),?_⟩;walk_at"q"
 obtain⟨dx,fs,ho,h5,hl⟩:=W.ob;refine⟨_,rfl,r,y,rfl,fr,_,rfl,p,kd.C a,dx,fs,7,["self"],gV a kd,rfl,ho,h5.ga,(bV T kd).cl,by decide,gain_any T kd,p,n,s,g,vh,vc,q,x,rfl,W,sx,λr1 H1 s1 f1=>?_⟩;exact⟨r,r1,y,_,rfl,fr.mono s1,f1,sy,sg,trivial,λr2 H2 _ s2 f2=>k r2 H2 (s1.trans s2) f2⟩
theorem out_any(T:TX K mg a)(kd:Kd):MtB P w K mg base CX0 (kd.C a) "out" 8 ["self","amount"] (spOut a kd):=by
 cases kd
 ·exact T.m_Way_out.okA gw (b_out T _) len_Out
 ·exact T.m_Growing_out.okA gw (b_out T _) len_Out
 ·exact T.m_Leaking_out.okA gw (b_out T _) len_Out
 ·exact T.m_Store_out.okA gw (b_out T _) len_Out
end
end G
namespace G
open PySem L2
section
structure WD where
 nm:Str
 st:Str
 go:Str
 kd:Kd
 x:Rat
noncomputable def WayIs(a:Ad)(H:Hp)(v:V)(d:WD):Prop:=∃p vh vc q,v=.ref p/\WayAt a H p d.kd d.nm d.st d.go vh vc q d.x/\d.kd≠.sto
theorem WayIs.mono(h:WayIs a H v d)(s:Same H H'):WayIs a H' v d:=by
 obtain⟨p,vh,vc,q,e,W,k⟩:=h;exact⟨p,vh,vc,q,e,W.mono s,k⟩
noncomputable def RowAt{α:Type}(R:Hp->V->α->Prop)(H:Hp)(ts:List V)(xs:List α):Prop:=ts.length=xs.length/\∀(i:Nat)(t:V)(x:α),ts[i]?=some t->xs[i]?=some x->R H t x
theorem RowAt.mono(hR:∀v x,R H v x->R H' v x)(h:RowAt R H ts xs):RowAt R H' ts xs:=⟨h.1,λi t x h1 h2=>hR t x (h.2 i t x h1 h2)⟩
theorem RowAt.nil:RowAt R H [] []:=⟨rfl,λi t x h=>by simp at h⟩
theorem RowAt.snoc(d:RowAt R H ts xs)(hf:R H t x):RowAt R H (ts++[t]) (xs++[x]):=by
 refine⟨by rw[jO,jO,d.1];rfl,λi u z h1 h2=>?_⟩;by_cases hi:i<ts.length
 ·rw[lG hi]at h1;rw[lG (by rw[<-d.1];exact hi)]at h2;exact d.2 i u z h1 h2
 ·rw[kP (by lia)]at h1;rw[kP (by rw[<-d.1];lia),<-d.1]at h2
  have hz:i-ts.length=0:=by
   have:=(jG.mp h1).1
   simp at this
   lia
  rw[hz]at h1 h2;simp at h1 h2;subst h1 h2;exact hf
theorem RowAt.get{i:Nat}(d:RowAt R H ts xs)(h:ts[i]?=some t):∃x,xs[i]?=some x/\R H t x:=by
 have hi:i<xs.length:=by rw[<-d.1];exact(jG.mp h).1
 exact⟨xs[i],jH hi,d.2 i t _ h (jH hi)⟩
theorem RowAt.get'{i:Nat}(d:RowAt R H ts xs)(h:xs[i]?=some x):∃t,ts[i]?=some t/\R H t x:=by
 have hi:i<ts.length:=by rw[d.1];exact(jG.mp h).1
 exact⟨ts[i],jH hi,d.2 i _ x (jH hi) h⟩
noncomputable def PlIs(a:Ad)(H:Hp)(v:V)(p:Str×Rat):Prop:=∃t q,v=.ref t/\H t=some (.tup [.str p.1,.ref q])/\FrAt a.Fraction H q p.2
theorem PlIs.mono(h:PlIs a H v p)(s:Same H H'):PlIs a H' v p:=by
 obtain⟨t,q,e,h1,h2⟩:=h;exact⟨t,q,e,s _ _ h1,h2.mono s⟩
theorem aC(h:H d=none):Same H (upd H d o):=λb u e=>by rw[ai (ar e h)];exact e
theorem uG{H:Hp}{e:Addr}{o:HO}(n:H e=none):∃H',upd H e o=H'/\Same H H'/\H' e=some o:=⟨_,rfl,aC n,ag⟩
theorem aF(h:H d=none)(s:Same H H'):Same H (upd H' d o):=λb u e=>by rw[ai (ar e h)];exact s _ _ e
theorem dZ[DecidableEq κ]{k:κ}(h:¬k∈kvs.map (·.1)):bI kvs k=none:=by
 cases e:bI kvs k with
 |none=>rfl
 |some v=>exact absurd (valV_in e) h
theorem val_some[DecidableEq κ]{k:κ}(h:k∈kvs.map (·.1)):∃v,bI kvs k=some v:=by
 cases e:bI kvs k with
 |none=>exact absurd h (valV_not e)
 |some v=>exact⟨v,rfl⟩
noncomputable def WantsAt(a:Ad)(H:Hp)(d:Addr)(ps:List (Str×Rat)):Prop:=∃kvs,H d=some (.dK kvs)/\kvs.map (·.1)=ps.map (λp=>Sum.inr p.1)/\RowAt (λH v x=>∃q,v=.ref q/\FrAt a.Fraction H q x) H (kvs.map (·.2)) (ps.map (·.2))
theorem WantsAt.mono(h:WantsAt a H d ps)(s:Same H H'):WantsAt a H' d ps:=
 let⟨kvs,h1,h2,h3⟩:=h;⟨kvs,s _ _ h1,h2,h3.mono (by rintro v x⟨q,e,f⟩;exact⟨q,e,f.mono s⟩)⟩
inductive IspWants(K:W.Frag)(a:Ad)(vs:List V)(H:Hp)(Q:VK):Prop
 |mk(l:Addr)(ts:List V)(ps:List (Str×Rat))(h1:vs=[.ref l])(h2:SqL K H l ts)(h3:RowAt (PlIs a) H ts ps)(h4:(ps.map (·.1)).Nodup)(h5:ps.length<=1000)(h6:∀d H',H d=none->Same H H'->WantsAt a H' d ps->Q (.ref d) H'):IspWants K a vs H Q
noncomputable def spWants(K:W.Frag)(a:Ad):Sp:=λvs H Q _=>IspWants K a vs H Q
theorem ok_wants_by_name(T:TX K mg a):FnB P w K mg base CX0 "wants_by_name" 1 ["places"] (spWants K a):=by
 refine T.d_wants_by_name.okA sc_wants_by_name λf cdv A outer s H vs Q E hr h=>?_;obtain⟨l,ts,ps,rfl,hS,hp,nd,hlen,k⟩:=h
 refine⟨_,(af (aj (i:=1) sc_wants_by_name.nd bK)
  (af (aQ jR rfl (a5 (pv 0)) (gB (n:=2) rfl (bu (aw (i:=2) sc_wants_by_name.nd) (bu (aw (i:=3) sc_wants_by_name.nd) dP))) (af (aN (eN (pc_din (aJ hr) (pv 2) (pv 1))) (ah bP) aA)
  (ah (bB (aJ hr) (pv 1) (pv 2) (pv 3) rfl))))
  (ah (ax (pv 1))))),?_⟩
 walk_at"q"
 intro d nd0;have s0:Same H (upd H d (.dK [])):=aC nd0;refine⟨_,rfl,l,rfl,⟨_,s0.seq hS⟩,ba (K:=K) (a:=l) (xs:=ts) (λi σ H2=>i<=ps.length/\∃z2 z3,σ=[some (.ref l),some (.ref d),z2,z3]/\Same H H2/\WantsAt a H2 d (ps.take i)) ⟨jU _,_,_,rfl,s0,[],ag,rfl,RowAt.nil⟩ ((by rintro i σ H2 _⟨_,_,_,_,s2,_⟩;exact s2.seq hS)) ?_ ?_⟩
 ·rintro i t σ H2 ht⟨hi,z2,z3,rfl,s2,kvs,hd,hk,hv⟩;obtain⟨p,ep,t',q,rfl,h1,h2⟩:=hp.get ht;have hi':i<ps.length:=(jG.mp ep).1
  have nk:¬(Sum.inr p.1:Key)∈kvs.map (·.1):=by
   rw[hk];intro m;obtain⟨p',hp',e⟩:=jL.mp m;have e:p'.1=p.1:=ma e;obtain⟨j,hj⟩:=kh.mp hp'
   have hj2:j<i:=by
    have:=(jG.mp hj).1
    rw[jT]at this
    lia
   rw[lI,if_pos hj2]at hj;have g1:(ps.map (·.1))[j]?=some p.1:=by rw[jK,hj,kU,e]
   have g2:(ps.map (·.1))[i]?=some p.1:=by rw[jK,ep,kU]
   have:=(kR (by rw[jF];lia) nd).mp (g1.trans g2.symm)
   lia
  refine⟨t',[.str p.1,.ref q],rfl,SqT.of (s2 _ _ h1),rfl,.str p.1,[.ref q],rfl,⟨.ref q,[],rfl,⟨rfl,?_⟩⟩⟩;refine⟨_,rfl,_,rfl,d,_,rfl,DGet.k (k:=Sum.inr p.1) hd,_,rfl,?_⟩;rw[dZ nk];refine iteF ?_
  have hl:kvs.length=i:=by
   have:=kA List.length hk
   rw[jF,jF,jT]at this
   lia
  refine⟨_,rfl,_,rfl,_,rfl,d,_,rfl,DPut.k (k:=Sum.inr p.1) hd (ay (by lia)),?_⟩;rw[f9 _ (dZ nk)];have s3:=aF (o:=.dK (kvs++[(Sum.inr p.1,.ref q)])) nd0 s2;refine⟨hi',_,_,rfl,s3,kvs++[(Sum.inr p.1,.ref q)],ag,?_,?_⟩
  ·rw[jM,hk,jS,ep,j0,jM];rfl
  ·rw[jM,jS,ep,j0,jM];refine RowAt.snoc (hv.mono λv x⟨q',e,dq,f⟩=>⟨q',e,dq,?_⟩) ⟨q,rfl,h2.mono s3⟩;rw[ai (aG f hd (by intro z;cases z))];exact f
 ·rintro σ H2⟨_,z2,z3,rfl,s2,hw⟩;rw[hp.1,jQ]at hw;exact⟨_,rfl,k d H2 nd0 s2 hw⟩
inductive IspCheck(a:Ad)(vs:List V)(H:Hp)(Q:VK):Prop
 |mk(v:V)(d:WD)(da dw:Addr)(ka kw:List (Key×V))(h1:vs=[v,.ref da,.ref dw])(h2:WayIs a H v d)(h3:H da=some (.dK ka))(h4:H dw=some (.dK kw))(h5:¬(Sum.inr d.nm:Key)∈ka.map (·.1))(h6:(Sum.inr d.st:Key)∈kw.map (·.1))(h7:(Sum.inr d.go:Key)∈kw.map (·.1))(h8:∀H',Same H H'->Q .non H'):IspCheck a vs H Q
noncomputable def spCheck(a:Ad):Sp:=λvs H Q _=>IspCheck a vs H Q
theorem noStore(T:TX K mg a){kd:Kd}(h:kd≠.sto):PySem.W.kitOne K (.ref (kd.C a)) (.ref a.Store)=some false:=by
 cases kd
 ·exact T.k_Way_Store
 ·exact T.k_Growing_Store
 ·exact T.k_Leaking_Store
 ·exact absurd rfl h
theorem tyWay(T:TX K mg a){kd:Kd}(h:H p=some (.ins (kd.C a) dx fs)):TyOf K H (.ref p) (.ref (kd.C a)):=by
 have c:=(bV T kd).cl
 cases kd
 ·exact TyOf.ins h c T.c1_Way T.c2 T.c3 T.c4_Way
 ·exact TyOf.ins h c T.c1_Growing T.c2 T.c3 T.c4_Growing
 ·exact TyOf.ins h c T.c1_Leaking T.c2 T.c3 T.c4_Leaking
 ·exact TyOf.ins h c T.c1_Store T.c2 T.c3 T.c4_Store
theorem ok_check_way(T:TX K mg a):FnB P w K mg base CX0 "check_way" 1 ["way","ahead","wants"] (spCheck a):=by
 refine T.d_check_way.okA sc_check_way λf cdv A outer s H vs Q E hr h=>?_;obtain⟨v,d,da,dw,ka,kw,rfl,⟨p,vh,vc,q,rfl,W,hk⟩,ha,hw,n1,n2,n3,k⟩:=h
 refine⟨_,(af (aN (cI (aI (dG (c:=.ref a.Store)) (by rfl) T.z_isinstance kW (aa (pv 0) (aa (pe_glob (v:=.ref a.Store) (by rfl) T.mg_Store rfl) ae)))) (ah bP) aA)
  (af (aN (eN (pc_din (aJ hr) (aH (pv 0) rfl) (pv 1))) (ah bP) aA)
  (ah (aQ jR rfl (pi_tup (aU (aa (aH (pv 0) rfl) (aa (aH (pv 0) rfl) ae)))) (aw (i:=3) sc_check_way.nd) (ah (aN (eN (gk (aJ hr) (pv 3) (pv 2))) (ah bP) aA)))))),?_⟩
 walk_at"q"
 obtain⟨dx,fs,ho,h5,_⟩:=W.ob;have c:=bV T d.kd;refine⟨_,rfl,_,_,_,_,rfl,(λu h=>h),tyWay T ho,noStore T hk,_,rfl,iteF ?_⟩;refine⟨_,rfl,p,_,dx,fs,_,rfl,ho,c.cl,c.n1,h5.nm,_,rfl,da,_,rfl,DGet.k (k:=Sum.inr d.nm) ha,_,rfl,?_⟩;rw[dZ n1];refine iteF ?_;refine⟨_,rfl,p,_,dx,fs,_,rfl,ho,c.cl,c.n2,h5.st,_,rfl,p,_,dx,fs,_,rfl,ho,c.cl,c.n3,h5.go,zL2,λt nt=>?_⟩;have s1:=aC (o:=.tup [.str d.st,.str d.go]) nt;refine⟨t,rfl,⟨_,SqT.of ag⟩,for_tup (K:=K) (a:=t) (xs:=[.str d.st,.str d.go]) (λi σ H2=>∃z,σ=[some (.ref p),some (.ref da),some (.ref dw),z]/\H2=upd H t (.tup [.str d.st,.str d.go])) ⟨_,rfl,rfl⟩ ((by rintro i σ H2 _⟨_,_,e⟩;exact by rw[e];exact SqT.of ag)) ?_ ?_⟩
 ·rintro i x σ H2 hx⟨z,rfl,rfl⟩
  have hx:∃y,x=.str y/\(Sum.inr y:Key)∈kw.map (·.1):=by
   match i,hx with
   |0,hx=>exact⟨d.st,(kg hx).symm,n2⟩
   |1,hx=>exact⟨d.go,(kg hx).symm,n3⟩
   |i+2,hx=>simp at hx
  obtain⟨y,rfl,hy⟩:=hx;obtain⟨u,hu⟩:=val_some hy;refine⟨_,rfl,_,rfl,dw,_,rfl,DGet.k (k:=Sum.inr y) (s1 _ _ hw),_,rfl,?_⟩;rw[hu];exact iteF ⟨_,rfl,rfl⟩
 ·rintro σ H2⟨z,rfl,rfl⟩;exact k _ s1
noncomputable def WaysAt(a:Ad)(H:Hp)(d:Addr)(ds:List WD):Prop:=∃kvs,H d=some (.dK kvs)/\kvs.map (·.1)=ds.map (λx=>Sum.inr x.nm)/\RowAt (WayIs a) H (kvs.map (·.2)) ds
theorem WaysAt.mono(h:WaysAt a H d ds)(s:Same H H'):WaysAt a H' d ds:=
 let⟨kvs,h1,h2,h3⟩:=h;⟨kvs,s _ _ h1,h2,h3.mono λv x z=>z.mono s⟩
inductive IspWaysBy(K:W.Frag)(a:Ad)(vs:List V)(H:Hp)(Q:VK):Prop
 |mk(l dw:Addr)(ts:List V)(ds:List WD)(ps:List (Str×Rat))(h1:vs=[.ref l,.ref dw])(h2:SqL K H l ts)(h3:RowAt (WayIs a) H ts ds)(h4:WantsAt a H dw ps)(h5:(ds.map (·.nm)).Nodup)(h6:ds.length<=1000)(h7:(∀d∈ds,d.st∈ps.map (·.1)/\d.go∈ps.map (·.1)))(h8:∀d H',H d=none->Same H H'->WaysAt a H' d ds->Q (.ref d) H'):IspWaysBy K a vs H Q
noncomputable def spWaysBy(K:W.Frag)(a:Ad):Sp:=λvs H Q _=>IspWaysBy K a vs H Q
theorem WayIs.keep(h:WayIs a H v x)(k:Stays a H H'):WayIs a H' v x:=by
 obtain⟨p,vh,vc,q,e,W,hk⟩:=h;exact⟨p,vh,vc,q,e,W.keep k,hk⟩
theorem WayIs.put(h:WayIs a H v x)(hd:H d=some (.dK kvs)):WayIs a (upd H d o) v x:=h.keep (.put hd (by intro _ _ _ z;cases z))
theorem nodup_take{α β:Type}{xs:List α}{f:α->β}{x:α}(nd:(xs.map f).Nodup)(e:xs[i]?=some x):¬f x∈(xs.take i).map f:=by
 intro m;obtain⟨y,hy,ef⟩:=jL.mp m;obtain⟨j,hj⟩:=kh.mp hy;have hi:=(jG.mp e).1
 have hj2:j<i:=by
  have:=(jG.mp hj).1
  rw[jT]at this
  lia
 rw[lI,if_pos hj2]at hj;have g1:(xs.map f)[j]?=some (f x):=by rw[jK,hj,kU,ef]
 have g2:(xs.map f)[i]?=some (f x):=by rw[jK,e,kU]
 have:=(kR (by rw[jF];lia) nd).mp (g1.trans g2.symm)
 lia
theorem inr_mem{ns:List Str}:(Sum.inr n:Key)∈ns.map (λx=>(Sum.inr x:Key))↔n∈ns:=by
 constructor
 ·intro h;obtain⟨y,hy,e⟩:=jL.mp h;rw[<-ma e];exact hy
 ·exactλh=>jL.mpr ⟨n,h,rfl⟩
theorem ok_ways_by_name(T:TX K mg a):FnB P w K mg base CX0 "ways_by_name" 2 ["ways","wants"] (spWaysBy K a):=by
 refine T.d_ways_by_name.okA sc_ways_by_name λf cdv A outer s H vs Q E hr h=>?_;obtain⟨l,dw,ts,ds,ps,rfl,hS,hp,hw,nd,hlen,hin,k⟩:=h
 refine⟨_,(af (aj (i:=2) sc_ways_by_name.nd bK)
  (af (aQ jR rfl (a5 (pv 0)) (aw (i:=3) sc_ways_by_name.nd) (af (aT (az (ok_check_way T) hr aq (aa (pv 3) (aa (pv 2) (aa (pv 1) ae)))))
  (ah (bB (aJ hr) (pv 2) (aH (pv 3) rfl) (pv 3) rfl))))
  (ah (ax (pv 2))))),?_⟩
 walk_at"q"
 intro d nd0;have s0:Same H (upd H d (.dK [])):=aC nd0;refine⟨_,rfl,l,rfl,⟨_,s0.seq hS⟩,ba (K:=K) (a:=l) (xs:=ts) (λi σ H2=>i<=ds.length/\∃z3,σ=[some (.ref l),some (.ref dw),some (.ref d),z3]/\Same H H2/\WaysAt a H2 d (ds.take i)) ⟨jU _,_,rfl,s0,[],ag,rfl,RowAt.nil⟩ ((by rintro i σ H2 _⟨_,_,_,s2,_⟩;exact s2.seq hS)) ?_ ?_⟩
 ·rintro i t σ H2 ht⟨hi,z3,rfl,s2,kvs,hd,hk,hv⟩;obtain⟨x,ex,hx⟩:=hp.get ht;have hi':i<ds.length:=(jG.mp ex).1
  have nk:¬(Sum.inr x.nm:Key)∈kvs.map (·.1):=by
   rw[hk]
   have:=nodup_take (f:=λz:WD=>(Sum.inr z.nm:Key)) (by
    rw[show(λz:WD=>(Sum.inr z.nm:Key))=(λn=>(Sum.inr n:Key))∘(λz:WD=>z.nm) from rfl,<-kO];exact nd.map _ (λu v h e=>h (ma e))) ex
   exact this
  obtain⟨kw,hkw,ekw,_⟩:=hw.mono s2;obtain⟨i1,i2⟩:=hin x (jI ex);have ekw':kw.map (·.1)=(ps.map (·.1)).map (λn=>(Sum.inr n:Key)):=by rw[ekw,kO];rfl
  refine⟨_,rfl,_,rfl,_,rfl,t,x,d,dw,kvs,kw,rfl,hx.mono s2,hd,hkw,nk,by rw[ekw'];exact inr_mem.mpr i1,by rw[ekw'];exact inr_mem.mpr i2,λH3 s3=>?_⟩;have hd3:=s3 _ _ hd;have hx3:=hx.mono (s2.trans s3);obtain⟨p,vh,vc,q,rfl,W,hkd⟩:=id hx3;obtain⟨dx,fs,ho,h5,_⟩:=W.ob;have c:=bV T x.kd
  have hl:kvs.length=i:=by
   have:=kA List.length hk
   rw[jF,jF,jT]at this
   lia
  refine⟨_,rfl,_,rfl,_,rfl,p,_,dx,fs,_,rfl,ho,c.cl,c.n1,h5.nm,d,_,rfl,DPut.k (k:=Sum.inr x.nm) hd3 (ay (by lia)),?_⟩;rw[f9 _ (dZ nk)];have s4:=aF (o:=.dK (kvs++[(Sum.inr x.nm,.ref p)])) nd0 (s2.trans s3);refine⟨hi',_,rfl,s4,kvs++[(Sum.inr x.nm,.ref p)],ag,?_,?_⟩
  ·rw[jM,hk,jS,ex,j0,jM];rfl
  ·rw[jM,jS,ex,j0];exact RowAt.snoc (hv.mono λv y z=>(z.mono s3).put hd3) (hx3.put hd3)
 ·rintro σ H2⟨_,z3,rfl,s2,hw2⟩;rw[hp.1,jQ]at hw2;exact⟨_,rfl,k d H2 nd0 s2 hw2⟩
noncomputable def fsN(dw dy:Addr):List (Str×V):=[("wants",.ref dw),("ways",.ref dy)]
theorem fsN_new(dw dy:Addr):bh "ways" (.ref dy) (bh "wants" (.ref dw) [])=fsN dw dy:=by
 show(if("wants":Str)="ways"then _ else(("wants":Str),V.ref dw)::[(("ways":Str),V.ref dy)])=fsN dw dy;rw[if_neg (by decide+kernel)];rfl
theorem fsN_w(dw dy:Addr):(fsN dw dy).lookup ("wants":Str)=some (.ref dw):=rfl
theorem fsN_y(dw dy:Addr):(fsN dw dy).lookup ("ways":Str)=some (.ref dy):=by
 show List.lookup ("ways":Str) [(("wants":Str),V.ref dw),("ways",V.ref dy)]=_;rw[ke,show(("ways":Str)=="wants")=false by decide+kernel];rfl
theorem hX(dw dy:Addr){m:Str}(h1:(m=="wants")=false)(h2:(m=="ways")=false):(fsN dw dy).lookup m=none:=by
 show List.lookup m [(("wants":Str),V.ref dw),("ways",V.ref dy)]=_;rw[ke,h1,ke,h2];rfl
noncomputable def NetAt(a:Ad)(H:Hp)(p:Addr)(ps:List (Str×Rat))(ds:List WD):Prop:=∃dx dw dy,H p=some (.ins a.Net dx (fsN dw dy))/\WantsAt a H dw ps/\WaysAt a H dy ds
theorem NetAt.mono(h:NetAt a H p ps ds)(s:Same H H'):NetAt a H' p ps ds:=by
 obtain⟨dx,dw,dy,e,h1,h2⟩:=h;exact⟨dx,dw,dy,s _ _ e,h1.mono s,h2.mono s⟩
structure NetOk(ps:List (Str×Rat))(ds:List WD):Prop where
 np:(ps.map (·.1)).Nodup
 lp:ps.length<=12
 nd:(ds.map (·.nm)).Nodup
 ld:ds.length<=24
 io:∀d∈ds,d.st∈ps.map (·.1)/\d.go∈ps.map (·.1)
inductive IspNetI(K:W.Frag)(a:Ad)(vs:List V)(H:Hp)(Q:VK):Prop
 |mk(p dx lp lw:Addr)(tp tw:List V)(ps:List (Str×Rat))(ds:List WD)(h1:vs=[.ref p,.ref lp,.ref lw])(h2:H p=some (.ins a.Net dx []))(h3:SqL K H lp tp)(h4:RowAt (PlIs a) H tp ps)(h5:SqL K H lw tw)(h6:RowAt (WayIs a) H tw ds)(h7:NetOk ps ds)(h8:∀H',(∀b o,H b=some o->b≠p->H' b=some o)->NetAt a H' p ps ds->Q .non H'):IspNetI K a vs H Q
noncomputable def spNetI(K:W.Frag)(a:Ad):Sp:=λvs H Q _=>IspNetI K a vs H Q
theorem WantsAt.ins(h:WantsAt a H d ps)(hp:H p=some (.ins C dx fs))(hC:C≠a.Fraction):WantsAt a (upd H p (.ins C dx gs)) d ps:=by
 obtain⟨kvs,h1,h2,h3⟩:=h;refine⟨kvs,by rw[ai (aG h1 hp (by intro z;cases z))];exact h1,h2,h3.mono λv x⟨q,e,dq,f⟩=>⟨q,e,dq,?_⟩⟩;rw[ai (aG f hp (by intro z;cases z;exact hC rfl))];exact f
theorem Stays.ins(hp:H p=some (.ins C dx fs))(hC:C≠a.Fraction/\∀kd:Kd,C≠kd.C a):Stays a H (upd H p (.ins C dx gs)):=λb C' dx' fs' h e=>by
 rw[ai (aG e hp λz=>?_)]
 ·exact e
 ·have ec:=(HO.ins.inj z).1;rcases h with rfl|⟨kd,rfl⟩
  ·exact hC.1 ec.symm
  ·exact hC.2 kd ec.symm
theorem WaysAt.ins(h:WaysAt a H d ds)(hp:H p=some (.ins C dx fs))(hC:C≠a.Fraction/\∀kd:Kd,C≠kd.C a):WaysAt a (upd H p (.ins C dx gs)) d ds:=by
 obtain⟨kvs,h1,h2,h3⟩:=h;exact⟨kvs,by rw[ai (aG h1 hp (by intro z;cases z))];exact h1,h2,h3.mono λv x z=>z.keep (.ins hp hC)⟩
theorem netC(T:TX K mg a):a.Net≠a.Fraction/\∀kd:Kd,a.Net≠kd.C a:=by
 have w1:a.Net≠a.Fraction:=λe=>by
  have h:=T.na_Fraction_top;have h2:=T.m_Fraction_times;rw[<-e]at h2;obtain⟨f,fd,_,⟨m,_,_⟩,_⟩:=h2
  cases T.no_Net_times.symm.trans m
 refine⟨w1,λkd e=>?_⟩
 have:=T.no_Net_out
 cases kd
 ·obtain⟨f,fd,_,⟨m,_,_⟩,_⟩:=T.m_Way_out;rw[show a.Way=a.Net from e.symm]at m
  cases this.symm.trans m
 ·obtain⟨f,fd,_,⟨m,_,_⟩,_⟩:=T.m_Growing_out;rw[show a.Growing=a.Net from e.symm]at m
  cases this.symm.trans m
 ·obtain⟨f,fd,_,⟨m,_,_⟩,_⟩:=T.m_Leaking_out;rw[show a.Leaking=a.Net from e.symm]at m
  cases this.symm.trans m
 ·obtain⟨f,fd,_,⟨m,_,_⟩,_⟩:=T.m_Store_out;rw[show a.Store=a.Net from e.symm]at m
  cases this.symm.trans m
theorem mk_Net(T:TX K mg a):MkB P w K mg base CX0 a.Net 4 ["self","places","ways"] [] (spNetI K a):=by
 refine T.i_Net.okA sc_Net_init (λf cdv A outer s H vs Q E hr h=>?_) (λvs H Q E h=>?_) _ (by simp)
 rotate_left
 ·obtain⟨_,_,_,_,_,_,_,_,rfl,_⟩:=h;rfl
 ·obtain⟨p,dx,lp,lw,tp,tw,ps,ds,rfl,hp,hS,hP,hL,hW,ok,k⟩:=h
  refine⟨_,(af (aN (PW.pt (fE (au iO (aI a6 (by rfl) T.z_len km (aa (pv 1) ae)) (pe_gi T.gi_MOST_PLACES)) (dI (au iO (aI a6 (by rfl) T.z_len km (aa (pv 2) ae)) (pe_gi T.gi_MOST_WAYS))))) (ah bP) aA)
   (af (bG (pv 0) (az (ok_wants_by_name T) hr aq (aa (pv 1) ae)) rfl)
   (ah (bG (pv 0) (az (ok_ways_by_name T) hr aq (aa (pv 2) (aa (aH (pv 0) rfl) ae))) rfl)))),?_⟩
  walk_at"q"
  have e1:(tp.length:Int)<=12:=by have:=ok.lp;rw[<-hP.1]at this;lia
  have e2:(tw.length:Int)<=24:=by have:=ok.ld;rw[<-hW.1]at this;lia
  refine⟨_,rfl,lp,tp,rfl,.inl hS,_,_,rfl,rfl,_,rfl,cL (jY (by lia)) ?_⟩;refine⟨_,rfl,lw,tw,rfl,.inl hL,_,_,rfl,rfl,_,rfl,cL (jY (by lia)) ?_⟩;refine⟨_,rfl,lp,tp,ps,rfl,hS,hP,ok.np,jV ok.lp (by decide),λdw H1 n1 s1 hw1=>?_⟩;have hp1:=s1 _ _ hp;refine⟨_,rfl,p,a.Net,dx,[],rfl,hp1,T.cl_Net,T.na_Net_wants,by decide,?_⟩;have hC:=netC T;generalize hH2:upd H1 p (.ins a.Net dx (bh "wants" (.ref dw) []))=H2;have hp2:H2 p=some (.ins a.Net dx (bh "wants" (.ref dw) [])):=by rw[<-hH2];exact ag
  have hw2:WantsAt a H2 dw ps:=by rw[<-hH2];exact hw1.ins hp1 hC.1
  have k2:∀b o,H b=some o->b≠p->H2 b=some o:=λb o e ne=>by rw[<-hH2,ai ne];exact s1 _ _ e
  have hL2:SqL K H2 lw tw:=by
   rcases hL with(h|⟨o,h⟩)|h
   ·exact .inl (.inl (k2 _ _ h (aG h hp (by intro z;cases z))))
   ·exact .inl (.inr ⟨o,k2 _ _ h (aG h hp (by intro z;cases z))⟩)
   ·exact .inr h
  have hW2:RowAt (WayIs a) H2 tw ds:=hW.mono λv x z=>z.keep λb C' dx' fs' h e=>k2 _ _ e (aG e hp λy=>by
   have ec:=(HO.ins.inj y).1;rcases h with rfl|⟨kd,rfl⟩
   ·exact hC.1 ec.symm
   ·exact hC.2 kd ec.symm)
  refine⟨_,rfl,_,rfl,p,_,dx,_,_,rfl,hp2,T.cl_Net,T.na_Net_wants,rfl,lw,dw,tw,ds,ps,rfl,hL2,hW2,hw2,ok.nd,jV ok.ld (by decide),ok.io,λdy H3 n3 s3 hy3=>?_⟩;have hp3:=s3 _ _ hp2;refine⟨_,rfl,p,a.Net,dx,_,rfl,hp3,T.cl_Net,T.na_Net_ways,kj (bp (jJ 0)) (by decide),?_⟩;rw[fsN_new];refine k _ (λb o e ne=>?_) ⟨dx,dw,dy,ag,(hw2.mono s3).ins hp3 hC.1,hy3.ins hp3 hC⟩;rw[ai ne];exact s3 _ _ (k2 _ _ e ne)
theorem mkN{Q:VK}(hS:SqL K H lp tp)(hP:RowAt (PlIs a) H tp ps)(hL:SqL K H lw tw)(hW:RowAt (WayIs a) H tw ds)(ok:NetOk ps ds)
  (k:∀p H',H p=none->Same H H'->NetAt a H' p ps ds->Q (.ref p) H')(p dx:Addr)(h1:H p=none)(h2:H dx=none)(_:dx≠p):
  spNetI K a [.ref p,.ref lp,.ref lw] (upd (upd H dx (.own p)) p (.ins a.Net dx [])) (λv H2=>v=.non/\Q (.ref p) H2) E0:=by
 have ss:=jh (C:=a.Net) h1 h2;exact⟨p,dx,lp,lw,tp,tw,ps,ds,rfl,ag,ss.seq hS,hP.mono λv x z=>z.mono ss,ss.seq hL,hW.mono λv x z=>z.mono ss,ok,λH' hs hn=>⟨rfl,k p H' h1 (fU h1 h2 hs) hn⟩⟩
theorem WaysAt.get(h:WaysAt a H dy ds)(nd:(ds.map (·.nm)).Nodup)(hd:d∈ds):∃kvs v,H dy=some (.dK kvs)/\bI kvs (Sum.inr d.nm)=some v/\WayIs a H v d:=by
 obtain⟨kvs,h1,h2,h3⟩:=h;obtain⟨i,hi⟩:=kh.mp hd;obtain⟨t,ht,hw⟩:=h3.get' hi;have hil:=(jG.mp hi).1;rw[jK]at ht
 cases e:kvs[i]? with
 |none=>rw[e]at ht;cases ht
 |some kv=>
  rw[e]at ht;have e2:kv.2=t:=kg ht
  have e1:kv.1=Sum.inr d.nm:=by
   have g1:(kvs.map (·.1))[i]?=some kv.1:=by rw[jK,e];rfl
   rw[h2,jK,hi]at g1;exact(kg g1).symm
  refine⟨kvs,t,h1,?_,hw⟩;obtain⟨v,hv⟩:=val_some (kvs:=kvs) (k:=(Sum.inr d.nm:Key)) (jL.mpr ⟨kv,jI e,e1⟩);rw[hv];unfold bI at hv
  cases f:kvs.find? (λkv=>decide (kv.1=(Sum.inr d.nm:Key))) with
  |none=>rw[f]at hv;cases hv
  |some kv'=>
   rw[f]at hv;have hp:=List.find?_some f;have m:=List.mem_of_find?_eq_some f;obtain⟨j,hj⟩:=kh.mp m;have ej:kv'.1=Sum.inr d.nm:=lX hp
   have nd2:(kvs.map (·.1)).Nodup:=by
    rw[h2,show(λz:WD=>(Sum.inr z.nm:Key))=(λn=>(Sum.inr n:Key))∘(λz:WD=>z.nm) from rfl,<-kO];exact nd.map _ (λu v h e=>h (ma e))
   have g1:(kvs.map (·.1))[j]?=some (Sum.inr d.nm):=by rw[jK,hj,kU,ej]
   have g2:(kvs.map (·.1))[i]?=some (Sum.inr d.nm):=by rw[jK,e,kU,e1]
   have ij:=(kR (by rw[jF];exact(jG.mp hj).1) nd2).mp (g1.trans g2.symm);subst ij;rw[hj]at e
   cases e;rw[<-e2];exact hv.symm
inductive IspNetWay(a:Ad)(vs:List V)(H:Hp)(Q:VK):Prop
 |mk(p:Addr)(ps:List (Str×Rat))(ds:List WD)(d:WD)(h1:vs=[.ref p,.str d.nm])(h2:NetAt a H p ps ds)(h3:(ds.map (·.nm)).Nodup)(h4:d∈ds)(h5:∀v,WayIs a H v d->Q v H):IspNetWay a vs H Q
noncomputable def d9(a:Ad):Sp:=λvs H Q _=>IspNetWay a vs H Q
theorem c9(T:TX K mg a):MtB P w K mg base CX0 a.Net "way" 1 ["self","name"] (d9 a):=by
 refine T.m_Net_way.okA sc_Net_way λf cdv A outer s H vs Q E hr h=>?_;obtain⟨p,ps,ds,d,rfl,⟨dx,dw,dy,hp,hw,hy⟩,nd,hd,k⟩:=h
 refine⟨_,(af (aN (eN (gk (aJ hr) (pv 1) (aH (pv 0) rfl))) (ah bP) aA)
  (ah (ax (aV (aJ hr) (aH (pv 0) rfl) (pv 1) (λ_ _=>rfl))))),?_⟩
 walk_at"q"
 obtain⟨kvs,v,h1,h2,h3⟩:=hy.get nd hd;refine⟨_,rfl,_,rfl,p,_,dx,_,_,rfl,hp,T.cl_Net,T.na_Net_ways,fsN_y _ _,dy,_,rfl,DGet.k (k:=Sum.inr d.nm) h1,_,rfl,?_⟩;rw[h2];refine iteF ?_;refine⟨_,rfl,p,_,dx,_,_,rfl,hp,T.cl_Net,T.na_Net_ways,fsN_y _ _,_,rfl,dy,v,rfl,?_,k v h3⟩;rw[<-h2];exact DGet.k (k:=Sum.inr d.nm) h1
end
end G
namespace G
open PySem L2
section
noncomputable def Chain(ds:List WD):Prop:=∀(i:Nat)(x y:WD),ds[i]?=some x->ds[i+1]?=some y->x.go=y.st
theorem WayIs.lst(h:WayIs a H v x)(hl:H l=some (.lst us)):WayIs a (upd H l (.lst zs)) v x:=h.keep (.put hl (by intro _ _ _ z;cases z))
structure OnNet(K:W.Frag)(a:Ad)(H:Hp)(p l:Addr)(ps:List (Str×Rat))(ns ds:List WD):Prop where
 net:NetAt a H p ps ns
 nd:(ns.map (·.nm)).Nodup
 sq:SqL K H l (ds.map λd=>.str d.nm)
 sub:∀d∈ds,d∈ns
 ch:Chain ds
 len:ds.length<=900
theorem OnNet.mono(h:OnNet K a H p l ps ns ds)(s:Same H H'):OnNet K a H' p l ps ns ds:=⟨h.net.mono s,h.nd,s.seq h.sq,h.sub,h.ch,h.len⟩
theorem last_of{α:Type}{xs:List α}(h:xs≠[]):∃ys y,xs=ys++[y]:=⟨xs.dropLast,xs.getLast h,(List.dropLast_concat_getLast h).symm⟩
theorem Bd.smr(b:Bd n x)(hn:n<9000):SmR x:=⟨kj b.1 (Nat.pow_lt_pow_right (by decide) hn),by show Sm _;unfold Sm;rw[lU];exact kj b.2 (Nat.pow_lt_pow_right (by decide) hn)⟩
inductive IspWaysOf(K:W.Frag)(a:Ad)(vs:List V)(H:Hp)(Q:VK):Prop
 |mk(p l:Addr)(ps:List (Str×Rat))(ns ds:List WD)(h1:vs=[.ref p,.ref l])(h2:OnNet K a H p l ps ns ds)(h3:∀r H' ts,H r=none->Same H H'->H' r=some (.lst ts)->RowAt (WayIs a) H' ts ds->Q (.ref r) H'):IspWaysOf K a vs H Q
noncomputable def spWaysOf(K:W.Frag)(a:Ad):Sp:=λvs H Q _=>IspWaysOf K a vs H Q
theorem ok_ways_of(T:TX K mg a):FnB P w K mg base CX0 "ways_of" 2 ["net","walk"] (spWaysOf K a):=by
 refine T.d_ways_of.okA sc_ways_of λf cdv A outer s H vs Q E hr h=>?_;obtain⟨p,l,ps,ns,ds,rfl,O,k⟩:=h
 refine⟨_,(af (aj (i:=2) sc_ways_of.nd (aR ae))
  (af (aQ jR rfl (a5 (pv 1)) (aw (i:=3) sc_ways_of.nd) (af (aj (i:=4) sc_ways_of.nd (cJ (CX:=CX0) (pv 0) hr aq (aa (pv 3) ae)))
  (af (aN (PW.pt (c8 (au (g9 hr.units0) (pv 2) (aR ae)) (cH (au fH (aH (al aM (pv 2) (iN fR ab)) rfl) (aH (pv 4) rfl))))) (ah bP) aA)
  (ah (aT (gi ki kC kD bJ (pv 2) (aa (pv 4) ae)))))))
  (ah (ax (pv 2))))),?_⟩
 walk_at"q"
 refine⟨by decide,λr nr=>?_⟩;have s0:Same H (upd H r (.lst [])):=aC nr;refine⟨_,rfl,l,rfl,⟨_,s0.seq O.sq⟩,ba (K:=K) (a:=l) (xs:=ds.map λd=>.str d.nm) (λi σ H2=>i<=ds.length/\∃z3 z4 ts,σ=[some (.ref p),some (.ref l),some (.ref r),z3,z4]/\Same H H2/\H2 r=some (.lst ts)/\RowAt (WayIs a) H2 ts (ds.take i)) ⟨jU _,_,_,[],rfl,s0,ag,RowAt.nil⟩ ((by rintro i σ H2 _⟨_,_,_,_,_,s2,_⟩;exact s2.seq O.sq)) ?_ ?_⟩
 ·rintro i t σ H2 ht⟨hi,z3,z4,ts,rfl,s2,hr2,hv⟩;rw[jK]at ht
  cases ex:ds[i]? with
  |none=>rw[ex]at ht;cases ht
  |some x=>
   rw[ex]at ht
   cases ht;have hi':i<ds.length:=(jG.mp ex).1;obtain⟨dx,dw,dy,hp,hw,hy⟩:=O.net.mono s2;have hts:ts.length=i:=by rw[hv.1,jT];lia
   refine⟨_,rfl,p,a.Net,dx,_,1,["self","name"],d9 a,rfl,hp,hX _ _ (by decide+kernel) (by decide+kernel),T.cl_Net,by decide,c9 T,_,rfl,p,ps,ns,x,rfl,⟨dx,dw,dy,hp,hw,hy⟩,O.nd,O.sub _ (jI ex),λv hx=>?_⟩;refine⟨_,rfl,by decide,λe ne=>?_⟩;have s3:=aC (o:=.lst []) ne;refine⟨r,e,ts,rfl,rfl,SqL.of (s3 _ _ hr2),SqL.of ag,_,rfl,?_⟩;have hr3:=s3 _ _ hr2;have hx3:=hx.mono s3;have hv3:=hv.mono λv y z=>z.mono s3;have s23:=s2.trans s3;generalize upd H2 e (.lst [])=H3 at s3 hr3 hx3 hv3 s23⊢;obtain⟨p',vh,vc,q,rfl,W,hk⟩:=id hx3;obtain⟨dx',fs',ho',h5',_⟩:=W.ob;have c':=bV T x.kd
   have nx:i+1<=ds.length/\∃z3 z4 us,([some (.ref p),some (.ref l),some (.ref r),some (.str x.nm),some (.ref p')]:St)=[some (.ref p),some (.ref l),some (.ref r),z3,z4]/\Same H (upd H3 r (.lst (ts++[.ref p'])))/\upd H3 r (.lst (ts++[.ref p'])) r=some (.lst us)/\RowAt (WayIs a) (upd H3 r (.lst (ts++[.ref p']))) us (ds.take (i+1)):=by
    refine⟨hi',_,_,_,rfl,aF nr s23,ag,?_⟩;rw[jS,ex,j0];exact RowAt.snoc (hv3.mono λv y z=>z.lst hr3) (hx3.lst hr3)
   by_cases hz:ts=[]
   ·subst hz;refine iteF ?_;exact⟨_,rfl,.inl ⟨rfl,_,SqL.of hr3⟩,_,rfl,r,_,_,rfl,rfl,hr3,by decide,nx⟩
   ·have hz2:(!ts.isEmpty)=true:=by cases ts with|nil=>exact absurd rfl hz|cons _ _=>rfl
    rw[hz2];refine iteT ?_
    have hi0:0<i:=by
     cases i with
     |zero=>exact absurd (List.length_eq_zero_iff.mp hts) hz
     |succ i=>exact Nat.succ_pos i
    have hu:ts[i-1]?=some ts[i-1]:=jH (by omega);generalize ts[i-1]=u at hu;obtain⟨y,ey,p2,vh2,vc2,q2,rfl,W2,hk2⟩:=hv3.get hu;rw[lI,if_pos (by omega)]at ey;obtain⟨dx2,fs2,ho2,h52,_⟩:=W2.ob;have c2:=bV T y.kd;have eg:y.go=x.st:=O.ch (i-1) y x ey (by rw[show i-1+1=i by omega];exact ex)
    have lst:atI ts (-1)=some (.ref p2):=by
     obtain⟨us,u,rfl⟩:=last_of hz
     have:us.length=i-1:=by simp at hts;omega
     rw[<-this,kP (jJ _)]at hu;simp at hu;rw[hu];exact atI_last us _
    refine⟨_,rfl,_,rfl,r,_,_,_,rfl,rfl,SqL.of hr3,lst,p2,_,dx2,fs2,_,rfl,ho2,c2.cl,c2.n3,h52.go,_,rfl,p',_,dx',fs',_,rfl,ho',c'.cl,c'.n2,h5'.st,rfl,_,rfl,?_⟩;rw[eg];refine iteNS rfl ?_;exact⟨_,rfl,.inl ⟨rfl,_,SqL.of hr3⟩,_,rfl,r,_,_,rfl,rfl,hr3,ay (by have:=O.len;lia),nx⟩
 ·rintro σ H2⟨_,z3,z4,ts,rfl,s2,hr2,hv⟩;rw[jF,jQ]at hv;exact⟨_,rfl,k r H2 ts nr s2 hr2 hv⟩
noncomputable def aB(ds:List WD):Rat:=ds.foldl (λy d=>y*aD d.kd d.x) 1
theorem gprod_snoc(ds:List WD)(d:WD):aB (ds++[d])=aB ds*aD d.kd d.x:=by
 unfold aB;rw[lL];rfl
theorem jy(ds:List WD)(h:∀d∈ds,Bd n (aD d.kd d.x)):∀i,i<=ds.length->Bd (i*n) (aB (ds.take i))
 |0,_=>by
  rw[Nat.zero_mul,lP];exact Bd.one
 |i+1,hi=>by
  have hi':i<ds.length:=by omega
  rw[jS,jH hi',j0,gprod_snoc,Nat.succ_mul];exact(jy ds h i (by omega)).mul (h _ (List.getElem_mem hi'))
inductive IspGainOf(K:W.Frag)(a:Ad)(vs:List V)(H:Hp)(Q:VK):Prop
 |mk(p l:Addr)(ps:List (Str×Rat))(ns ds:List WD)(n:Nat)(h1:vs=[.ref p,.ref l])(h2:OnNet K a H p l ps ns ds)(h3:(∀d∈ds,SmR d.x/\Bd n (aD d.kd d.x)))(h4:n<9000)(h5:ds.length*n<9000)(h6:∀r H',Same H H'->FrAt a.Fraction H' r (aB ds)->Q (.ref r) H'):IspGainOf K a vs H Q
noncomputable def spGainOf(K:W.Frag)(a:Ad):Sp:=λvs H Q _=>IspGainOf K a vs H Q
theorem ok_gain_of(T:TX K mg a):FnB P w K mg base CX0 "gain_of" 9 ["net","walk"] (spGainOf K a):=by
 refine T.d_gain_of.okA sc_gain_of λf cdv A outer s H vs Q E hr h=>?_;obtain⟨p,l,ps,ns,ds,n,rfl,O,hb,hn,hln,k⟩:=h
 refine⟨_,(af (aj (i:=2) sc_gain_of.nd (bD (mk1 T) hr T.mg_Fraction aq (aa ab ae)))
  (af (aQ jR rfl (a5 (az (ok_ways_of T) hr aq (aa (pv 0) (aa (pv 1) ae)))) (aw (i:=3) sc_gain_of.nd) (ah (aj (i:=2) sc_gain_of.nd (cJ (CX:=CX0) (pv 3) hr aq (aa (pv 2) ae)))))
  (ah (ax (pv 2))))),?_⟩
 walk_at"q"
 refine⟨1,1,rfl,by decide,sm1,λg0 H1 n0 s1 f1=>?_⟩;rw[show Rat.divInt 1 1=1 from rfl]at f1;refine⟨_,rfl,_,rfl,p,l,ps,ns,ds,rfl,O.mono s1,λr H2 ts nr s2 hr2 hv=>?_⟩;refine⟨r,rfl,⟨_,SqL.of hr2⟩,ba (K:=K) (a:=r) (xs:=ts) (λi σ H3=>i<=ds.length/\∃z g,σ=[some (.ref p),some (.ref l),some (.ref g),z]/\Same H2 H3/\FrAt a.Fraction H3 g (aB (ds.take i))) ⟨jU _,_,_,rfl,Same.refl _,f1.mono s2⟩ ((by rintro i σ H3 _⟨_,_,_,_,s3,_⟩;exact SqL.of (s3 _ _ hr2))) ?_ ?_⟩
 ·rintro i t σ H3 ht⟨hi,z,g,rfl,s3,fg⟩;obtain⟨x,ex,p1,vh,vc,q,rfl,W,hk⟩:=(hv.mono λv y z=>z.mono s3).get ht;have hi':=(jG.mp ex).1;obtain⟨dx,fs,ho,h5,_⟩:=id W.ob;obtain⟨b1,b2⟩:=hb x (jI ex);have bi:=jy ds (λd hd=>(hb d hd).2) i hi;have hin:i*n<9000:=kj (Nat.mul_le_mul_right _ hi) hln;refine⟨_,rfl,p1,_,dx,fs,8,["self","amount"],spOut a x.kd,rfl,ho,h5.ou,(bV T x.kd).cl,by decide,out_any T x.kd,_,rfl,p1,g,x.nm,x.st,x.go,vh,vc,q,x.x,_,rfl,W,fg,b1,bi.smr hin,b2.smr hn,λr' H4 s4 f4=>?_⟩;refine⟨hi',_,_,rfl,s3.trans s4,?_⟩;rw[jS,ex,j0,gprod_snoc];exact f4
 ·rintro σ H3⟨_,z,g,rfl,s3,fg⟩;rw[hv.1,jQ]at fg;exact⟨_,rfl,k g H3 (s1.trans (s2.trans s3)) fg⟩
end
end G
namespace G
open PySem L2
section
theorem Sm.of_le{a:Int}(h:a.natAbs<=2^n)(hn:n<9000):Sm a:=kj h (Nat.pow_lt_pow_right (by decide) hn)
theorem tot_bd{T B o c u:Int}(hT:T.natAbs<=2^s)(hB:B.natAbs<=2^s)(ho:o.natAbs<=2^m)(hc:c.natAbs<=2^m)(hu:u.natAbs<=B.natAbs):
  (T*o+c*u).natAbs<=2^(s+(m+1))/\(B*o).natAbs<=2^(s+(m+1)):=by
 have h4:2^(s+(m+1))=2^(s+m)*2:=by rw[<-Nat.add_assoc,Nat.pow_succ]
 constructor
 ·have h1:(T*o).natAbs<=2^(s+m):=by rw[kB];exact cx hT ho
  have h2:(c*u).natAbs<=2^(m+s):=by rw[kB];exact cx hc (jV hu hB)
  rw[Nat.add_comm m s]at h2;have h5:=Int.natAbs_add_le (T*o) (c*u)
  lia
 ·have h1:(B*o).natAbs<=2^(s+m):=by rw[kB];exact cx hB ho
  lia
theorem TInv.le(I:TInv x T B s):s.natAbs<=B.natAbs:=by
 obtain⟨pB,ps,⟨r,hr,_⟩,_⟩:=I
 have:=Int.le_of_dvd pB ⟨r,hr⟩
 omega
noncomputable def FrIs(a:Ad)(H:Hp)(v:V)(x:Rat):Prop:=∃q,v=.ref q/\FrAt a.Fraction H q x
theorem FrIs.mono(h:FrIs a H v x)(s:Same H H'):FrIs a H' v x:=by
 obtain⟨q,e,f⟩:=h;exact⟨q,e,f.mono s⟩
theorem FrIs.keep(h:FrIs a H v x)(s:KeepD H H'):FrIs a H' v x:=let⟨q,e,d,f⟩:=h;⟨q,e,d,s _ _ f (by intro _ z;cases z) (by intro _ _ z;cases z)⟩
inductive IspTotal(K:W.Frag)(a:Ad)(vs:List V)(H:Hp)(Q:VK):Prop
 |mk(l:Addr)(ts:List V)(xs:List Rat)(N:Nat)(h1:vs=[.ref l])(h2:SqL K H l ts)(h3:RowAt (FrIs a) H ts xs)(h4:BdS xs N)(h5:N<9000)(h6:∀(r:Addr)(H':Hp),H r=none->Same H H'->FrAt a.Fraction H' r xs.sum->Q (.ref r) H'):IspTotal K a vs H Q
noncomputable def spTotal(K:W.Frag)(a:Ad):Sp:=λvs H Q _=>IspTotal K a vs H Q
theorem ok_total(T:TX K mg a):FnB P w K mg base CX0 "total" 5 ["some"] (spTotal K a):=by
 refine T.d_total.okA sc_total λf cdv A outer s H vs Q E hr h=>?_;obtain⟨l,ts,xs,N,rfl,hS,fs,bd,hN,k⟩:=h;obtain⟨S,S0,S1,S2⟩:=bd.fn
 refine⟨_,(af (aj (i:=1) sc_total.nd ab)
  (af (aj (i:=2) sc_total.nd ab)
  (af (aj (i:=3) sc_total.nd ab)
  (af (aQ jR rfl (a5 (pv 0)) (aw (i:=4) sc_total.nd) (af (aj (i:=5) sc_total.nd (az (cw T) hr aq (aa (pv 2) (aa (cm T.fr (pv 4)) ae))))
  (af (aj (i:=6) sc_total.nd (ao bC (cm T.fr (pv 4)) (pv 5)))
  (af (aj (i:=1) sc_total.nd (ao aO (ao bE (pv 1) (pv 6)) (ao bE (ck T.fr (pv 4)) (ao bC (pv 2) (pv 5)))))
  (af (aj (i:=2) sc_total.nd (ao bE (pv 2) (pv 6)))
  (ah (aj (i:=3) sc_total.nd (ao bE (pv 3) (ao bC (pv 5) (az (cw T) hr aq (aa (pv 3) (aa (pv 5) ae))))))))))))
  (af (aj (i:=7) sc_total.nd (az (cw T) hr aq (aa (pv 1) (aa (pv 3) ae))))
  (ah (ax (az (bz T) hr aq (aa (ao bC (pv 1) (pv 7)) (aa (ao bC (pv 2) (pv 7)) ae)))))))))),?_⟩
 walk_at"q"
 refine⟨_,rfl,l,rfl,⟨_,hS⟩,ba (K:=K) (a:=l) (xs:=ts) (λi σ H2=>i<=xs.length/\∃(t b s:Int)(z4 z5 z6 z7:Option V),σ=[some (.ref l),some (.int t),some (.int b),some (.int s),z4,z5,z6,z7]/\H2=H/\TInv (xs.take i).sum t b s/\t.natAbs<=2^(S i)/\b.natAbs<=2^(S i))
  ⟨jU _,0,1,1,_,_,_,_,rfl,rfl,TInv.zero,jU _,by rw[S0];decide⟩ ((by rintro i σ H2 _⟨_,_,_,_,_,_,_,_,_,e,_⟩;exact by rw[e];exact hS)) ?_ ?_⟩
 ·rintro i u σ H2 hu⟨_,t,b,s,z4,z5,z6,z7,rfl,rfl,I,ht,hb⟩;have hi:i<xs.length:=by rw[<-fs.1];exact(jG.mp hu).1
  have ex:xs[i]?=some xs[i]:=jH hi;obtain⟨n,by',bs⟩:=S2 i _ ex;generalize xs[i]=y at ex by';obtain⟨p,rfl,fp⟩:=fs.2 i u _ hu ex;have si:=S1 i (by lia);have si1:=S1 (i+1) (by lia);have hn':n<9000:=by lia
  have yd:((y.den:Int)).natAbs<=2^n:=by rw[lU];exact by'.2
  have sy:Sm (y.den:Int):=Sm.of_le yd hn';have cp:=cO b (den_ne y);have cs:=Sm.gcd_r b (den_ne y) sy;have st:Sm t:=Sm.of_le ht (by lia);have sb:Sm b:=Sm.of_le hb (by lia);have yp:=den_pos y;have lo:((y.den:Int).fdiv (gcd b y.den)).natAbs<=(y.den:Int).natAbs:=fQ _ cp (by lia);have lu:(b.fdiv (gcd b y.den)).natAbs<=b.natAbs:=fQ _ cp (Int.le_of_lt I.pB);have ss:Sm s:=sb.le I.le;have gp:=cO s (b:=gcd b y.den) (by lia);have gs:=Sm.gcd_r s (b:=gcd b y.den) (by lia) cs;have lc:((gcd b y.den).fdiv (gcd s (gcd b y.den))).natAbs<=(gcd b y.den).natAbs:=fQ _ gp (by lia);have tb:=tot_bd ht hb (jV lo yd) by'.1 lu;refine⟨_,rfl,_,rfl,p,y,rfl,fp,_,_,rfl,?_⟩;refine⟨_,rfl,p,y,rfl,fp,_,rfl,_,_,rfl,rfl,⟨by lia,cs⟩,?_⟩;refine⟨_,rfl,_,rfl,_,_,rfl,rfl,⟨st,sy.le lo⟩,_,rfl,p,y,rfl,fp,_,rfl,_,rfl,_,_,rfl,rfl,⟨by lia,cs⟩,_,_,rfl,rfl,⟨Sm.of_le by'.1 hn',sb.le lu⟩,_,_,rfl,rfl,?_⟩;refine⟨_,rfl,_,rfl,_,_,rfl,rfl,⟨sb,sy.le lo⟩,?_⟩;refine⟨_,rfl,_,rfl,_,rfl,_,rfl,_,_,rfl,_,_,rfl,rfl,⟨by lia,gs⟩,_,_,rfl,rfl,⟨ss,cs.le lc⟩,?_⟩;refine⟨hi,_,_,_,_,_,_,_,rfl,rfl,?_,jV tb.1 (pow_le bs),jV tb.2 (pow_le bs)⟩;rw[jS,ex,j0,sum_snoc];exact I.step
 ·rintro σ H2⟨_,t,b,s,z4,z5,z6,z7,rfl,rfl,I,ht,hb⟩;rw[fs.1]at I ht hb;rw[jQ]at I;have sl:=S1 _ (jJ _);have sb:Sm b:=Sm.of_le hb (by lia);have s0:s≠0:=by have:=I.ps;lia
  have gp:=cO t s0;have gs:=Sm.gcd_r t s0 (sb.le I.le);obtain⟨e1,e2⟩:=I.fin;refine⟨_,rfl,_,rfl,_,_,rfl,?_⟩;refine⟨_,rfl,_,rfl,_,_,rfl,rfl,⟨by lia,gs⟩,_,rfl,_,rfl,_,_,rfl,rfl,⟨by lia,gs⟩,_,_,rfl,λr dx H' nr s1 h1=>k r H' nr s1 ⟨dx,?_⟩⟩;rw[h1,e1,e2]
end
end G
namespace G
open PySem L2
section
noncomputable def LstIs(a:Ad)(H:Hp)(v:V)(xs:List Rat):Prop:=∃l ts,v=.ref l/\H l=some (.lst ts)/\RowAt (FrIs a) H ts xs
theorem LstIs.mono(h:LstIs a H v xs)(s:Same H H'):LstIs a H' v xs:=by
 obtain⟨l,ts,e,f,r⟩:=h;exact⟨l,ts,e,s _ _ f,r.mono λv x z=>z.mono s⟩
theorem LstIs.keep(h:LstIs a H v xs)(s:KeepD H H'):LstIs a H' v xs:=let⟨l,ts,e,f,r⟩:=h;⟨l,ts,e,s _ _ f (by intro _ z;cases z) (by intro _ _ z;cases z),r.mono λv x z=>z.keep s⟩
noncomputable def going(x:Rat)(ds:List WD):Rat:=ds.foldl (λy d=>y*aD d.kd d.x) x
theorem iZ(x:Rat)(ds:List WD)(d:WD):going x (ds++[d])=going x ds*aD d.kd d.x:=by unfold going;rw[lL];rfl
noncomputable def b6:Rat->List WD->List (Str×Rat)
 |_,[]=>[]
 |x,d::r=>(d.nm,x)::b6 (x*aD d.kd d.x) r
theorem iT(ds:List WD)(d:WD):∀x,b6 x (ds++[d])=b6 x ds++[(d.nm,going x ds)]:=by
 induction ds with
 |nil=>intro x;rfl
 |cons e r ih=>intro x;show _::b6 _ (r++[d])=_;rw[ih];rfl
theorem steps_names(ds:List WD):∀x,(b6 x ds).map (·.1)=ds.map (·.nm):=by
 induction ds with
 |nil=>intro x;rfl
 |cons e r ih=>intro x;show e.nm::(b6 _ r).map _=_;rw[ih];rfl
theorem sgn_zero:sgn x=0↔x=0:=by
 unfold sgn;constructor
 ·intro h
  have:x.num=0:=by
   split at h
   ·cases h
   ·split at h
    ·cases h
    ·lia
  exact Rat.num_eq_zero.mp this
 ·rintro rfl;rfl
noncomputable def dL(f:Str->Rat)(ks:List Str):List Str:=ks.filter (λn=>decide (f n≠0))
theorem some0_snoc(f:Str->Rat)(ks:List Str)(n:Str):dL f (ks++[n])=if f n=0 then dL f ks else dL f ks++[n]:=by
 unfold dL;rw[l7];by_cases h:f n=0
 ·rw[if_pos h];simp[h]
 ·rw[if_neg h];simp[h]
inductive IspNoughts(a:Ad)(vs:List V)(H:Hp)(Q:VK):Prop
 |mk(d:Addr)(kvs:List (Key×V))(ks:List Str)(f:Str->Rat)(h1:vs=[.ref d])(h2:H d=some (.dK kvs))(h3:Tab (FrIs a) H kvs ks f)(h4:ks.Nodup)(h5:ks.length<=900)(h6:∀r H' kvs',H r=none->Same H H'->H' r=some (.dK kvs')->Tab (FrIs a) H' kvs' (dL f ks) f->Q (.ref r) H'):IspNoughts a vs H Q
noncomputable def spNoughts(a:Ad):Sp:=λvs H Q _=>IspNoughts a vs H Q
theorem cg(T:TX K mg a):FnB P w K mg base CX0 "without_noughts" 5 ["plan"] (spNoughts a):=by
 refine T.d_without_noughts.okA sc_without_noughts λf cdv A outer s H vs Q E hr h=>?_;obtain⟨d,kvs,ks,f,rfl,hd,tb,nd,hl,k⟩:=h
 refine⟨_,(af (aj (i:=1) sc_without_noughts.nd bK)
  (af (cB (aQ jR rfl (eO (pv 0)) (gB (n:=2) rfl (bu (aw (i:=2) sc_without_noughts.nd) (bu (aw (i:=3) sc_without_noughts.nd) dP))) (ah (aN (au fH (di T.fr (pv 3) (dj T) hr aq) ab) (ah (bB (aJ hr) (pv 1) (pv 2) (pv 3) rfl)) aA))))
  (ah (ax (pv 1))))),?_⟩
 walk_at"q"
 intro r nr;have s0:Same H (upd H r (.dK [])):=aC nr;have hd0:=s0 _ _ hd;have hr0:upd H r (.dK []) r=some (.dK []):=ag;have tb0:=tb.mono λv x z=>z.mono s0;generalize upd H r (.dK [])=H0 at s0 hd0 hr0 tb0⊢;have ndr:d≠r:=λz=>by rw[z,nr]at hd;cases hd
 refine⟨d,.dK kvs,hd0,(by intro o z e;cases e),_,rfl,d,kvs,rfl,hd0,λo=>?_⟩
 refine dX (a:=d) (o:=o) (kvs:=kvs) (λi σ H2=>i<=ks.length/\∃z2 z3 kv2,σ=[some (.ref d),some (.ref r),z2,z3]/\H2 d=some (.frz o (.dK kvs))/\(∀b ob,H b=some ob->b≠d->H2 b=some ob)/\KeepD H0 H2/\H2 r=some (.dK kv2)/\Tab (FrIs a) H2 kv2 (dL f (ks.take i)) f)
  ⟨jU _,_,_,[],rfl,ag,(λb ob e ne=>by rw[ai ne];exact s0 _ _ e),KeepD.put hd0,by rw[ai ndr.symm];exact hr0,Tab.nil⟩ ((by rintro i σ H2 _⟨_,_,_,_,_,h,_⟩;exact h)) ?_ ?_
 ·rintro i kv t σ H2 hkv nt⟨_,z2,z3,kv2,rfl,hf,k2,kp,hr2,tb2⟩;obtain⟨n,en,e1,ev,q,eq,fq⟩:=tb0.at_ nd hkv;have hi:i<ks.length:=(jG.mp en).1;have ekv:kV kv.1=.str n:=by rw[e1];rfl
  rw[ekv,eq];obtain⟨H3,zq,s3,ht⟩:=uG (o:=.tup [.str n,.ref q]) nt;rw[zq]
  have fq3:FrAt a.Fraction H3 q (f n):=by
   obtain⟨q',e',f'⟩:=FrIs.keep ⟨q,rfl,fq⟩ (kp.trans (.of s3))
   cases e';exact f'
  obtain⟨tk,nk⟩:=cz nd en;refine⟨t,[.str n,.ref q],rfl,SqT.of ht,rfl,.str n,[.ref q],rfl,⟨.ref q,[],rfl,⟨rfl,?_⟩⟩⟩;have fr:=fq3;refine⟨_,rfl,q,_,rfl,fq3,?_⟩;walk_at"rd"
  by_cases hz:f n=0
  ·refine cL (by rw[sgn_zero.mpr hz];rfl) ?_;refine⟨hi,_,_,kv2,rfl,s3 _ _ hf,(λb ob e ne=>s3 _ _ (k2 _ _ e ne)),kp.trans (.of s3),s3 _ _ hr2,?_⟩;rw[tk,some0_snoc,if_pos hz];exact tb2.mono λv x z=>z.mono s3
  ·refine iteC (by
    rw[jY (λz=>hz (sgn_zero.mp (V.int.inj z)))];rfl) ?_
   have hr3:=s3 _ _ hr2;have ns0:¬n∈dL f (ks.take i):=λz=>nk (lT.mp z).1
   have ls:kv2.length<=900:=by
    rw[tb2.len];have h1:=lB (λn=>decide (f n≠0)) (ks.take i);rw[jT]at h1;unfold dL
    lia
   refine⟨_,rfl,_,rfl,_,rfl,r,_,rfl,DPut.k (k:=Sum.inr n) hr3 (ay (by lia)),?_⟩;have kp3:KeepD H3 (upd H3 r (.dK (bv kv2 (Sum.inr n) (.ref q)))):=KeepD.put hr3;refine⟨hi,_,_,_,rfl,by rw[ai ndr];exact s3 _ _ hf,(λb ob e ne=>?_),(kp.trans (.of s3)).trans kp3,ag,?_⟩
   ·rw[ai (ar e nr)];exact s3 _ _ (k2 _ _ e ne)
   ·rw[tk,some0_snoc,if_neg hz,<-fe ns0];refine(Tab.put (tb2.mono λv x z=>(z.mono s3).keep kp3) (y:=f n) (FrIs.keep ⟨q,rfl,fq3⟩ kp3)).congr λm _=>?_;unfold upf
    split
    ·rename_i e;rw[e]
    ·rfl
 ·rintro σ H2⟨_,z2,z3,kv2,rfl,hf,k2,kp,hr2,tb2⟩;rw[tb.len,jQ]at tb2;refine⟨o,hf,_,rfl,k r _ kv2 nr (λb ob e=>?_) (by rw[ai ndr.symm];exact hr2) (tb2.mono λv x z=>z.keep (.frz hf))⟩;by_cases hb:b=d
  ·subst hb;rw[ag,<-hd,e]
  ·rw[ai hb];exact k2 _ _ e hb
inductive IspSent(K:W.Frag)(a:Ad)(vs:List V)(H:Hp)(Q:VK):Prop
 |mk(p l q:Addr)(ps:List (Str×Rat))(ns ds:List WD)(x:Rat)(h1:vs=[.ref p,.ref l,.ref q])(h2:OnNet K a H p l ps ns ds)(h3:FrAt a.Fraction H q x)(h4:(∀d∈ds,SmR d.x/\SmR (aD d.kd d.x)))(h5:(∀i,i<=ds.length->SmR (going x (ds.take i))))(h6:(∀n,∃N,BdS (occ (b6 x ds) n) N/\N<9000))(h7:∀r H' kvs,H r=none->Same H H'->H' r=some (.dK kvs)->Tab (FrIs a) H' kvs (dL (λn=>(occ (b6 x ds) n).sum) (a9 (ds.map (·.nm)))) (λn=>(occ (b6 x ds) n).sum)->Q (.ref r) H'):IspSent K a vs H Q
noncomputable def spSent(K:W.Frag)(a:Ad):Sp:=λvs H Q _=>IspSent K a vs H Q
theorem ok_sent(T:TX K mg a):FnB P w K mg base CX0 "sent" 9 ["net","walk","amount"] (spSent K a):=by
 refine T.d_sent.okA sc_sent λf cdv A outer s H vs Q E hr h=>?_;obtain⟨p,l,q,ps,ns,ds,x,rfl,O,fq,hg,hb,hB,k⟩:=h
 refine⟨_,(af (aj (i:=3) sc_sent.nd bK)
  (af (aj (i:=4) sc_sent.nd (pv 2))
  (aE (aQ jR rfl (a5 (az (ok_ways_of T) hr aq (aa (pv 0) (aa (pv 1) ae)))) (aw (i:=5) sc_sent.nd) (af (bB (aJ hr) (pv 3) (aH (pv 5) rfl) (ao op_cat (gf (aJ hr) (pv 3) (aH (pv 5) rfl) (aR ae) ⟨rfl,rfl,rfl,rfl⟩) (aR (aa (pv 4) ae))) rfl)
  (ah (aj (i:=4) sc_sent.nd (cJ (CX:=CX0) (pv 5) hr aq (aa (pv 4) ae))))))
  (af (aj (i:=6) sc_sent.nd bK)
  (aE (cB (aQ jR rfl (eO (pv 3)) (gB (n:=2) rfl (bu (aw (i:=7) sc_sent.nd) (bu (aw (i:=8) sc_sent.nd) dP))) (ah (bB (aJ hr) (pv 6) (pv 7) (az (ok_total T) hr aq (aa (pv 8) ae)) rfl))))
  (ah (ax (az (cg T) hr aq (aa (pv 6) ae))))))))),?_⟩
 walk_at"q"
 intro dp np;have s0:Same H (upd H dp (.dK [])):=aC np;have hd0:upd H dp (.dK []) dp=some (.dK []):=ag;generalize upd H dp (.dK [])=H0 at s0 hd0⊢;refine⟨_,rfl,?_⟩;refine bM (λσ' H'=>∃z5 z6 z7 z8 z9 kvs,σ'=[some (.ref p),some (.ref l),some (.ref q),some (.ref dp),z5,z6,z7,z8,z9]/\Same H H'/\H' dp=some (.dK kvs)/\Tab (LstIs a) H' kvs (a9 (ds.map (·.nm))) (occ (b6 x ds))) ?_ ?_
 ·refine⟨_,rfl,_,rfl,p,l,ps,ns,ds,rfl,O.mono s0,λr H1 ts nr s1 hr1 hv=>?_⟩;have len:=O.len
  refine⟨r,rfl,⟨_,SqL.of hr1⟩,ba (K:=K) (a:=r) (xs:=ts) (λi σ H2=>i<=ds.length/\∃z6 z7 z8 z9 g kvs,σ=[some (.ref p),some (.ref l),some (.ref q),some (.ref dp),some (.ref g),z6,z7,z8,z9]/\Same H H2/\KeepD H1 H2/\FrAt a.Fraction H2 g (going x (ds.take i))/\H2 dp=some (.dK kvs)/\Tab (LstIs a) H2 kvs (a9 ((ds.take i).map (·.nm))) (occ (b6 x (ds.take i))))
   ⟨jU _,_,_,_,_,q,[],rfl,s0.trans s1,.of (Same.refl _),fq.mono (s0.trans s1),s1 _ _ hd0,Tab.nil⟩ ((by rintro i σ H2 _⟨_,_,_,_,_,_,_,_,_,kp,_⟩;exact SqL.of (kp _ _ hr1 (by intro _ z;cases z) (by intro _ _ z;cases z)))) ?_ ?_⟩
  ·rintro i t σ H2 ht⟨hi,z6,z7,z8,z9,g,kvs,rfl,s2,kp,fg,hd2,tb⟩;obtain⟨y,ey,wy⟩:=hv.get ht;have hi':=(jG.mp ey).1;have wy2:WayIs a H2 t y:=wy.keep λb C dx fs _ e=>kp _ _ e (by intro _ z;cases z) (by intro _ _ z;cases z);obtain⟨p1,vh,vc,q1,rfl,W,hk⟩:=wy2;obtain⟨dx,fs,ho,h5,_⟩:=id W.ob;have c:=bV T y.kd;refine⟨_,rfl,dp,rfl,.inl ⟨kvs,.inl hd2⟩,_,rfl,p1,_,dx,fs,_,rfl,ho,c.cl,c.n1,h5.nm,by decide,λe ne=>?_⟩;obtain⟨H3,zq,s3,he⟩:=uG (o:=.lst []) ne;rw[zq];have hd3:=s3 _ _ hd2;refine⟨_,DGet.k (k:=Sum.inr y.nm) hd3,?_⟩;have tb3:=tb.mono λv x z=>z.mono s3
   have hval:LstIs a H3 ((bI kvs (Sum.inr y.nm)).getD (.ref e)) (occ (b6 x (ds.take i)) y.nm):=by
    by_cases hn:y.nm∈a9 ((ds.take i).map (·.nm))
    ·obtain⟨v,ev,r⟩:=tb3.vals _ hn;rw[ev];exact r
    ·rw[tb3.none hn,occ_none (by rw[steps_names];exactλz=>hn (mem_keysOf.mpr z))];exact⟨e,[],rfl,he,RowAt.nil⟩
   generalize(bI kvs (Sum.inr y.nm)).getD (.ref e)=vl at hval⊢;obtain⟨e1,ts1,rfl,he1,rw1⟩:=hval;refine⟨_,rfl,zL1,λe2 ne2=>?_⟩;obtain⟨H4,zq,s4,he2⟩:=uG (o:=.lst [.ref g]) ne2;rw[zq]
   have olen:(occ (b6 x (ds.take i)) y.nm).length<=i:=by
    unfold occ;rw[jF];refine jV (lB _ _) ?_
    have:=kA List.length (steps_names (ds.take i) x)
    rw[jF,jF,jT]at this
    lia
   refine⟨e1,e2,_,_,rfl,rfl,s4 _ _ he1,he2,jV (by rw[rw1.1];simp;lia) (Nat.le_of_lt (ay (jJ 1000))),λe3 ne3=>?_⟩;obtain⟨H5,zq,s5,he3⟩:=uG (o:=.lst (ts1++[.ref g])) ne3;rw[zq];have s35:=s4.trans s5;have s25:=s3.trans s35
   have lk:kvs.length<=900:=by
    rw[tb.len]
    have:=cy ((ds.take i).map (·.nm))
    rw[jF,jT]at this
    lia
   refine⟨_,rfl,_,rfl,p1,_,dx,fs,_,rfl,s25 _ _ ho,c.cl,c.n1,h5.nm,dp,_,rfl,DPut.k (k:=Sum.inr y.nm) (s25 _ _ hd2) (ay (by lia)),?_⟩;have kp5:KeepD H5 (upd H5 dp (.dK (bv kvs (Sum.inr y.nm) (.ref e3)))):=KeepD.put (s25 _ _ hd2);have hnew:LstIs a H5 (.ref e3) (occ (b6 x (ds.take i)) y.nm++[going x (ds.take i)]):=⟨e3,_,rfl,he3,(rw1.mono λv x z=>z.mono s35).snoc ⟨g,rfl,fg.mono s25⟩⟩;have tb6:=Tab.put (n:=y.nm) (tb3.mono λv x z=>(z.mono s35).keep kp5) (hnew.keep kp5);have s6:=aF (o:=.dK (bv kvs (Sum.inr y.nm) (.ref e3))) np (s2.trans s25);have hd6:upd H5 dp (.dK (bv kvs (Sum.inr y.nm) (.ref e3))) dp=some (.dK (bv kvs (Sum.inr y.nm) (.ref e3))):=ag;generalize upd H5 dp (.dK (bv kvs (Sum.inr y.nm) (.ref e3)))=H6 at kp5 tb6 s6 hd6⊢;have kp26:KeepD H2 H6:=(KeepD.of s25).trans kp5;have W6:=W.keep λb C dx fs _ e=>kp26 _ _ e (by intro _ z;cases z) (by intro _ _ z;cases z);obtain⟨dx6,fs6,ho6,h56,_⟩:=id W6.ob
   have fg6:FrAt a.Fraction H6 g (going x (ds.take i)):=by
    obtain⟨q',e',f'⟩:=FrIs.keep ⟨g,rfl,fg⟩ kp26
    cases e';exact f'
   obtain⟨b1,b2⟩:=hg y (jI ey);refine⟨_,rfl,p1,_,dx6,fs6,8,["self","amount"],spOut a y.kd,rfl,ho6,h56.ou,c.cl,by decide,out_any T y.kd,_,rfl,p1,g,y.nm,y.st,y.go,vh,vc,q1,y.x,_,rfl,W6,fg6,b1,hb i hi,b2,λr' H7 s7 f7=>?_⟩;refine⟨hi',_,_,_,_,r',_,rfl,s6.trans s7,(kp.trans kp26).trans (.of s7),?_,s7 _ _ hd6,?_⟩
   ·rw[jS,ey,j0,iZ];exact f7
   ·rw[jS,ey,j0,jM,lv,l9,fO,iT];refine(tb6.mono λv x z=>z.mono s7).congr λm _=>?_;rw[occ_snoc];unfold upf;by_cases e:m=y.nm
    ·rw[if_pos e,if_pos e.symm,e]
    ·rw[if_neg e,if_neg λz=>e z.symm]
  ·rintro σ H2⟨_,z6,z7,z8,z9,g,kvs,rfl,s2,kp,fg,hd2,tb⟩;rw[hv.1,jQ]at tb;exact⟨_,_,_,_,_,kvs,rfl,s2,hd2,tb⟩
 rintro zU hzU σ' H1⟨z5,z6,z7,z8,z9,kvs,rfl,s1,hd1,tb⟩;subst hzU;intro dq nq;have nqp:dq≠dp:=λz=>by rw[z,hd1]at nq;cases nq
 have s2:Same H1 (upd H1 dq (.dK [])):=aC nq;have hq2:upd H1 dq (.dK []) dq=some (.dK []):=ag;generalize upd H1 dq (.dK [])=H2 at s2 hq2⊢;have tb2:=tb.mono λv x z=>z.mono s2;have hd2:=s2 _ _ hd1;have ndk:=dR (ds.map (·.nm))
 have lkk:(a9 (ds.map (·.nm))).length<=900:=by
  have h1:=cy (ds.map (·.nm));have h2:=O.len;rw[jF]at h1
  lia
 generalize a9 (ds.map (·.nm))=ks at tb tb2 ndk lkk k;refine bM (λσ' H'=>∃z5 z6 z8 z9 kvq,σ'=[some (.ref p),some (.ref l),some (.ref q),some (.ref dp),z5,z6,some (.ref dq),z8,z9]/\Same H H'/\H' dq=some (.dK kvq)/\Tab (FrIs a) H' kvq ks (λn=>(occ (b6 x ds) n).sum)) ?_ ?_
 ·refine⟨dp,.dK kvs,hd2,(by intro o z e;cases e),_,rfl,dp,kvs,rfl,hd2,λo=>?_⟩
  refine dX (a:=dp) (o:=o) (kvs:=kvs) (λi σ H3=>i<=ks.length/\∃z5 z6 z8 z9 kvq,σ=[some (.ref p),some (.ref l),some (.ref q),some (.ref dp),z5,z6,some (.ref dq),z8,z9]/\H3 dp=some (.frz o (.dK kvs))/\Same H H3/\KeepD H2 H3/\H3 dq=some (.dK kvq)/\Tab (FrIs a) H3 kvq (ks.take i) (λn=>(occ (b6 x ds) n).sum))
   ⟨jU _,_,_,_,_,[],rfl,ag,aF np (s1.trans s2),KeepD.put hd2,by rw[ai nqp];exact hq2,Tab.nil⟩ ((by rintro i σ H2 _⟨_,_,_,_,_,_,_,h,_⟩;exact h)) ?_ ?_
  ·rintro i kv t σ H3 hkv nt⟨_,z5,z6,z8,z9,kvq,rfl,hf,s3,kp,hq3,tq⟩;obtain⟨n,en,e1,ev,vl⟩:=tb2.at_ ndk hkv;have hi:i<ks.length:=(jG.mp en).1;have ekv:kV kv.1=.str n:=by rw[e1];rfl
   obtain⟨le,ts,el,hl,rws⟩:=vl.keep kp;rw[ekv,el];obtain⟨H4,zq,s4,ht⟩:=uG (o:=.tup [.str n,.ref le]) nt;rw[zq];obtain⟨tk,nk⟩:=cz ndk en;refine⟨t,[.str n,.ref le],rfl,SqT.of ht,rfl,.str n,[.ref le],rfl,⟨.ref le,[],rfl,⟨rfl,?_⟩⟩⟩;obtain⟨N,bN,hN⟩:=hB n;refine⟨_,rfl,le,ts,_,N,rfl,SqL.of (s4 _ _ hl),rws.mono λv x z=>z.mono s4,bN,hN,λr H5 nr s5 f5=>?_⟩;have s45:=s4.trans s5
   have lq:kvq.length<=900:=by
    rw[tq.len,jT]
    lia
   refine⟨_,rfl,_,rfl,dq,_,rfl,DPut.k (k:=Sum.inr n) (s45 _ _ hq3) (ay (by lia)),?_⟩;have kp5:KeepD H5 (upd H5 dq (.dK (bv kvq (Sum.inr n) (.ref r)))):=KeepD.put (s45 _ _ hq3);refine⟨hi,_,_,_,_,_,rfl,by rw[ai nqp.symm];exact s45 _ _ hf,aF (s1.free nq) (s3.trans s45),(kp.trans (.of s45)).trans kp5,ag,?_⟩;rw[tk,<-fe nk];refine(Tab.put (n:=n) (tq.mono λv x z=>(z.mono s45).keep kp5) (y:=(occ (b6 x ds) n).sum) (FrIs.keep ⟨r,rfl,f5⟩ kp5)).congr λm _=>?_;unfold upf
   split
   ·rename_i e;rw[e]
   ·rfl
  ·rintro σ H3⟨_,z5,z6,z8,z9,kvq,rfl,hf,s3,kp,hq3,tq⟩;rw[tb.len,jQ]at tq;exact⟨o,hf,_,_,_,_,kvq,rfl,aF np s3,by rw[ai nqp];exact hq3,tq.mono λv x z=>z.keep (.frz hf)⟩
 rintro zU hzU σ' H3⟨z5,z6,z8,z9,kvq,rfl,s3,hq3,tq⟩;subst hzU;exact⟨_,rfl,dq,kvq,ks,_,rfl,hq3,tq,ndk,lkk,λr H4 kvr nr s4 hr4 tr=>k r H4 kvr (s3.free nr) (s3.trans s4) hr4 tr⟩
end
end G
namespace G
open PySem L2
section
noncomputable def NetOff(a:Ad)(H:Hp)(p d:Addr)(ps:List (Str×Rat))(ds:List WD):Prop:=∃H0,NetAt a H0 p ps ds/\Same H0 H/\H0 d=none
theorem NetOff.mono(h:NetOff a H p d ps ds)(s:Same H H'):NetOff a H' p d ps ds:=by
 obtain⟨H0,n,s0,e⟩:=h;exact⟨H0,n,s0.trans s,e⟩
theorem NetOff.at_(h:NetOff a H p d ps ds):NetAt a H p ps ds:=by
 obtain⟨_,n,s0,_⟩:=h;exact n.mono s0
theorem NetOff.but(h:NetOff a H p d ps ds)(k:∀b ob,H b=some ob->b≠d->H' b=some ob):NetOff a H' p d ps ds:=by
 obtain⟨H0,n,s0,e⟩:=h;exact⟨H0,n,λb ob x=>k b ob (s0 b ob x) (ar x e),e⟩
inductive IspNNames(a:Ad)(vs:List V)(H:Hp)(Q:VK):Prop
 |mk(p:Addr)(ps:List (Str×Rat))(ds:List WD)(h1:vs=[.ref p])(h2:NetAt a H p ps ds)(h3:∀l,H l=none->Q (.ref l) (upd H l (.lst (ps.map λx=>V.str x.1)))):IspNNames a vs H Q
noncomputable def spNNames(a:Ad):Sp:=λvs H Q _=>IspNNames a vs H Q
theorem ok_Net_names(T:TX K mg a):MtB P w K mg base CX0 a.Net "names" 1 ["self"] (spNNames a):=by
 refine T.m_Net_names.okA sc_Net_names λf cdv A outer s H vs Q E hr h=>?_;obtain⟨p,ps,ds,rfl,⟨dx,dw,dy,hp,⟨kvs,h1,h2,h3⟩,hy⟩,k⟩:=h;refine⟨_,(ah (ax (bj (cX hr.hd) (by rfl) T.z_list kK (aa (aH (pv 0) rfl) ae)))),?_⟩;walk_at"q"
 refine⟨_,rfl,p,_,dx,_,_,rfl,hp,T.cl_Net,T.na_Net_wants,fsN_w _ _,dw,kvs,rfl,.inl h1,λl nl=>?_⟩
 have e:(kvs.map λkv=>kV kv.1)=ps.map λx=>V.str x.1:=by
  have:=kA (List.map kV) h2
  rw[kO,kO]at this;exact this
 rw[e];exact k l nl
inductive IspNAll(a:Ad)(vs:List V)(H:Hp)(Q:VK):Prop
 |mk(p:Addr)(ps:List (Str×Rat))(ds:List WD)(h1:vs=[.ref p])(h2:NetAt a H p ps ds)(h3:∀l H' ts,H l=none->Same H H'->H' l=some (.lst ts)->RowAt (WayIs a) H' ts ds->Q (.ref l) H'):IspNAll a vs H Q
noncomputable def spNAll(a:Ad):Sp:=λvs H Q _=>IspNAll a vs H Q
theorem ok_Net_all_ways(T:TX K mg a):MtB P w K mg base CX0 a.Net "all_ways" 1 ["self"] (spNAll a):=by
 refine T.m_Net_all_ways.okA sc_Net_all_ways λf cdv A outer s H vs Q E hr h=>?_;obtain⟨p,ps,ds,rfl,⟨dx,dw,dy,hp,hw,⟨kvs,h1,h2,h3⟩⟩,k⟩:=h;refine⟨_,(ah (ax (bj (call_list_vals hr.hd) (by rfl) T.z_list kK (aa (pe_bm0 PySem.F.plainAttrs_dict PySem.F.slot_dict_values PySem.F.type_dict_values mt_values (aH (pv 0) rfl)) ae)))),?_⟩;walk_at"q"
 refine⟨_,rfl,p,_,dx,_,_,rfl,hp,T.cl_Net,T.na_Net_ways,fsN_y _ _,(.inr (.inr (.inl ⟨rfl,.inl ⟨kvs,h1⟩⟩))),dy,kvs,rfl,rfl,.inl h1,λv nv=>?_⟩;have s1:=aC (o:=ViewO v dy) nv;refine⟨v,dy,kvs,rfl,ag,.inl (s1 _ _ h1),λl nl=>?_⟩;have s2:=s1.trans (aC (o:=.lst (kvs.map (·.2))) nl);exact k l _ _ (s1.free nl) s2 ag (h3.mono λv x z=>z.mono s2)
noncomputable def aS(ks:List Str)(f:Str->Rat)(n:Str):Rat:=if n∈ks then f n else 0
inductive IspAmount(a:Ad)(vs:List V)(H:Hp)(Q:VK):Prop
 |mk(d:Addr)(kvs:List (Key×V))(ks:List Str)(f:Str->Rat)(n:Str)(h1:vs=[.ref d,.str n])(h2:Rd H d (.dK kvs))(h3:Tab (FrIs a) H kvs ks f)(h4:∀q H',Same H H'->FrAt a.Fraction H' q (aS ks f n)->Q (.ref q) H'):IspAmount a vs H Q
noncomputable def spAmount(a:Ad):Sp:=λvs H Q _=>IspAmount a vs H Q
theorem ok_amount(T:TX K mg a):FnB P w K mg base CX0 "amount" 5 ["plan","name"] (spAmount a):=by
 refine T.d_amount.okA sc_amount λf cdv A outer s H vs Q E hr h=>?_;obtain⟨d,kvs,ks,f,n,rfl,hd,tb,k⟩:=h;refine⟨_,(ah (ax (gf (aJ hr) (pv 0) (pv 1) (bD (mk1 T) hr T.mg_Fraction aq (aa ab ae)) ⟨rfl,rfl,rfl,rfl⟩))),?_⟩;walk_at"q"
 refine⟨_,rfl,d,rfl,.inl ⟨kvs,hd⟩,_,rfl,0,1,rfl,by decide,sm1,λz H1 nz s1 f1=>?_⟩;have hd1:Rd H1 d (.dK kvs):=hd.imp (λh=>s1 _ _ h) (by rintro⟨o,h⟩;exact⟨o,s1 _ _ h⟩);refine⟨bI kvs (Sum.inr n),.inl ⟨kvs,Sum.inr n,hd1,rfl,rfl⟩,?_⟩;unfold aS at k;by_cases hn:n∈ks
 ·obtain⟨v,ev,q,rfl,fq⟩:=tb.vals n hn;rw[ev];rw[if_pos hn]at k;exact k q H1 s1 (fq.mono s1)
 ·rw[tb.none hn];rw[if_neg hn]at k;rw[Rat.zero_divInt]at f1;exact k z H1 s1 f1
noncomputable def sumStep(A:Str->Rat)(F:Str->Rat)(d:WD):Str->Rat:=upf (upf F d.st (F d.st-A d.nm)) d.go (F d.go+A d.nm*aD d.kd d.x)
noncomputable def aZ(A:Str->Rat)(ds:List WD):Str->Rat:=ds.foldl (sumStep A) (λ_=>0)
theorem dS(A:Str->Rat)(ds:List WD)(d:WD):aZ A (ds++[d])=sumStep A (aZ A ds) d:=by unfold aZ;rw[lL];rfl
structure SumOk(A:Str->Rat)(ps:List (Str×Rat))(ds:List WD):Prop where
 np:(ps.map (·.1)).Nodup
 lp:ps.length<=900
 io:∀d∈ds,d.st∈ps.map (·.1)/\d.go∈ps.map (·.1)
 ne:∀d∈ds,d.st≠d.go
 sx:∀d∈ds,SmR d.x/\SmR (aD d.kd d.x)
 sa:∀d∈ds,SmR (A d.nm)/\SmR (A d.nm*aD d.kd d.x)
 sf:∀i s,SmR (aZ A (ds.take i) s)
inductive IspSumsOwn(a:Ad)(vs:List V)(H:Hp)(Q:VK):Prop
 |mk(p d:Addr)(ps:List (Str×Rat))(ds:List WD)(kvs:List (Key×V))(ks:List Str)(f:Str->Rat)(h1:vs=[.ref p,.ref d])(h2:NetAt a H p ps ds)(h3:H d=some (.dK kvs))(h4:Tab (FrIs a) H kvs ks f)(h5:SumOk (aS ks f) ps ds)(h6:∀r H' kvr,H r=none->Same H H'->H' r=some (.dK kvr)->Tab (FrIs a) H' kvr (ps.map (·.1)) (aZ (aS ks f) ds)->Q (.ref r) H'):IspSumsOwn a vs H Q
noncomputable def spSumsOwn(a:Ad):Sp:=λvs H Q _=>IspSumsOwn a vs H Q
theorem iz(T:TX K mg a):FnB P w K mg base CX0 "sums_of_own_ways" 9 ["net","plan"] (spSumsOwn a):=by
 refine T.d_sums_of_own_ways.okA sc_sums_of_own_ways λf cdv A outer s H vs Q E hr h=>?_;obtain⟨p,d,ps,ds,kvs,ks,f,rfl,hn,hd,tb,ok,k⟩:=h
 refine⟨_,(af (aj (i:=2) sc_sums_of_own_ways.nd bK)
  (aE (aQ jR rfl (a5 (pe_mtD0 (CX:=CX0) (pv 0) hr aq)) (aw (i:=3) sc_sums_of_own_ways.nd) (ah (bB (aJ hr) (pv 2) (pv 3) (bD (mk1 T) hr T.mg_Fraction aq (aa ab ae)) rfl)))
  (af (aQ jR rfl (a5 (pe_mtD0 (CX:=CX0) (pv 0) hr aq)) (aw (i:=4) sc_sums_of_own_ways.nd) (af (aj (i:=5) sc_sums_of_own_ways.nd (az (ok_amount T) hr aq (aa (pv 1) (aa (aH (pv 4) rfl) ae))))
  (af (bB (aJ hr) (pv 2) (aH (pv 4) rfl) (b7 T.fr (aV (aJ hr) (pv 2) (aH (pv 4) rfl) (λ_ _=>rfl)) (eR T) hr aq (aa (pv 5) ae)) rfl)
  (ah (bB (aJ hr) (pv 2) (aH (pv 4) rfl) (b7 T.fr (aV (aJ hr) (pv 2) (aH (pv 4) rfl) (λ_ _=>rfl)) (ok_plus T) hr aq (aa (cJ (CX:=CX0) (pv 4) hr aq (aa (pv 5) ae)) ae)) rfl)))))
  (ah (ax (pv 2)))))),?_⟩
 walk_at"q"
 intro r nr;have s0:Same H (upd H r (.dK [])):=aC nr;have hr0:upd H r (.dK []) r=some (.dK []):=ag;generalize upd H r (.dK [])=H0 at s0 hr0⊢;refine bM (λσ' H'=>∃z3 z4 z5 kvr,σ'=[some (.ref p),some (.ref d),some (.ref r),z3,z4,z5]/\Same H H'/\H' r=some (.dK kvr)/\Tab (FrIs a) H' kvr (ps.map (·.1)) (λ_=>0)) ?_ ?_
 ·obtain⟨dx,dw,dy,hp,hw,hy⟩:=hn.mono s0;refine⟨_,rfl,p,a.Net,dx,_,1,["self"],spNNames a,rfl,hp,hX _ _ (by decide+kernel) (by decide+kernel),T.cl_Net,by decide,ok_Net_names T,p,ps,ds,rfl,⟨dx,dw,dy,hp,hw,hy⟩,λl nl=>?_⟩;obtain⟨H1,zq,s1,hl⟩:=uG (o:=.lst (ps.map λx=>V.str x.1)) nl;rw[zq];have lr:l≠r:=λz=>by rw[z,hr0]at nl;cases nl
  refine⟨l,rfl,⟨_,SqL.of hl⟩,ba (K:=K) (a:=l) (xs:=ps.map λx=>V.str x.1) (λi σ H2=>i<=ps.length/\∃z3 z4 z5 kvr,σ=[some (.ref p),some (.ref d),some (.ref r),z3,z4,z5]/\Same H H2/\H2 l=some (.lst (ps.map λx=>V.str x.1))/\H2 r=some (.dK kvr)/\Tab (FrIs a) H2 kvr ((ps.map (·.1)).take i) (λ_=>0))
   ⟨jU _,_,_,_,[],rfl,s0.trans s1,hl,s1 _ _ hr0,Tab.nil⟩ ((by rintro i σ H2 _⟨_,_,_,_,_,_,_,h,_⟩;exact SqL.of h)) ?_ ?_⟩
  ·rintro i t σ H2 ht⟨hi,z3,z4,z5,kvr,rfl,s2,hl2,hr2,tr⟩;rw[jK]at ht
   cases ex:ps[i]? with
   |none=>rw[ex]at ht;cases ht
   |some x=>
    rw[ex]at ht
    cases ht;have hi':=(jG.mp ex).1;have en:(ps.map (·.1))[i]?=some x.1:=by rw[jK,ex];rfl
    obtain⟨tk,nk⟩:=cz ok.np en;refine⟨0,1,rfl,by decide,sm1,λz H3 nz s3 f3=>?_⟩;rw[Rat.zero_divInt]at f3
    have lk:kvr.length<=900:=by
     rw[tr.len,jT,jF]
     have:=ok.lp
     lia
    refine⟨_,rfl,_,rfl,r,_,rfl,DPut.k (k:=Sum.inr x.1) (s3 _ _ hr2) (ay (by lia)),?_⟩;have kp:KeepD H3 (upd H3 r (.dK (bv kvr (Sum.inr x.1) (.ref z)))):=KeepD.put (s3 _ _ hr2);refine⟨hi',_,_,_,_,rfl,aF nr (s2.trans s3),by rw[ai lr];exact s3 _ _ hl2,ag,?_⟩;rw[tk,<-fe nk];refine(Tab.put (n:=x.1) (tr.mono λv x z=>(z.mono s3).keep kp) (y:=0) (FrIs.keep ⟨z,rfl,f3⟩ kp)).congr λm _=>?_;unfold upf
    split<;>rfl
  ·rintro σ H2⟨_,z3,z4,z5,kvr,rfl,s2,hl2,hr2,tr⟩;rw[jF]at tr;rw[show ps.length=(ps.map (·.1)).length by rw[jF],jQ]at tr;exact⟨_,_,_,kvr,rfl,s2,hr2,tr⟩
 rintro zU hzU σ' H1⟨z3,z4,z5,kvr,rfl,s1,hr1,tr⟩;obtain⟨dx,dw,dy,hp,hw,hy⟩:=hn.mono s1;subst hzU;refine⟨_,rfl,p,a.Net,dx,_,1,["self"],spNAll a,rfl,hp,hX _ _ (by decide+kernel) (by decide+kernel),T.cl_Net,by decide,ok_Net_all_ways T,p,ps,ds,rfl,⟨dx,dw,dy,hp,hw,hy⟩,λl H2 ts nl s2 hl2 hv=>?_⟩
 refine⟨l,rfl,⟨_,SqL.of hl2⟩,ba (K:=K) (a:=l) (xs:=ts) (λi σ H3=>i<=ds.length/\∃z3 z4 z5 kvr,σ=[some (.ref p),some (.ref d),some (.ref r),z3,z4,z5]/\Same H H3/\KeepD H2 H3/\H3 r=some (.dK kvr)/\Tab (FrIs a) H3 kvr (ps.map (·.1)) (aZ (aS ks f) (ds.take i)))
  ⟨jU _,_,_,_,kvr,rfl,s1.trans s2,.of (Same.refl _),s2 _ _ hr1,tr.mono λv x z=>z.mono s2⟩ ((by rintro i σ H3 _⟨_,_,_,_,_,_,_,kp,_⟩;exact SqL.of (kp _ _ hl2 (by intro _ z;cases z) (by intro _ _ z;cases z)))) ?_ ?_⟩
 ·rintro i t σ H3 ht⟨hi,z3,z4,z5,kvr,rfl,s3,kp,hr3,tr3⟩;obtain⟨y,ey,wy⟩:=hv.get ht;have hi':=(jG.mp ey).1;have my:=jI ey;have wy3:WayIs a H3 t y:=wy.keep λb C dx fs _ e=>kp _ _ e (by intro _ z;cases z) (by intro _ _ z;cases z);obtain⟨p1,vh,vc,q1,rfl,W,hk⟩:=wy3;obtain⟨dx1,fs1,ho,h5,_⟩:=id W.ob;have c:=bV T y.kd;obtain⟨i1,i2⟩:=ok.io y my;obtain⟨a1,a2⟩:=ok.sa y my;obtain⟨x1,x2⟩:=ok.sx y my;have hne:=ok.ne y my
  have lk:kvr.length<=900:=by
   rw[tr3.len,jF];exact ok.lp
  refine⟨_,rfl,_,rfl,p1,_,dx1,fs1,_,rfl,ho,c.cl,c.n1,h5.nm,d,kvs,ks,f,y.nm,rfl,.inl (s3 _ _ hd),tb.mono (λv x z=>z.mono s3),λq H4 s4 f4=>?_⟩;have ho4:=s4 _ _ ho;obtain⟨v1,ev1,r1,rfl,fr1⟩:=(tr3.mono λv x z=>z.mono s4).vals _ i1;refine⟨_,rfl,_,rfl,p1,_,dx1,fs1,_,rfl,ho4,c.cl,c.n2,h5.st,r,_,rfl,.inl ⟨kvr,Sum.inr y.st,.inl (s4 _ _ hr3),rfl,ev1.symm⟩,r1,_,rfl,fr1,_,rfl,r1,q,_,_,rfl,fr1,f4,ok.sf i _,a1,True.intro,λr2 H5 nr2 s5 f5=>?_⟩;have s45:=s4.trans s5;refine⟨_,rfl,_,rfl,p1,_,dx1,fs1,_,rfl,s45 _ _ ho,c.cl,c.n2,h5.st,r,_,rfl,DPut.k (k:=Sum.inr y.st) (s45 _ _ hr3) (ay (by lia)),?_⟩;have kp5:KeepD H5 (upd H5 r (.dK (bv kvr (Sum.inr y.st) (.ref r2)))):=KeepD.put (s45 _ _ hr3);have tr6:=Tab.put (n:=y.st) (tr3.mono λv x z=>(z.mono s45).keep kp5) (FrIs.keep ⟨r2,rfl,f5⟩ kp5);have s6:=aF (o:=.dK (bv kvr (Sum.inr y.st) (.ref r2))) nr (s3.trans s45);have hr6:upd H5 r (.dK (bv kvr (Sum.inr y.st) (.ref r2))) r=some (.dK (bv kvr (Sum.inr y.st) (.ref r2))):=ag;have lk6:(bv kvr (Sum.inr y.st:Key) (.ref r2)).length<=901:=jV (hV _ _ _) (by lia);generalize bv kvr (Sum.inr y.st) (.ref r2)=kv6 at kp5 tr6 s6 hr6 lk6⊢;generalize upd H5 r (.dK kv6)=H6 at kp5 tr6 s6 hr6⊢;rw[show addK (ps.map (·.1)) y.st=ps.map (·.1) from if_pos i1]at tr6;have kp36:KeepD H3 H6:=(KeepD.of s45).trans kp5;have W6:=W.keep λb C dx fs _ e=>kp36 _ _ e (by intro _ z;cases z) (by intro _ _ z;cases z);obtain⟨dx6,fs6,ho6,h56,_⟩:=id W6.ob;obtain⟨q6,e6,f6⟩:=FrIs.keep ⟨q,rfl,f4⟩ ((KeepD.of s5).trans kp5)
  cases e6;obtain⟨v7,ev7,r7,rfl,fr7⟩:=tr6.vals _ i2;rw[iS (Ne.symm hne)]at fr7;refine⟨_,rfl,_,rfl,p1,_,dx6,fs6,_,rfl,ho6,c.cl,c.n3,h56.go,r,_,rfl,.inl ⟨_,Sum.inr y.go,.inl hr6,rfl,ev7.symm⟩,r7,_,rfl,fr7,_,rfl,p1,_,dx6,fs6,8,["self","amount"],spOut a y.kd,rfl,ho6,h56.ou,c.cl,by decide,out_any T y.kd,_,rfl,p1,q,y.nm,y.st,y.go,vh,vc,q1,y.x,_,rfl,W6,f6,x1,a1,x2,λr8 H7 s7 f7=>?_⟩;refine⟨r7,r8,_,_,rfl,fr7.mono s7,f7,ok.sf i _,a2,True.intro,λr9 H8 nr9 s8 f8=>?_⟩;have s78:=s7.trans s8;refine⟨_,rfl,_,rfl,p1,_,dx6,fs6,_,rfl,s78 _ _ ho6,c.cl,c.n3,h56.go,r,_,rfl,DPut.k (k:=Sum.inr y.go) (s78 _ _ hr6) (ay (by lia)),?_⟩;have kp8:KeepD H8 (upd H8 r (.dK (bv kv6 (Sum.inr y.go) (.ref r9)))):=KeepD.put (s78 _ _ hr6);have tr9:=Tab.put (n:=y.go) (tr6.mono λv x z=>(z.mono s78).keep kp8) (FrIs.keep ⟨r9,rfl,f8⟩ kp8);rw[show addK (ps.map (·.1)) y.go=ps.map (·.1) from if_pos i2]at tr9;refine⟨hi',_,_,_,_,rfl,aF nr (s6.trans s78),((kp.trans kp36).trans (.of s78)).trans kp8,ag,?_⟩;rw[jS,ey,j0,dS];exact tr9
 ·rintro σ H3⟨_,z3,z4,z5,kvr,rfl,s3,kp,hr3,tr3⟩;rw[hv.1,jQ]at tr3;exact⟨_,rfl,k r H3 kvr nr s3 hr3 tr3⟩
inductive IspRefO(a:Ad)(vs:List V)(H:Hp)(Q:VK):Prop
 |mk(p d:Addr)(ps:List (Str×Rat))(ds:List WD)(kvs:List (Key×V))(ks:List Str)(f:Str->Rat)(h1:vs=[.ref p,.ref d])(h2:NetOff a H p d ps ds)(h3:(ds.map (·.nm)).Nodup)(h4:H d=some (.dK kvs))(h5:Tab (FrIs a) H kvs ks f)(h6:ks.Nodup)(h7:(∀n∈ks,n∈ds.map (·.nm)))(h8:∀H',Same H H'->Q .non H'):IspRefO a vs H Q
noncomputable def spRefO(a:Ad):Sp:=λvs H Q _=>IspRefO a vs H Q
theorem gS(T:TX K mg a):FnB P w K mg base CX0 "refuse_other_names" 2 ["net","plan"] (spRefO a):=by
 refine T.d_refuse_other_names.okA sc_refuse_other_names λf cdv A outer s H vs Q E hr h=>?_;obtain⟨p,d,ps,ds,kvs,ks,f,rfl,hn,nd,hd,tb,ndk,sub,k⟩:=h;refine⟨_,(ah (cB (aQ jR rfl (dO (pv 1)) (aw (i:=2) sc_refuse_other_names.nd) (ah (aT (cJ (CX:=CX0) (pv 0) hr aq (aa (pv 2) ae))))))),?_⟩;walk_at"q"
 refine⟨d,.dK kvs,hd,(by intro o z e;cases e),_,rfl,d,kvs,rfl,hd,λo=>?_⟩
 refine e9 (a:=d) (o:=o) (kvs:=kvs) (λi σ H2=>∃z,σ=[some (.ref p),some (.ref d),z]/\H2 d=some (.frz o (.dK kvs))/\∀b ob,H b=some ob->b≠d->H2 b=some ob)
  ⟨_,rfl,ag,λb ob e ne=>by rw[ai ne];exact e⟩ ((by rintro i σ H2 _⟨_,_,h,_⟩;exact h)) ?_ ?_
 ·rintro i kv σ H2 hkv⟨z,rfl,hf,k2⟩;obtain⟨n,en,e1,ev,_⟩:=tb.at_ ndk hkv;have ekv:kV kv.1=.str n:=by rw[e1];rfl
  rw[ekv];obtain⟨y,my,rfl⟩:=jL.mp (sub n (jI en));obtain⟨dx,dw,dy,hp,hw,hy⟩:=(hn.but k2).at_;refine⟨_,rfl,p,a.Net,dx,_,1,["self","name"],d9 a,rfl,hp,hX _ _ (by decide+kernel) (by decide+kernel),T.cl_Net,by decide,c9 T,_,rfl,p,ps,ds,y,rfl,⟨dx,dw,dy,hp,hw,hy⟩,nd,my,λv _=>?_⟩;exact⟨_,rfl,hf,k2⟩
 ·rintro σ H2⟨z,rfl,hf,k2⟩;refine⟨o,hf,k _ λb ob e=>?_⟩;by_cases hb:b=d
  ·subst hb;rw[ag,<-hd,e]
  ·rw[ai hb];exact k2 _ _ e hb
inductive IspSums(a:Ad)(vs:List V)(H:Hp)(Q:VK):Prop
 |mk(p d:Addr)(ps:List (Str×Rat))(ds:List WD)(kvs:List (Key×V))(ks:List Str)(f:Str->Rat)(h1:vs=[.ref p,.ref d])(h2:NetOff a H p d ps ds)(h3:(ds.map (·.nm)).Nodup)(h4:H d=some (.dK kvs))(h5:Tab (FrIs a) H kvs ks f)(h6:ks.Nodup)(h7:(∀n∈ks,n∈ds.map (·.nm)))(h8:SumOk (aS ks f) ps ds)(h9:∀r H' kvr,H r=none->Same H H'->H' r=some (.dK kvr)->Tab (FrIs a) H' kvr (ps.map (·.1)) (aZ (aS ks f) ds)->Q (.ref r) H'):IspSums a vs H Q
noncomputable def spSums(a:Ad):Sp:=λvs H Q _=>IspSums a vs H Q
theorem ok_sums(T:TX K mg a):FnB P w K mg base CX0 "sums" 10 ["net","plan"] (spSums a):=by
 refine T.d_sums.okA sc_sums λf cdv A outer s H vs Q E hr h=>?_;obtain⟨p,d,ps,ds,kvs,ks,f,rfl,hn,nd,hd,tb,ndk,sub,ok,k⟩:=h
 refine⟨_,(af (aT (az (gS T) hr aq (aa (pv 0) (aa (pv 1) ae))))
  (ah (ax (az (iz T) hr aq (aa (pv 0) (aa (pv 1) ae)))))),?_⟩
 walk_at"q"
 refine⟨_,rfl,_,rfl,p,d,ps,ds,kvs,ks,f,rfl,hn,nd,hd,tb,ndk,sub,λH1 s1=>?_⟩;exact⟨_,rfl,_,rfl,p,d,ps,ds,kvs,ks,f,rfl,(hn.mono s1).at_,s1 _ _ hd,tb.mono (λv x z=>z.mono s1),ok,λr H2 kvr nr s2 hr2 tr=>k r H2 kvr (s1.free nr) (s1.trans s2) hr2 tr⟩
end
end G
namespace G
open PySem L2
section
inductive IspScaled(a:Ad)(vs:List V)(H:Hp)(Q:VK):Prop
 |mk(d q:Addr)(kvs:List (Key×V))(ks:List Str)(f:Str->Rat)(y:Rat)(h1:vs=[.ref d,.ref q])(h2:H d=some (.dK kvs))(h3:Tab (FrIs a) H kvs ks f)(h4:ks.Nodup)(h5:ks.length<=900)(h6:FrAt a.Fraction H q y)(h7:SmR y)(h8:(∀n∈ks,SmR (f n)))(h9:∀r H' kvs',H r=none->Same H H'->H' r=some (.dK kvs')->Tab (FrIs a) H' kvs' (dL (λn=>f n*y) ks) (λn=>f n*y)->Q (.ref r) H'):IspScaled a vs H Q
noncomputable def spScaled(a:Ad):Sp:=λvs H Q _=>IspScaled a vs H Q
theorem ok_scaled(T:TX K mg a):FnB P w K mg base CX0 "scaled" 6 ["plan","number"] (spScaled a):=by
 refine T.d_scaled.okA sc_scaled λf cdv A outer s H vs Q E hr h=>?_;obtain⟨d,q,kvs,ks,f,y,rfl,hd,tb,nd,hl,fq,sy,sf,k⟩:=h
 refine⟨_,(af (aj (i:=2) sc_scaled.nd bK)
  (aE (cB (aQ jR rfl (eO (pv 0)) (gB (n:=2) rfl (bu (aw (i:=3) sc_scaled.nd) (bu (aw (i:=4) sc_scaled.nd) dP))) (ah (bB (aJ hr) (pv 2) (pv 3) (b7 T.fr (pv 4) (gm T) hr aq (aa (pv 1) ae)) rfl))))
  (ah (ax (az (cg T) hr aq (aa (pv 2) ae)))))),?_⟩
 walk_at"q"
 intro r nr;have s0:Same H (upd H r (.dK [])):=aC nr;have hd0:=s0 _ _ hd;have hr0:upd H r (.dK []) r=some (.dK []):=ag;have tb0:=tb.mono λv x z=>z.mono s0;have fq0:=fq.mono s0;generalize upd H r (.dK [])=H0 at s0 hd0 hr0 tb0 fq0⊢;have ndr:d≠r:=λz=>by rw[z,nr]at hd;cases hd
 refine bM (λσ' H'=>∃z3 z4 kvr,σ'=[some (.ref d),some (.ref q),some (.ref r),z3,z4]/\Same H H'/\H' r=some (.dK kvr)/\Tab (FrIs a) H' kvr ks (λn=>f n*y)) ?_ ?_
 ·refine⟨d,.dK kvs,hd0,(by intro o z e;cases e),_,rfl,d,kvs,rfl,hd0,λo=>?_⟩
  refine dX (a:=d) (o:=o) (kvs:=kvs) (λi σ H2=>i<=ks.length/\∃z3 z4 kv2,σ=[some (.ref d),some (.ref q),some (.ref r),z3,z4]/\H2 d=some (.frz o (.dK kvs))/\(∀b ob,H b=some ob->b≠d->H2 b=some ob)/\KeepD H0 H2/\H2 r=some (.dK kv2)/\Tab (FrIs a) H2 kv2 (ks.take i) (λn=>f n*y))
   ⟨jU _,_,_,[],rfl,ag,(λb ob e ne=>by rw[ai ne];exact s0 _ _ e),KeepD.put hd0,by rw[ai ndr.symm];exact hr0,Tab.nil⟩ ((by rintro i σ H2 _⟨_,_,_,_,_,h,_⟩;exact h)) ?_ ?_
  ·rintro i kv t σ H2 hkv nt⟨_,z3,z4,kv2,rfl,hf,k2,kp,hr2,tb2⟩;obtain⟨n,en,e1,ev,p,ep,fp⟩:=tb0.at_ nd hkv;have hi:i<ks.length:=(jG.mp en).1;have ekv:kV kv.1=.str n:=by rw[e1];rfl
   rw[ekv,ep];obtain⟨H3,zq,s3,ht⟩:=uG (o:=.tup [.str n,.ref p]) nt;rw[zq];have kp3:=kp.trans (.of s3);obtain⟨p',e',fp3⟩:=FrIs.keep ⟨p,rfl,fp⟩ kp3
   cases e';obtain⟨q',e',fq3⟩:=FrIs.keep ⟨q,rfl,fq0⟩ kp3
   cases e';obtain⟨tk,nk⟩:=cz nd en;refine⟨t,[.str n,.ref p],rfl,SqT.of ht,rfl,.str n,[.ref p],rfl,⟨.ref p,[],rfl,⟨rfl,?_⟩⟩⟩;refine⟨_,rfl,p,_,rfl,fp3,_,rfl,p,q,_,_,rfl,fp3,fq3,sf n (jI en),sy,True.intro,λz H4 nz s4 f4=>?_⟩;have s34:=s3.trans s4
   have ls:kv2.length<=900:=by
    rw[tb2.len,jT]
    lia
   refine⟨_,rfl,_,rfl,r,_,rfl,DPut.k (k:=Sum.inr n) (s34 _ _ hr2) (ay (by lia)),?_⟩;have kp4:KeepD H4 (upd H4 r (.dK (bv kv2 (Sum.inr n) (.ref z)))):=KeepD.put (s34 _ _ hr2);refine⟨hi,_,_,_,rfl,by rw[ai ndr];exact s34 _ _ hf,(λb ob e ne=>?_),(kp3.trans (.of s4)).trans kp4,ag,?_⟩
   ·rw[ai (ar e nr)];exact s34 _ _ (k2 _ _ e ne)
   ·rw[tk,<-fe nk];refine(Tab.put (n:=n) (tb2.mono λv x z=>(z.mono s34).keep kp4) (y:=f n*y) (FrIs.keep ⟨z,rfl,f4⟩ kp4)).congr λm _=>?_;unfold upf
    split
    ·rename_i e;rw[e]
    ·rfl
  ·rintro σ H2⟨_,z3,z4,kv2,rfl,hf,k2,kp,hr2,tb2⟩;rw[tb.len,jQ]at tb2;refine⟨o,hf,_,_,kv2,rfl,(λb ob e=>?_),by rw[ai ndr.symm];exact hr2,tb2.mono λv x z=>z.keep (.frz hf)⟩;by_cases hb:b=d
   ·subst hb;rw[ag,<-hd,e]
   ·rw[ai hb];exact k2 _ _ e hb
 rintro zU hzU σ' H1⟨z3,z4,kvr,rfl,s1,hr1,tr⟩;subst hzU;exact⟨_,rfl,r,kvr,ks,_,rfl,hr1,tr,nd,hl,λz H2 kvz nz s2 hz2 tz=>k z H2 kvz (s1.free nz) (s1.trans s2) hz2 tz⟩
noncomputable def sumA(ks1:List Str)(f1:Str->Rat)(ks2:List Str)(f2:Str->Rat)(n:Str):Rat:=aS ks1 f1 n+aS ks2 f2 n
noncomputable def dM(ks1 ks2:List Str):List Str:=ks2.foldl addK ks1
theorem bothK_snoc(ks1 ks2:List Str)(n:Str):dM ks1 (ks2++[n])=addK (dM ks1 ks2) n:=by unfold dM;rw[lL];rfl
theorem mem_bothK:n∈dM ks1 ks2↔n∈ks1∨n∈ks2:=mem_fold
inductive IspTogether(a:Ad)(vs:List V)(H:Hp)(Q:VK):Prop
 |mk(d e:Addr)(kv1 kv2:List (Key×V))(ks1 ks2:List Str)(f1 f2:Str->Rat)(h1:vs=[.ref d,.ref e])(h2:H d=some (.dK kv1))(h3:Tab (FrIs a) H kv1 ks1 f1)(h4:ks1.Nodup)(h5:H e=some (.dK kv2))(h6:Tab (FrIs a) H kv2 ks2 f2)(h7:ks2.Nodup)(h8:ks1.length+ks2.length<=900)(h9:(∀n∈ks2,SmR (aS ks1 f1 n)/\SmR (f2 n)))(h10:∀r H' kvs',H r=none->Same H H'->H' r=some (.dK kvs')->Tab (FrIs a) H' kvs' (dL (sumA ks1 f1 ks2 f2) (dM ks1 ks2)) (sumA ks1 f1 ks2 f2)->Q (.ref r) H'):IspTogether a vs H Q
noncomputable def spTogether(a:Ad):Sp:=λvs H Q _=>IspTogether a vs H Q
theorem ok_together(T:TX K mg a):FnB P w K mg base CX0 "together" 6 ["one","other"] (spTogether a):=by
 refine T.d_together.okA sc_together λf cdv A outer s H vs Q E hr h=>?_;obtain⟨d,e,kv1,kv2,ks1,ks2,f1,f2,rfl,hd,t1,n1,he,t2,n2,hl,sm,k⟩:=h
 refine⟨_,(af (aj (i:=2) sc_together.nd (bj ia (by rfl) T.z_dict PyProof.Rows.boot_dict (aa (pv 0) ae)))
  (aE (cB (aQ jR rfl (eO (pv 1)) (gB (n:=2) rfl (bu (aw (i:=3) sc_together.nd) (bu (aw (i:=4) sc_together.nd) dP))) (ah (bB (aJ hr) (pv 2) (pv 3) (b7 T.fr (az (ok_amount T) hr aq (aa (pv 2) (aa (pv 3) ae))) (ok_plus T) hr aq (aa (pv 4) ae)) rfl))))
  (ah (ax (az (cg T) hr aq (aa (pv 2) ae)))))),?_⟩
 walk_at"q"
 generalize hk9:iy _ _=k9
 revert k9
 refine fP λk9 hk9=>?_;refine⟨_,rfl,d,kv1,rfl,.inl hd,λr nr=>?_⟩;have s0:Same H (upd H r (.dK kv1)):=aC nr;have he0:=s0 _ _ he;have hr0:upd H r (.dK kv1) r=some (.dK kv1):=ag;have t10:=t1.mono λv x z=>z.mono s0;have t20:=t2.mono λv x z=>z.mono s0;generalize upd H r (.dK kv1)=H0 at s0 he0 hr0 t10 t20⊢;have ner:e≠r:=λz=>by rw[z,nr]at he;cases he
 have lb:∀i,(dM ks1 (ks2.take i)).length<=900:=λi=>by
  have h1:=len_fold (ns:=ks2.take i) (ks:=ks1);rw[jT]at h1;show(List.foldl addK ks1 (ks2.take i)).length<=900
  lia
 subst hk9;refine bM (λσ' H'=>∃z3 z4 kvr,σ'=[some (.ref d),some (.ref e),some (.ref r),z3,z4]/\Same H H'/\H' r=some (.dK kvr)/\Tab (FrIs a) H' kvr (dM ks1 ks2) (sumA ks1 f1 ks2 f2)) ?_ ?_
 ·refine⟨e,.dK kv2,he0,(by intro o z e;cases e),_,rfl,e,kv2,rfl,he0,λo=>?_⟩
  have base0:Tab (FrIs a) H0 kv1 (dM ks1 []) (sumA ks1 f1 [] f2):=t10.congr λn hn=>by
   unfold sumA aS;rw[if_pos hn,if_neg j9];grind
  refine dX (a:=e) (o:=o) (kvs:=kv2) (λi σ H2=>i<=ks2.length/\∃z3 z4 kvr,σ=[some (.ref d),some (.ref e),some (.ref r),z3,z4]/\H2 e=some (.frz o (.dK kv2))/\(∀b ob,H b=some ob->b≠e->H2 b=some ob)/\KeepD H0 H2/\H2 r=some (.dK kvr)/\Tab (FrIs a) H2 kvr (dM ks1 (ks2.take i)) (sumA ks1 f1 (ks2.take i) f2))
   ⟨jU _,_,_,kv1,rfl,ag,(λb ob e ne=>by rw[ai ne];exact s0 _ _ e),KeepD.put he0,by rw[ai ner.symm];exact hr0,base0.mono λv x z=>z.keep (.put he0)⟩ ((by rintro i σ H2 _⟨_,_,_,_,_,h,_⟩;exact h)) ?_ ?_
  ·rintro i kv t σ H2 hkv nt⟨_,z3,z4,kvr,rfl,hf,k2,kp,hr2,tb2⟩;obtain⟨n,en,e1,ev,p,ep,fp⟩:=t20.at_ n2 hkv;have hi:i<ks2.length:=(jG.mp en).1;have ekv:kV kv.1=.str n:=by rw[e1];rfl
   rw[ekv,ep];obtain⟨H3,zq,s3,ht⟩:=uG (o:=.tup [.str n,.ref p]) nt;rw[zq];have kp3:=kp.trans (.of s3);obtain⟨p',e',fp3⟩:=FrIs.keep ⟨p,rfl,fp⟩ kp3
   cases e';obtain⟨tk,nk⟩:=cz n2 en;obtain⟨sm1,sm2⟩:=sm n (jI en);refine⟨t,[.str n,.ref p],rfl,SqT.of ht,rfl,.str n,[.ref p],rfl,⟨.ref p,[],rfl,⟨rfl,?_⟩⟩⟩
   have eA:aS (dM ks1 (ks2.take i)) (sumA ks1 f1 (ks2.take i) f2) n=aS ks1 f1 n:=by
    unfold aS sumA aS;rw[if_neg nk];by_cases h1:n∈ks1
    ·rw[if_pos (mem_bothK.mpr (.inl h1)),if_pos h1];grind
    ·rw[if_neg (λz=>(mem_bothK.mp z).elim h1 nk),if_neg h1]
   refine⟨_,rfl,_,rfl,r,kvr,_,_,n,rfl,.inl (s3 _ _ hr2),tb2.mono (λv x z=>z.mono s3),λq H4 s4 f4=>?_⟩;rw[eA]at f4;refine⟨q,_,rfl,f4,_,rfl,q,p,_,_,rfl,f4,fp3.mono s4,sm1,sm2,True.intro,λz H5 nz s5 f5=>?_⟩;have s35:=s3.trans (s4.trans s5);have ls:kvr.length<=900:=by rw[tb2.len];exact lb i
   refine⟨_,rfl,_,rfl,r,_,rfl,DPut.k (k:=Sum.inr n) (s35 _ _ hr2) (ay (by lia)),?_⟩;have kp5:KeepD H5 (upd H5 r (.dK (bv kvr (Sum.inr n) (.ref z)))):=KeepD.put (s35 _ _ hr2);refine⟨hi,_,_,_,rfl,by rw[ai ner];exact s35 _ _ hf,(λb ob e ne=>?_),(kp.trans (.of s35)).trans kp5,ag,?_⟩
   ·rw[ai (ar e nr)];exact s35 _ _ (k2 _ _ e ne)
   ·rw[tk,bothK_snoc];refine(Tab.put (n:=n) (tb2.mono λv x z=>(z.mono s35).keep kp5) (y:=aS ks1 f1 n+f2 n) (FrIs.keep ⟨z,rfl,f5⟩ kp5)).congr λm _=>?_;unfold upf sumA;by_cases h:m=n
    ·subst h;rw[if_pos rfl];unfold aS;rw[if_pos (show m∈ks2.take i++[m]by simp)]
    ·rw[if_neg h]
     have:aS (ks2.take i++[n]) f2 m=aS (ks2.take i) f2 m:=by
      unfold aS;by_cases h2:m∈ks2.take i
      ·rw[if_pos h2,if_pos (jX _ h2)]
      ·rw[if_neg h2,if_neg (λz=>(jP.mp z).elim h2 λq=>h (jN.mp q))]
     rw[this]
  ·rintro σ H2⟨_,z3,z4,kvr,rfl,hf,k2,kp,hr2,tb2⟩;rw[t2.len,jQ]at tb2;refine⟨o,hf,_,_,kvr,rfl,(λb ob x=>?_),by rw[ai ner.symm];exact hr2,tb2.mono λv x z=>z.keep (.frz hf)⟩;by_cases hb:b=e
   ·subst hb;rw[ag,<-he,x]
   ·rw[ai hb];exact k2 _ _ x hb
 rintro zU hzU σ' H1⟨z3,z4,kvr,rfl,s1,hr1,tr⟩;have lb2:=lb ks2.length;subst hzU;rw[jQ]at lb2;exact⟨_,rfl,r,kvr,_,_,rfl,hr1,tr,nodup_fold n1,lb2,λz H2 kvz nz s2 hz2 tz=>k z H2 kvz (s1.free nz) (s1.trans s2) hz2 tz⟩
end
end G
namespace G
open PySem L2
section
theorem ok_over(T:TX K mg a):MtB P w K mg base CX0 a.Fraction "over" 6 ["self","other"] (spR2 a.Fraction (λx y=>x/y) (λ_ y=>y≠0)):=by
 refine T.m_Fraction_over.okA sc_Fraction_over (λf cdv A outer s H vs Q E hr h=>?_) (λvs H Q E h=>?_)
 rotate_left
 ·obtain⟨p,q,x,y,rfl,_⟩:=h;rfl
 ·obtain⟨p,q,x,y,rfl,hp,hq,sx,sy,hy0,k⟩:=h
  refine⟨_,(af (aN (au cT (ck T.fr (pv 1)) ab) (ah bP) aA)
   (af (aN (au gQ (ck T.fr (pv 1)) ab) (ah (ax (b7 T.fr (pv 0) (gm T) hr aq (aa (az (bz T) hr aq (aa (iN fR (cm T.fr (pv 1))) (aa (iN fR (ck T.fr (pv 1))) ae))) ae)))) aA)
   (ah (ax (b7 T.fr (pv 0) (gm T) hr aq (aa (az (bz T) hr aq (aa (cm T.fr (pv 1)) (aa (ck T.fr (pv 1)) ae))) ae)))))),?_⟩
  walk_at"q"
  walk_at"rd"
  refine ifV (λh1=>?_) (λh1=>?_)
  ·exact absurd (Rat.num_eq_zero.mp h1) hy0
  walk_at"rd"
  refine ifB (λhn=>?_) (λhn=>?_)
  ·obtain⟨e1,e2⟩:=inv_neg_spec y hn;walk_at"rd"
   intro r dx H1 nr s1 h1;have f1:FrAt a.Fraction H1 r (y⁻¹):=⟨dx,by rw[h1,e1,e2]⟩;refine⟨p,r,x,y⁻¹,rfl,hp.mono s1,f1,sx,⟨by rw[e1];exact sy.2.le (by lia),by rw[e2];exact sy.1.le (by lia)⟩,trivial,λr' H2 nr' s2 f2=>?_⟩;exact k r' H2 (s1.free nr') (s1.trans s2) f2
  ·obtain⟨e1,e2⟩:=inv_pos_spec y (by lia);walk_at"rd"
   intro r dx H1 nr s1 h1;have f1:FrAt a.Fraction H1 r (y⁻¹):=⟨dx,by rw[h1,e1,e2]⟩;refine⟨p,r,x,y⁻¹,rfl,hp.mono s1,f1,sx,⟨by rw[e1];exact sy.2,by rw[e2];exact sy.1⟩,trivial,λr' H2 nr' s2 f2=>?_⟩;exact k r' H2 (s1.free nr') (s1.trans s2) f2
end
end G
namespace G
open PySem L2
section
theorem cu{α:Type}{P:List α->Prop}(h0:P [])(h1:∀xs x,P xs->P (xs++[x]))(xs:List α):P xs:=by
 rw[<-List.reverse_reverse xs]
 induction xs.reverse with
 |nil=>exact h0
 |cons x r ih=>rw[List.reverse_cons];exact h1 _ _ ih
theorem ce{xs ys:List Str}(nd:xs.Nodup)(h:∀x∈xs,x∈ys):xs.length<=ys.length:=by
 induction xs generalizing ys with
 |nil=>exact jU _
 |cons x xs ih=>
  obtain⟨h1,h2⟩:=kM.mp nd;have hx:=h x j4
  have:=ih (ys:=ys.erase x) h2 λz hz=>by
   rw[List.mem_erase_of_ne (λe=>h1 (by rw[<-e];exact hz))];exact h z (jW _ hz)
  rw[List.length_erase_of_mem hx]at this
  have:=List.length_pos_of_mem hx
  rw[kz]
  lia
noncomputable def onw(ws:List WD)(p:Str):Option WD:=ws.foldl (λo x=>if x.st=p then some x else o) none
theorem onw_snoc(ws:List WD)(x:WD)(p:Str):onw (ws++[x]) p=if x.st=p then some x else onw ws p:=by unfold onw;rw[lL];rfl
theorem onw_some:∀{ws:List WD},onw ws p=some x->x∈ws/\x.st=p:=by
 refineλ{ws}=>cu (P:=λws=>onw ws p=some x->x∈ws/\x.st=p) (λh=>by cases h) (λus u ih h=>?_) ws;rw[onw_snoc]at h
 split at h
 ·rename_i e
  cases h;exact⟨by simp,e⟩
 ·obtain⟨h1,h2⟩:=ih h;exact⟨jX _ h1,h2⟩
theorem onw_in:∀{ws:List WD},p∈ws.map (·.st)->∃x,onw ws p=some x:=by
 refineλ{ws}=>cu (P:=λws=>p∈ws.map (·.st)->∃x,onw ws p=some x) (λh=>by cases h) (λus u ih h=>?_) ws;rw[onw_snoc];by_cases e:u.st=p
 ·exact⟨u,if_pos e⟩
 ·rw[if_neg e];rw[jM,jP]at h;exact ih (h.resolve_right λz=>e (jN.mp z).symm)
noncomputable def bT(ws:List WD):List WD:=ws.filter λx=>decide (x.go∈ws.map (·.st))
theorem mem_kept:x∈bT ws↔x∈ws/\x.go∈ws.map (·.st):=by unfold bT;rw[lT,decide_eq_true_iff]
theorem kept_le(ws:List WD):(bT ws).length<=ws.length:=lB _ _
theorem kept_all(h:¬(bT ws).length<ws.length):∀x∈ws,x.go∈ws.map (·.st):=λx hx=>by
 have e:(bT ws).length=ws.length:=Nat.le_antisymm (kept_le ws) (by lia);unfold bT at e;exact lX (List.length_filter_eq_length_iff.mp e x hx)
noncomputable def Acyc(ws:List WD):Prop:=∃rk:Str->Nat,∀x∈ws,rk x.go<rk x.st
theorem Acyc.nil:Acyc []:=⟨λ_=>0,λx h=>absurd h j9⟩
theorem Acyc.back(h:Acyc (bT ws)):Acyc ws:=by
 obtain⟨rk,k⟩:=h;refine⟨λp=>if p∈ws.map (·.st)then rk p+1 else 0,λx hx=>?_⟩;have h1:x.st∈ws.map (·.st):=jL.mpr ⟨x,hx,rfl⟩;show(if x.go∈ws.map (·.st)then rk x.go+1 else 0)<if x.st∈ws.map (·.st)then rk x.st+1 else 0
 rw[if_pos h1];by_cases h2:x.go∈ws.map (·.st)
 ·rw[if_pos h2]
  have:=k x (mem_kept.mpr ⟨hx,h2⟩)
  lia
 ·rw[if_neg h2]
  lia
noncomputable def PthW:Str->List WD->Str->Prop
 |p,[],q=>p=q
 |p,x::r,q=>x.st=p/\PthW x.go r q
theorem PthW.snoc:∀{l:List WD}{p q:Str},PthW p l q->x.st=q->PthW p (l++[x]) x.go
 |[],_,_,h,e=>⟨e.trans h.symm,rfl⟩
 |_::_,_,_,h,e=>⟨h.1,h.2.snoc e⟩
theorem PthW.split:∀{l1 l2:List WD}{p q:Str},PthW p (l1++l2) q->∃m,PthW p l1 m/\PthW m l2 q
 |[],_,p,_,h=>⟨p,rfl,h⟩
 |_::_,_,_,_,h=>by
  obtain⟨m,h1,h2⟩:=PthW.split h.2;exact⟨m,⟨h.1,h1⟩,h2⟩
theorem PthW.chain:∀{l:List WD}{p q:Str},PthW p l q->Chain l
 |[],_,_,_=>λi x y h=>by cases h
 |[x],_,_,_=>λi u v h1 h2=>by
  cases i with
  |zero=>cases h2
  |succ i=>cases h1
 |x::y::r,_,_,h=>λi u v h1 h2=>by
  cases i with
  |zero=>
   cases h1
   cases h2;exact h.2.1.symm
  |succ i=>exact(PthW.chain (l:=y::r) h.2) i u v (by simpa using h1) (by simpa using h2)
theorem PthW.last:∀{l:List WD}{p q:Str},PthW p l q->∀x,l.getLast?=some x->x.go=q
 |[x],_,_,h,y,e=>by
  cases e;exact h.2
 |x::y::r,_,_,h,z,e=>PthW.last (l:=y::r) h.2 z (by rw[<-e];rfl)
theorem PthW.head(h:PthW p l q):∀x,l.head?=some x->x.st=p:=by
 cases l with
 |nil=>intro x e;cases e
 |cons y r=>intro x e;cases e;exact h.1
theorem PthW.down{rk:Str->Nat}:∀{l:List WD}{p q:Str},PthW p l q->(∀x∈l,rk x.go<rk x.st)->(∀x∈l,rk x.go<rk p)/\(p::l.map (·.go)).Nodup
 |[],p,_,_,_=>⟨λx h=>absurd h j9,by simp⟩
 |x::r,p,q,h,k=>by
  have kx:=k x j4;obtain⟨h1,h2⟩:=PthW.down h.2 λy hy=>k y (jW _ hy);rw[h.1]at kx
  have all:∀y∈x::r,rk y.go<rk p:=λy hy=>by
   rcases j3.mp hy with rfl|hy
   ·exact kx
   ·exact Nat.lt_trans (h1 y hy) kx
  refine⟨all,kM.mpr ⟨λm=>?_,h2⟩⟩;obtain⟨y,hy,e⟩:=jL.mp m
  have:=all y hy
  rw[e]at this;exact lW _ this
structure RingW(ws l:List WD):Prop where
 ne:l≠[]
 sub:∀x∈l,x∈ws
 nd:(l.map (·.st)).Nodup
 rd:∃p,PthW p l p
theorem RingW.mono(h:RingW us l)(s:∀x∈us,x∈ws):RingW ws l:=⟨h.ne,λx hx=>s x (h.sub x hx),h.nd,h.rd⟩
theorem bo{ws l:List WD}(nd:(ws.map (·.nm)).Nodup)(sub:∀x∈l,x∈ws)(h:(l.map (·.st)).Nodup):(l.map (·.nm)).Nodup:=by
 induction l with
 |nil=>exact lJ
 |cons x r ih=>
  obtain⟨h1,h2⟩:=kM.mp (show(x.st::r.map (·.st)).Nodup from h);refine kM.mpr ⟨λm=>h1 ?_,ih (λy hy=>sub y (jW _ hy)) h2⟩;obtain⟨y,hy,e⟩:=jL.mp m
  have:y=x:=by
   obtain⟨i,hi⟩:=kh.mp (sub y (jW _ hy));obtain⟨j,hj⟩:=kh.mp (sub x j4);have g1:(ws.map (·.nm))[i]?=some y.nm:=by rw[jK,hi];rfl
   have g2:(ws.map (·.nm))[j]?=some y.nm:=by rw[jK,hj,kU,e]
   have ij:=(kR (by rw[jF];exact(jG.mp hi).1) nd).mp (g1.trans g2.symm);subst ij;rw[hi]at hj;exact kg hj
  exact jL.mpr ⟨y,hy,by rw[this]⟩
structure SeenW(f:Str->WD)(ks:List Str)(p0:Str)(l:List WD)(q:Str):Prop where
 path:PthW p0 l q
 nd:(l.map (·.st)).Nodup
 by_:∀x∈l,x.st∈ks/\x=f x.st
 inn:q∈ks
theorem SeenW.next(hf:∀k∈ks,(f k).st=k/\(f k).go∈ks)(h:SeenW f ks p0 l q)(nq:¬q∈l.map (·.st)):l.length<ks.length/\SeenW f ks p0 (l++[f q]) (f q).go:=by
 obtain⟨e1,e2⟩:=hf q h.inn
 have nd2:((l++[f q]).map (·.st)).Nodup:=by
  rw[jM,List.map_singleton,e1];exact ky.mpr ⟨h.nd,by simp,λx hx y hy e=>nq (by rw[jN.mp hy]at e;rw[<-e];exact hx)⟩
 refine⟨?_,h.path.snoc e1,nd2,λx hx=>?_,e2⟩
 ·have:=ce nd2 (ys:=ks) λx hx=>by
   obtain⟨y,hy,rfl⟩:=jL.mp hx;rcases jP.mp hy with z|z
   ·exact(h.by_ y z).1
   ·rw[jN.mp z,e1];exact h.inn
  rw[jF,jO,kr]at this
  lia
 ·rcases jP.mp hx with z|z
  ·exact h.by_ x z
  ·rw[jN.mp z,e1];exact⟨h.inn,rfl⟩
theorem SeenW.ring(h:SeenW f ks p0 l q)(hw:∀k∈ks,f k∈ws)(hi:(l.map (·.st))[i]?=some q):RingW ws (l.drop i):=by
 rw[jK]at hi;obtain⟨x,ex,e⟩:=lH.mp hi;have il:=(jG.mp ex).1;have dr:l.drop i=x::l.drop (i+1):=by rw[List.drop_eq_getElem_cons il,(jG.mp ex).2]
 refine⟨by rw[dr];simp,λy hy=>?_,by rw[List.map_drop];exact h.nd.sublist (List.drop_sublist _ _),q,?_⟩
 ·obtain⟨h1,h2⟩:=h.by_ y (List.mem_of_mem_drop hy);rw[h2];exact hw _ h1
 ·have hp:=h.path;rw[<-List.take_append_drop i l]at hp;obtain⟨m,_,h2⟩:=hp.split
  have:m=q:=by
   rw[dr]at h2;rw[<-h2.1];exact e
  rw[this]at h2;exact h2
end
end G
namespace G
open PySem L2
section
theorem cut_drop(i:Nat):cutV xs (some (i:Int)) none=xs.drop i:=by
 unfold cutV;rw[HT.sIx_nat,HT.sIx_none];by_cases h:i<=xs.length
 ·rw[Nat.min_eq_left h,List.take_of_length_le (by rw[lz];lia)]
 ·rw[Nat.min_eq_right (by lia),List.drop_of_length_le (jJ _),List.take_nil,List.drop_of_length_le (by lia)]
noncomputable def IxIs(_:Hp)(v:V)(i:Nat):Prop:=v=.int (i:Int)
inductive IspAlong(a:Ad)(vs:List V)(H:Hp)(Q:VK):Prop
 |mk(d:Addr)(p0:Str)(kp:List (Key×V))(ks:List Str)(f:Str->WD)(ws:List WD)(h1:vs=[.ref d,.str p0])(h2:H d=some (.dK kp))(h3:Tab (WayIs a) H kp ks f)(h4:(∀k∈ks,(f k).st=k/\(f k).go∈ks))(h5:(∀k∈ks,f k∈ws))(h6:p0∈ks)(h7:ks.length<=100)(h8:∀l H'(ring:List WD),H l=none->Same H H'->H' l=some (.lst (ring.map λx=>V.str x.nm))->RingW ws ring->Q (.ref l) H'):IspAlong a vs H Q
noncomputable def spAlong(a:Ad):Sp:=λvs H Q _=>IspAlong a vs H Q
theorem ok_ring_along(T:TX K mg a):FnB P w K mg base CX0 "ring_along" 1 ["pointers","place"] (spAlong a):=by
 refine T.d_ring_along.okA sc_ring_along λf cdv A outer s H vs Q E hr h=>?_;obtain⟨d,p0,kp,ks,f,ws,rfl,hp,tp,hf,hw,hp0,ln,k⟩:=h
 refine⟨_,(af (aj (i:=2) sc_ring_along.nd bK)
  (aE (gc jR (eN (gk (aJ hr) (pv 1) (pv 2))) (af (bB (aJ hr) (pv 2) (pv 1) (aI call_lenD (by rfl) T.z_len km (aa (pv 2) ae)) rfl)
  (ah (aj (i:=1) sc_ring_along.nd (aH (aV (aJ hr) (pv 0) (pv 1) (λ_ _=>rfl)) rfl)))))
  (af (aj (i:=3) sc_ring_along.nd (dC ig (bj (cX hr.hd) (by rfl) T.z_list kK (aa (pv 2) ae)) (fF (aV (aJ hr) (pv 2) (pv 1) (λ_ _=>rfl))) fG))
  (ah (ax (eP (xs:=["one"]) (rest:=["pointers"]) rfl (a5 (pv 3))
  (λpins fp C' s' H'=>(aw (i:=0) (show(["one","pointers"]:List Str).Nodup by decide+kernel))) (λpins fp C' s' H'=>cA)
  (λpins fp C' s' H'=>(pe_fldK (K:=K) rfl (aV (aJ hr) (pv 1) (pv 0) (λ_ _=>rfl)) rfl))
  (Clos.many (ys:=["pointers"]) rfl ⟨rfl,True.intro⟩ rfl (by decide+kernel)) (Reads.many (ys:=["pointers"]) (js:=[0]) ⟨⟨rfl,rfl,rfl⟩,True.intro⟩))))))),?_⟩
 walk_at"q"
 have ptr:∀H',Same H H'->∀q∈ks,∃p1,bI kp (Sum.inr q)=some (.ref p1)/\WayIs a H' (.ref p1) (f q):=λH' s' q hq=>by
  obtain⟨v,ev,W⟩:=tp.vals q hq;obtain⟨p1,vh,vc,qx,rfl,_⟩:=id W;exact⟨p1,ev,W.mono s'⟩
 intro e ne;obtain⟨H1,zq,s1,he0⟩:=uG (o:=.dK []) ne;rw[zq];refine bM (λσ' H'=>∃l q kvs,σ'=[some (.ref d),some (.str q),some (.ref e),none]/\Same H H'/\H' e=some (.dK kvs)/\Tab IxIs H' kvs (l.map WD.st) (λn=>(l.map WD.st).idxOf n)/\SeenW f ks p0 l q/\q∈l.map WD.st) ?_ ?_
 ·refine⟨λm σ H2=>∃l q kvs,m=ks.length-l.length/\σ=[some (.ref d),some (.str q),some (.ref e),none]/\Same H H2/\H2 e=some (.dK kvs)/\Tab IxIs H2 kvs (l.map WD.st) (λn=>(l.map WD.st).idxOf n)/\SeenW f ks p0 l q,⟨_,[],p0,[],rfl,rfl,s1,he0,Tab.nil,⟨rfl,lJ,λx hx=>absurd hx j9,hp0⟩⟩,?_⟩;rintro m σ H2⟨l,q,kvs,rfl,rfl,s2,he2,tb,sn⟩;refine⟨_,rfl,_,rfl,e,_,rfl,DGet.k (k:=Sum.inr q) he2,_,rfl,?_⟩;by_cases hq:q∈l.map WD.st
  ·obtain⟨v,ev,_⟩:=tb.vals q hq;rw[ev];refine iteF ?_;exact⟨l,q,kvs,rfl,s2,he2,tb,sn,hq⟩
  ·rw[tb.none hq];refine iteT ?_;obtain⟨lt,sn2⟩:=sn.next hf hq
   have sx:=(hf q sn.inn).1;obtain⟨p1,ep,W⟩:=ptr H2 s2 q sn.inn;generalize f q=x at sn2 sx W;have lk:kvs.length=l.length:=by rw[tb.len,jF]
   refine⟨λσ' H'=>∃kvs',σ'=[some (.ref d),some (.str (x.go)),some (.ref e),none]/\Same H H'/\H' e=some (.dK kvs')/\Tab IxIs H' kvs' ((l++[x]).map WD.st) (λn=>((l++[x]).map WD.st).idxOf n),(by rintro σ' H'⟨kvs',e1,e2,e3,e4⟩;exact⟨ks.length-(l++[x]).length,by rw[jO,kr];lia,l++[x],_,kvs',rfl,e1,e2,e3,e4,sn2⟩),?_⟩;refine⟨_,rfl,e,kvs,rfl,he2,_,rfl,_,rfl,e,_,rfl,DPut.k (k:=Sum.inr q) he2 (ay (by lia)),?_⟩;have stay:Stays a H2 (upd H2 e (.dK (bv kvs (Sum.inr q) (.int kvs.length)))):=.put he2 (λ_ _ _ z=>by cases z);have s3:Same H (upd H2 e (.dK (bv kvs (Sum.inr q) (.int kvs.length)))):=aF ne s2
   obtain⟨vh,vc,qx,e0,W6,_⟩:∃vh vc qx,V.ref p1=V.ref p1/\WayAt a (upd H2 e (.dK (bv kvs (Sum.inr q) (.int kvs.length)))) p1 x.kd x.nm x.st x.go vh vc qx x.x/\True:=by
    obtain⟨p',vh,vc,qx,e0,W',_⟩:=W.keep stay
    cases e0;exact⟨vh,vc,qx,rfl,W',trivial⟩
   obtain⟨dx1,fs1,ho1,h51,_⟩:=id W6.ob;have c1:=bV T x.kd;refine⟨_,rfl,_,rfl,d,.ref p1,rfl,.inl ⟨kp,Sum.inr q,.inl (s3 _ _ hp),rfl,ep.symm⟩,p1,_,dx1,fs1,_,rfl,ho1,c1.cl,c1.n3,h51.go,?_⟩;refine⟨_,rfl,s3,ag,?_⟩;have em:(l++[x]).map WD.st=l.map WD.st++[q]:=by rw[jM,List.map_singleton,sx]
   have:=Tab.put (n:=q) (H:=upd H2 e (.dK (bv kvs (Sum.inr q) (.int kvs.length)))) (tb.mono λv x z=>z) (v:=.int kvs.length) (y:=kvs.length) rfl
   rw[fe hq]at this;rw[em];refine this.congr λn hn=>?_;unfold upf;by_cases en:n=q
   ·rw[if_pos en,en,List.idxOf_append,if_neg hq,lk,jF];simp
   ·rw[if_neg en];rcases jP.mp hn with z|z
    ·rw[List.idxOf_append,if_pos z]
    ·exact absurd (jN.mp z) en
 rintro zU hzU σ' H2⟨l,q,kvs,rfl,s2,he2,tb,sn,hq⟩;subst hzU;refine⟨_,rfl,e,kvs,rfl,.inl he2,λl1 nl1=>?_⟩
 have ek:(kvs.map λkv=>kV kv.1)=(l.map WD.st).map V.str:=by
  have:=kA (List.map kV) tb.keys
  rw[kO,kO]at this;exact this
 rw[ek];obtain⟨H3,zq,s3,h1⟩:=uG (o:=.lst ((l.map WD.st).map V.str)) nl1;rw[zq];obtain⟨v,ev,iv⟩:=tb.vals q hq;obtain rfl:v=.int ((l.map WD.st).idxOf q:Nat):=iv;obtain⟨i,hi⟩:∃i,(l.map WD.st).idxOf q=i:=⟨_,rfl⟩;rw[hi]at ev;have il:i<(l.map WD.st).length:=by rw[<-hi];exact List.idxOf_lt_length_iff.mpr hq
 have iq:(l.map WD.st)[i]?=some q:=by rw[jH il];congr 1;subst hi;exact List.getElem_idxOf il
 have rg:=sn.ring hw iq;refine⟨_,rfl,_,rfl,e,_,rfl,.inl ⟨kvs,Sum.inr q,.inl (s3 _ _ he2),rfl,ev.symm⟩,_,rfl,l1,_,rfl,SqL.of h1,λl2 nl2=>?_⟩;rw[cut_drop,<-List.map_drop,<-List.map_drop];obtain⟨H4,zq,s4,h2⟩:=uG (o:=.lst (((l.drop i).map WD.st).map V.str)) nl2;rw[zq];have s24:=s2.trans (s3.trans s4)
 have lr:(l.drop i).length<=100:=by
  have:=ce sn.nd (ys:=ks) λx hx=>by
   obtain⟨y,hy,rfl⟩:=jL.mp hx;exact(sn.by_ y hy).1
  rw[jF]at this;rw[lz]
  lia
 have allr:∀x∈l.drop i,x.st∈ks/\x=f x.st:=λx hx=>sn.by_ x (List.mem_of_mem_drop hx);generalize l.drop i=ring at rg h2 lr allr⊢;refine⟨_,rfl,l2,rfl,⟨_,SqL.of h2⟩,λl3 nl3=>?_⟩;refine de (K:=K) (a:=l2) (xs:=(ring.map WD.st).map V.str) (λj H5=>j<=ring.length/\Same H4 H5/\H5 l3=some (.lst ((ring.take j).map λx=>V.str x.nm))) ⟨jU _,aC nl3,ag⟩ ((by rintro j H5⟨_,s5,_⟩;exact SqL.of (s5 _ _ h2))) ?_ ?_
 ·rintro j y H5 hy⟨_,s5,h5⟩;rw[kO,jK]at hy
  cases ez:ring[j]? with
  |none=>rw[ez]at hy;cases hy
  |some z=>
   rw[ez]at hy
   cases hy;have hj:=(jG.mp ez).1;have s25:=s24.trans s5;obtain⟨zk,zf⟩:=allr z (jI ez);obtain⟨p1,ep,W⟩:=ptr H5 s25 z.st zk;rw[<-zf]at W;obtain⟨p',vh,vc,qx,e0,W',_⟩:=W
   cases e0;obtain⟨dx1,fs1,ho1,h51,_⟩:=id W'.ob;have c1:=bV T z.kd;refine g1 ⟨⟨[_],rfl,rfl⟩,yes ?_⟩;refine⟨_,rfl,_,rfl,d,.ref p1,rfl,.inl ⟨kp,Sum.inr z.st,.inl (s25 _ _ hp),rfl,ep.symm⟩,p1,_,dx1,fs1,_,rfl,ho1,c1.cl,c1.n1,h51.nm,?_⟩;refine⟨_,h5,ay (by rw[jF,jT];lia),dD (by rw[jF,jF];exact hj) ⟨hj,aF nl3 s5,?_⟩⟩;rw[ag,jS,ez,j0,jM];rfl
 ·rintro H5⟨_,s5,h5⟩;rw[jF,jF,jQ]at h5;exact k l3 H5 ring (s24.free nl3) (s24.trans s5) h5 rg
inductive IspUnfit(a:Ad)(vs:List V)(H:Hp)(Q:VK):Prop
 |mk(p d:Addr)(ps:List (Str×Rat))(ds:List WD)(kvs:List (Key×V))(ks:List Str)(f:Str->Rat)(h1:vs=[.ref p,.ref d])(h2:NetOff a H p d ps ds)(h3:(ds.map (·.nm)).Nodup)(h4:H d=some (.dK kvs))(h5:Tab (FrIs a) H kvs ks f)(h6:ks.Nodup)(h7:(∀n∈ks,n∈ds.map (·.nm)/\0<=(f n).num))(h8:∀H',Same H H'->Q .non H'):IspUnfit a vs H Q
noncomputable def spUnfit(a:Ad):Sp:=λvs H Q _=>IspUnfit a vs H Q
theorem ok_refuse_unfit(T:TX K mg a):FnB P w K mg base CX0 "refuse_unfit" 2 ["net","plan"] (spUnfit a):=by
 refine T.d_refuse_unfit.okA sc_refuse_unfit λf cdv A outer s H vs Q E hr h=>?_;obtain⟨p,d,ps,ds,kvs,ks,f,rfl,off,nd,hd,tb,ndk,hin,k⟩:=h
 refine⟨_,(ah (cB (aQ jR rfl (eO (pv 1)) (gB (n:=2) rfl (bu (aw (i:=2) sc_refuse_unfit.nd) (bu (aw (i:=3) sc_refuse_unfit.nd) dP))) (af (aT (cJ (CX:=CX0) (pv 0) hr aq (aa (pv 2) ae)))
  (ah (aN (au gQ (di T.fr (pv 3) (dj T) hr aq) ab) (ah bP) aA)))))),?_⟩
 walk_at"q"
 refine⟨d,.dK kvs,hd,(by intro o z e;cases e),_,rfl,d,kvs,rfl,hd,λo=>?_⟩;refine dX (a:=d) (o:=o) (kvs:=kvs) (λi σ H2=>∃z2 z3,σ=[some (.ref p),some (.ref d),z2,z3]/\H2 d=some (.frz o (.dK kvs))/\∀b ob,H b=some ob->b≠d->H2 b=some ob) ⟨_,_,rfl,ag,λb ob e ne=>by rw[ai ne];exact e⟩ ((by rintro i σ H2 _⟨_,_,_,h,_⟩;exact h)) ?_ ?_
 ·rintro i kv t σ H2 hkv nt⟨z2,z3,rfl,hf,k2⟩;obtain⟨n,e0,e1,ev,q,eq,fq⟩:=tb.at_ ndk hkv;obtain⟨hn1,hn2⟩:=hin n (jI e0);have ekv:kV kv.1=.str n:=by rw[e1];rfl
  rw[ekv,eq];have s3:=aC (o:=.tup [.str n,.ref q]) nt;have ht:upd H2 t (.tup [.str n,.ref q]) t=some (.tup [.str n,.ref q]):=ag;have k3:∀b ob,H b=some ob->b≠d->upd H2 t (.tup [.str n,.ref q]) b=some ob:=λb ob e ne=>s3 _ _ (k2 b ob e ne);have hf3:=s3 _ _ hf;generalize upd H2 t (.tup [.str n,.ref q])=H3 at s3 ht k3 hf3⊢;have off3:=off.but k3;have hn3:=off3.at_;obtain⟨dx,dw,dy,hp,_,_⟩:=id hn3;have noc:=hX dw dy (m:="way") (by decide+kernel) (by decide+kernel);obtain⟨x,hx,ex⟩:=jL.mp hn1;refine⟨t,[.str n,.ref q],rfl,SqT.of ht,rfl,.str n,[.ref q],rfl,⟨.ref q,[],rfl,⟨rfl,?_⟩⟩⟩;refine⟨_,rfl,p,a.Net,dx,_,1,["self","name"],d9 a,rfl,hp,noc,T.cl_Net,by decide,c9 T,_,rfl,p,ps,ds,x,by rw[ex];rfl,hn3,nd,hx,λv _=>?_⟩;have fq3:FrAt a.Fraction H3 q (f n):=let⟨dq,g⟩:=fq;⟨dq,k3 _ _ g (λz=>by rw[z,hd]at g;cases g)⟩
  walk_at"rd"
  refine cL (jY (sgn_nn hn2)) ?_;exact⟨_,_,rfl,hf3,k3⟩
 ·rintro σ H2⟨z2,z3,rfl,hf,k2⟩;refine⟨o,hf,k _ λb ob e=>?_⟩;by_cases hb:b=d
  ·subst hb;rw[ag,<-hd,e]
  ·rw[ai hb];exact k2 _ _ e hb
inductive IspLeast(K:W.Frag)(a:Ad)(vs:List V)(H:Hp)(Q:VK):Prop
 |mk(l:Addr)(ts:List V)(xs:List Rat)(h1:vs=[.ref l])(h2:SqL K H l ts)(h3:RowAt (FrIs a) H ts xs)(h4:xs≠[])(h5:(∀x∈xs,SmR x))(h6:∀q m,FrAt a.Fraction H q m->m∈xs->(∀x∈xs,m<=x)->Q (.ref q) H):IspLeast K a vs H Q
noncomputable def spLeast(K:W.Frag)(a:Ad):Sp:=λvs H Q _=>IspLeast K a vs H Q
theorem ok_least(T:TX K mg a):FnB P w K mg base CX0 "least" 5 ["numbers"] (spLeast K a):=by
 refine T.d_least.okA sc_least λf cdv A outer s H vs Q E hr h=>?_;obtain⟨l,ts,xs,rfl,hS,hr1,ne,sm,k⟩:=h
 refine⟨_,(af (aj (i:=1) sc_least.nd (al aM (pv 0) ab))
  (af (aQ jR rfl (a5 (pv 0)) (aw (i:=2) sc_least.nd) (ah (aN (cI (b7 T.fr (pv 2) (ok_under T) hr aq (aa (pv 1) ae))) (ah (aj (i:=1) sc_least.nd (pv 2))) aA)))
  (ah (ax (pv 1))))),?_⟩
 walk_at"q"
 obtain⟨x0,e0⟩:∃x,xs[0]?=some x:=by cases xs with|nil=>exact absurd rfl ne|cons x r=>exact⟨x,rfl⟩
 obtain⟨t0,et,q0,rfl,f0⟩:=hr1.get' e0;refine⟨_,rfl,l,_,_,_,rfl,rfl,hS,atI_nat (j:=0) et,?_⟩;refine⟨_,rfl,l,rfl,⟨_,hS⟩,ba (K:=K) (a:=l) (xs:=ts) (λi σ H2=>H2=H/\∃q m z2,σ=[some (.ref l),some (.ref q),z2]/\FrAt a.Fraction H q m/\m∈xs/\∀x∈xs.take i,m<=x) ⟨rfl,q0,x0,_,rfl,f0,jI e0,λx hx=>by rw[lP]at hx;cases hx⟩ ((by rintro i σ H2 _⟨e,_⟩;exact by rw[e];exact hS)) ?_ ?_⟩
 ·rintro i t σ H2 ht⟨rfl,q,m,z2,rfl,fm,hm,all⟩;obtain⟨x,ex,q1,rfl,f1⟩:=hr1.get ht;have s1:=sm m hm;have s2:=sm x (jI ex);have tk:xs.take (i+1)=xs.take i++[x]:=by rw[jS,ex];rfl
  refine⟨_,rfl,q1,x,rfl,f1,_,rfl,q1,q,x,m,rfl,f1,fm,s2,s1,_,rfl,?_⟩;refine ifB (λh=>?_) (λh=>?_)
  ·refine⟨_,rfl,rfl,q1,x,_,rfl,f1,jI ex,λy hy=>?_⟩;rw[tk]at hy;rcases jP.mp hy with z|z
   ·have:=all y z
    grind
   ·rw[jN.mp z];exact Rat.le_refl
  ·refine⟨rfl,q,m,_,rfl,fm,hm,λy hy=>?_⟩;rw[tk]at hy;rcases jP.mp hy with z|z
   ·exact all y z
   ·rw[jN.mp z];grind
 ·rintro σ H2⟨rfl,q,m,z2,rfl,fm,hm,all⟩;rw[hr1.1,jQ]at all;exact⟨_,rfl,k q m fm hm all⟩
noncomputable def fOn(ws:List WD)(p:Str):WD:=(onw ws p).getD ⟨p,p,p,.way,0⟩
theorem fOn_at(h:p∈ws.map (·.st)):onw ws p=some (fOn ws p):=by
 obtain⟨x,e⟩:=onw_in h;unfold fOn;rw[e];rfl
inductive IspByStart(K:W.Frag)(a:Ad)(vs:List V)(H:Hp)(Q:VK):Prop
 |mk(l:Addr)(ts:List V)(ws:List WD)(h1:vs=[.ref l])(h2:SqL K H l ts)(h3:RowAt (WayIs a) H ts ws)(h4:ws.length<=100)(h5:∀d H' kvs,H d=none->Same H H'->H' d=some (.dK kvs)->Tab (WayIs a) H' kvs (a9 (ws.map (·.st))) (fOn ws)->Q (.ref d) H'):IspByStart K a vs H Q
noncomputable def spByStart(K:W.Frag)(a:Ad):Sp:=λvs H Q _=>IspByStart K a vs H Q
theorem hJ(T:TX K mg a):FnB P w K mg base CX0 "by_start" 1 ["ways"] (spByStart K a):=by
 refine T.d_by_start.okA sc_by_start λf cdv A outer s H vs Q E hr h=>?_;obtain⟨l,ts,ws,rfl,hS,hr1,lw,k⟩:=h
 refine⟨_,(af (aj (i:=1) sc_by_start.nd bK)
  (af (aQ jR rfl (a5 (pv 0)) (aw (i:=2) sc_by_start.nd) (ah (bB (aJ hr) (pv 1) (aH (pv 2) rfl) (pv 2) rfl)))
  (ah (ax (pv 1))))),?_⟩
 walk_at"q"
 intro d nd;have s1:=aC (o:=.dK []) nd;refine⟨_,rfl,l,rfl,⟨_,s1.seq hS⟩,ba (K:=K) (a:=l) (xs:=ts) (λi σ H2=>i<=ws.length/\∃z2 kvs,σ=[some (.ref l),some (.ref d),z2]/\Same H H2/\H2 d=some (.dK kvs)/\Tab (WayIs a) H2 kvs (a9 ((ws.take i).map (·.st))) (fOn (ws.take i))) ⟨jU _,_,[],rfl,s1,ag,Tab.nil⟩ ((by rintro i σ H2 _⟨_,_,_,_,s2,_⟩;exact s2.seq hS)) ?_ ?_⟩
 ·rintro i t σ H2 ht⟨_,z2,kvs,rfl,s2,hd,tb⟩;obtain⟨x,ex,hx⟩:=hr1.get ht;have hi:=(jG.mp ex).1;obtain⟨p1,vh,vc,q,rfl,W,hk⟩:=hx.mono s2;obtain⟨dx1,fs1,ho1,h51,_⟩:=id W.ob;have c1:=bV T x.kd
  have lk:kvs.length<=900:=by
   rw[tb.len]
   have:=cy ((ws.take i).map (·.st))
   rw[jF,jT]at this
   lia
  refine⟨_,rfl,_,rfl,_,rfl,p1,_,dx1,fs1,_,rfl,ho1,c1.cl,c1.n2,h51.st,d,_,rfl,DPut.k (k:=Sum.inr x.st) hd (ay (by lia)),?_⟩;have tk:ws.take (i+1)=ws.take i++[x]:=by rw[jS,ex];rfl
  have wx:WayIs a H2 (.ref p1) x:=⟨p1,vh,vc,q,rfl,W,hk⟩;refine⟨hi,_,_,rfl,aF nd s2,ag,?_⟩;rw[tk,jM,List.map_singleton,fO];refine(Tab.put (tb.mono λv y z=>z.put hd) (wx.put hd)).congr λm _=>?_;unfold upf fOn;rw[onw_snoc];by_cases e:m=x.st
  ·rw[if_pos e,if_pos e.symm];rfl
  ·rw[if_neg e,if_neg λz=>e z.symm]
 ·rintro σ H2⟨_,z2,kvs,rfl,s2,hd,tb⟩;rw[hr1.1,jQ]at tb;exact⟨_,rfl,k d H2 kvs nd s2 hd tb⟩
end
end G
namespace G
open PySem L2
section
noncomputable def byN(ds:List WD)(n:Str):WD:=(ds.find? λx=>decide (x.nm=n)).getD ⟨n,n,n,.way,0⟩
theorem byN_in(h:n∈ds.map (·.nm)):byN ds n∈ds/\(byN ds n).nm=n:=by
 unfold byN
 cases e:ds.find? λx=>decide (x.nm=n) with
 |some x=>exact⟨List.mem_of_find?_eq_some e,lX (List.find?_some (p:=λx:WD=>decide (x.nm=n)) e)⟩
 |none=>
  obtain⟨x,hx,rfl⟩:=jL.mp h;exact absurd (j6 rfl) (List.find?_eq_none.mp e x hx)
noncomputable def cZ(ds:List WD)(ks:List Str):List WD:=ks.map (byN ds)
inductive IspRingIn(a:Ad)(vs:List V)(H:Hp)(Q:VK):Prop
 |mk(p d:Addr)(ps:List (Str×Rat))(ds:List WD)(kvs:List (Key×V))(ks:List Str)(f:Str->Rat)(h1:vs=[.ref p,.ref d])(h2:NetOff a H p d ps ds)(h3:(ds.map (·.nm)).Nodup)(h4:H d=some (.dK kvs))(h5:Tab (FrIs a) H kvs ks f)(h6:ks.Nodup)(h7:(∀n∈ks,n∈ds.map (·.nm)))(h8:ks.length<=24)(h9:(∀l H'(ring:List WD),H l=none->Same H H'->H' l=some (.lst (ring.map λx=>V.str x.nm))->RingW (cZ ds ks) ring->Q (.ref l) H'))(h10:(∀l H',H l=none->Same H H'->H' l=some (.lst [])->Acyc (cZ ds ks)->Q (.ref l) H')):IspRingIn a vs H Q
noncomputable def spRingIn(a:Ad):Sp:=λvs H Q _=>IspRingIn a vs H Q
theorem ok_ring_in(T:TX K mg a):FnB P w K mg base CX0 "ring_in" 3 ["net","plan"] (spRingIn a):=by
 refine T.d_ring_in.okA sc_ring_in λf cdv A outer s H vs Q E hr h=>?_;obtain⟨p,d,ps,ds,kvs,ks,f,rfl,off,nd,hd,tb,ndk,hin,lks,k,k0⟩:=h
 refine⟨_,(aE (cB (dA (i:=2) (xs:=["name"]) (rest:=["net"]) sc_ring_in.nd rfl rfl rfl (dO (pv 1))
  (λpins fp C' s' H'=>(aw (i:=0) (show(["name","net"]:List Str).Nodup by decide+kernel))) (λpins fp C' s' H'=>cA)
  (λpins fp C' s' H'=>(pe_mtDK (CX:=CX0) (P:=P) (w:=w) (K:=K) (mg:=mg) (base:=base) rfl rfl rfl rfl rfl (pv 1) hr aq (aa (pv 0) ae)))
  (Clos.many (ys:=["net"]) rfl ⟨rfl,True.intro⟩ rfl (by decide+kernel)) (Reads.many (ys:=["net"]) (js:=[0]) ⟨⟨rfl,rfl,rfl⟩,True.intro⟩)))
  (af (aj (i:=3) sc_ring_in.nd (az (hJ T) hr aq (aa (pv 2) ae)))
  (aE (dA (i:=4) (xs:=["way"]) (rest:=["onward"]) sc_ring_in.nd rfl rfl rfl (a5 (pv 2))
  (λpins fp C' s' H'=>(aw (i:=0) (show(["way","onward"]:List Str).Nodup by decide+kernel))) (λpins fp C' s' H'=>(pts_one (eN (pc_din (aJ hr) (pe_fldK (K:=K) rfl (pv 0) rfl) (pv 1)))))
  (λpins fp C' s' H'=>(pv 0))
  (Clos.many (ys:=["onward"]) rfl ⟨rfl,True.intro⟩ rfl (by decide+kernel)) (Reads.many (ys:=["onward"]) (js:=[3]) ⟨⟨rfl,rfl,rfl⟩,True.intro⟩))
  (aE (gc jR (au gQ (aI a6 (by rfl) T.z_len km (aa (pv 4) ae)) (aI a6 (by rfl) T.z_len km (aa (pv 2) ae))) (af (aj (i:=2) sc_ring_in.nd (pv 4))
  (af (aj (i:=3) sc_ring_in.nd (az (hJ T) hr aq (aa (pv 2) ae)))
  (ah (dA (i:=4) (xs:=["way"]) (rest:=["onward"]) sc_ring_in.nd rfl rfl rfl (a5 (pv 2))
  (λpins fp C' s' H'=>(aw (i:=0) (show(["way","onward"]:List Str).Nodup by decide+kernel))) (λpins fp C' s' H'=>(pts_one (eN (pc_din (aJ hr) (pe_fldK (K:=K) rfl (pv 0) rfl) (pv 1)))))
  (λpins fp C' s' H'=>(pv 0))
  (Clos.many (ys:=["onward"]) rfl ⟨rfl,True.intro⟩ rfl (by decide+kernel)) (Reads.many (ys:=["onward"]) (js:=[3]) ⟨⟨rfl,rfl,rfl⟩,True.intro⟩))))))
  (af (aN (au (iV hr.units0) (pv 2) (aR ae)) (ah (ax (aR ae))) aA)
  (ah (ax (az (ok_ring_along T) hr aq (aa (pv 3) (aa (aH (al aM (pv 2) ab) rfl) ae)))))))))),?_⟩
 walk_at"q"
 refine bM (λσ' H'=>∃lw tw,σ'=[some (.ref p),some (.ref d),some (.ref lw),none,none]/\Same H H'/\H' lw=some (.lst tw)/\RowAt (WayIs a) H' tw (cZ ds ks)) ?_ ?_
 ·refine⟨d,.dK kvs,hd,(by intro o z e;cases e),_,rfl,d,kvs,rfl,hd,λo l nl=>?_⟩;have ndl:d≠l:=λz=>by rw[z,ag]at nl;cases nl
  have nl':H l=none:=by rw[ai ndl.symm]at nl;exact nl
  refine compG_dict (a:=d) (o:=o) (kvs:=kvs) (λi H2=>i<=ks.length/\H2 d=some (.frz o (.dK kvs))/\(∀b ob,H b=some ob->b≠d->H2 b=some ob)/\∃ts,H2 l=some (.lst ts)/\RowAt (WayIs a) H2 ts (cZ ds (ks.take i)))
   ⟨jU _,by rw[ai ndl,ag],(λb ob e ne=>by rw[ai (ar e nl'),ai ne];exact e),[],ag,RowAt.nil⟩ ((by rintro i H2⟨_,h,_⟩;exact h)) ?_ ?_
  ·rintro i kv H2 hkv⟨_,hf,k2,ts,hl2,hv⟩;obtain⟨n,en,e1,ev,_⟩:=tb.at_ ndk hkv;have hi:i<ks.length:=(jG.mp en).1;have ekv:kV kv.1=.str n:=by rw[e1];rfl
   rw[ekv];have hn2:=(off.but k2).at_;obtain⟨dx,dw,dy,hp,_,_⟩:=id hn2;have noc:=hX dw dy (m:="way") (by decide+kernel) (by decide+kernel);obtain⟨bi1,bi2⟩:=byN_in (hin n (jI en));refine g1 ⟨⟨[_],rfl,rfl⟩,yes ?_⟩;refine⟨_,rfl,p,a.Net,dx,_,1,["self","name"],d9 a,rfl,hp,noc,T.cl_Net,by decide,c9 T,_,rfl,p,ps,ds,byN ds n,by rw[bi2];rfl,hn2,nd,bi1,λv hx=>?_⟩;have lts:ts.length=i:=by rw[hv.1];unfold cZ;rw[jF,jT];lia
   refine⟨_,hl2,ay (by lia),dD (by rw[tb.len];exact hi) ⟨hi,by rw[ai ndl];exact hf,(λb ob e ne=>by rw[ai (ar e nl')];exact k2 _ _ e ne),_,ag,?_⟩⟩;unfold cZ;rw[jS,en,j0,jM];exact RowAt.snoc (hv.mono λv x z=>z.lst hl2) (hx.lst hl2)
  ·rintro H2⟨_,hf,k2,ts,hl2,hv⟩;rw[tb.len,jQ]at hv;refine⟨o,hf,l,ts,rfl,λb ob e=>?_,by rw[ai ndl.symm];exact hl2,hv.mono λv x z=>z.keep λb C dx' fs' _ e=>?_⟩
   ·by_cases hb:b=d
    ·subst hb;rw[ag,<-hd,e]
    ·rw[ai hb];exact k2 _ _ e hb
   ·rw[ai λz=>by rw[z,hf]at e;cases e];exact e
 rintro zU hzU σ' H1⟨lw,tw,rfl,s1,hlw,hrw⟩;have lws:(cZ ds ks).length=ks.length:=by unfold cZ;rw[jF]
 subst hzU;generalize hk9:iy _ _=k9
 revert k9
 refine fP λk9 hk9=>?_;generalize hws:cZ ds ks=ws at hrw lws k k0;refine⟨_,rfl,lw,tw,ws,rfl,SqL.of hlw,hrw,(by lia),λon Hb kv non sb hon tbn=>?_⟩;have sb2:=s1.trans sb;have hlwb:=sb _ _ hlw;have hrb:=hrw.mono λv x z=>z.mono sb;subst hk9;refine bM (λσ' H'=>∃lw tw on kv lk tk us,σ'=[some (.ref p),some (.ref d),some (.ref lw),some (.ref on),some (.ref lk)]/\Same H H'/\H' lw=some (.lst tw)/\RowAt (WayIs a) H' tw us/\H' on=some (.dK kv)/\Tab (WayIs a) H' kv (a9 (us.map (·.st))) (fOn us)/\H' lk=some (.lst tk)/\RowAt (WayIs a) H' tk (bT us)/\(∀x∈us,x∈cZ ds ks)/\us.length<=24/\(Acyc us->Acyc (cZ ds ks))) ?_ ?_
 ·refine⟨_,rfl,lw,rfl,⟨_,SqL.of hlwb⟩,λlk nlk=>?_⟩;refine de (K:=K) (a:=lw) (xs:=tw) (λj Hc=>j<=ws.length/\Same Hb Hc/\∃tk,Hc lk=some (.lst tk)/\RowAt (WayIs a) Hc tk ((ws.take j).filter λx=>decide (x.go∈ws.map (·.st)))) ⟨jU _,aC nlk,[],ag,RowAt.nil⟩ ((by rintro j Hc⟨_,sc,_⟩;exact SqL.of (sc _ _ hlwb))) ?_ ?_
  ·rintro j v Hc hv⟨_,sc,tk,hk,hrk⟩;obtain⟨x,ex,hx⟩:=hrb.get hv;have hj:=(jG.mp ex).1;have hxc:=hx.mono sc;obtain⟨p1,vh,vc,qx,rfl,W,hkd⟩:=id hxc;obtain⟨dx1,fs1,ho1,h51,_⟩:=id W.ob;have c1:=bV T x.kd
   have ltk:tk.length<=100:=by
    rw[hrk.1];exact jV (lB _ _) (by rw[jT];lia)
   have tkk:(ws.take (j+1)).filter (λx=>decide (x.go∈ws.map (·.st)))=(ws.take j).filter (λx=>decide (x.go∈ws.map (·.st)))++[x].filter (λx=>decide (x.go∈ws.map (·.st))):=by rw[jS,ex,j0,l7]
   refine g1 ⟨⟨[_],rfl,rfl⟩,?_⟩;refine⟨_,rfl,p1,_,dx1,fs1,_,rfl,ho1,c1.cl,c1.n3,h51.go,_,rfl,on,_,rfl,DGet.k (k:=Sum.inr x.go) (sc _ _ hon),_,rfl,?_⟩;by_cases hin:x.go∈ws.map (·.st)
   ·obtain⟨v',ev',_⟩:=tbn.vals x.go (mem_keysOf.mpr hin);rw[ev'];refine iteT ⟨_,rfl,_,hk,ay (by lia),dD (by rw[hrb.1];exact hj) ⟨hj,aF nlk sc,_,ag,?_⟩⟩;rw[tkk,kS (by exact j6 hin)];exact RowAt.snoc (hrk.mono λv x z=>z.lst hk) (hxc.lst hk)
   ·rw[tbn.none λz=>hin (mem_keysOf.mp z)];refine iteF (dD (by rw[hrb.1];exact hj) ⟨hj,sc,tk,hk,?_⟩);rw[tkk,lj (by simpa using hin),List.filter_nil,ly];exact hrk
  ·rintro Hc⟨_,sc,tk,hk,hrk⟩;rw[hrb.1,jQ]at hrk;exact⟨lw,tw,on,kv,lk,tk,ws,rfl,sb2.trans sc,sc _ _ hlwb,hrb.mono λv x z=>z.mono sc,sc _ _ hon,tbn.mono λv x z=>z.mono sc,hk,hrk,λx hx=>by rw[hws];exact hx,by lia,λh=>by rw[hws];exact h⟩
 rintro zU hzU σ' H2⟨lw2,tw2,on,kv,lk,tk,us,rfl,s2,hlw2,hrw2,hon,tbn,hlk,hrk,sub,lus,back⟩;subst hzU;refine bM (λσ' H'=>∃lw tw on kv lk tk us,σ'=[some (.ref p),some (.ref d),some (.ref lw),some (.ref on),some (.ref lk)]/\Same H H'/\H' lw=some (.lst tw)/\RowAt (WayIs a) H' tw us/\H' on=some (.dK kv)/\Tab (WayIs a) H' kv (a9 (us.map (·.st))) (fOn us)/\H' lk=some (.lst tk)/\RowAt (WayIs a) H' tk (bT us)/\(∀x∈us,x∈cZ ds ks)/\us.length<=24/\(Acyc us->Acyc (cZ ds ks))/\∀x∈us,x.go∈us.map (·.st)) ?_ ?_
 ·refine⟨λm σ H3=>∃lw tw on kv lk tk us,m=us.length/\σ=[some (.ref p),some (.ref d),some (.ref lw),some (.ref on),some (.ref lk)]/\Same H H3/\H3 lw=some (.lst tw)/\RowAt (WayIs a) H3 tw us/\H3 on=some (.dK kv)/\Tab (WayIs a) H3 kv (a9 (us.map (·.st))) (fOn us)/\H3 lk=some (.lst tk)/\RowAt (WayIs a) H3 tk (bT us)/\(∀x∈us,x∈cZ ds ks)/\us.length<=24/\(Acyc us->Acyc (cZ ds ks)),⟨_,lw2,tw2,on,kv,lk,tk,us,rfl,rfl,s2,hlw2,hrw2,hon,tbn,hlk,hrk,sub,lus,back⟩,?_⟩;clear hlw2 hrw2 hon tbn hlk hrk sub lus back s2;rintro m σ H3⟨lw3,tw3,on3,kv3,lk3,tk3,vs,rfl,rfl,s3,hlw3,hrw3,hon3,tbn3,hlk3,hrk3,sub3,lus3,back3⟩;refine⟨_,rfl,lk3,_,rfl,.inl (SqL.of hlk3),_,rfl,lw3,_,rfl,.inl (SqL.of hlw3),_,_,rfl,rfl,_,rfl,?_⟩;have e1:=hrk3.1;have e2:=hrw3.1;by_cases lt:(bT vs).length<vs.length
  case neg=>exact cL (jY (by lia)) ⟨lw3,tw3,on3,kv3,lk3,tk3,vs,rfl,s3,hlw3,hrw3,hon3,tbn3,hlk3,hrk3,sub3,lus3,back3,kept_all lt⟩
  refine iteC (j6 (by lia)) ⟨λσ' H'=>∃lw tw on kv lk tk,σ'=[some (.ref p),some (.ref d),some (.ref lw),some (.ref on),some (.ref lk)]/\Same H H'/\H' lw=some (.lst tw)/\RowAt (WayIs a) H' tw (bT vs)/\H' on=some (.dK kv)/\Tab (WayIs a) H' kv (a9 ((bT vs).map (·.st))) (fOn (bT vs))/\H' lk=some (.lst tk)/\RowAt (WayIs a) H' tk (bT (bT vs)),(by rintro σ' H'⟨lw,tw,on,kv,lk,tk,e,s',h1,h2,h3,h4,h5,h6⟩;exact⟨(bT vs).length,lt,lw,tw,on,kv,lk,tk,bT vs,rfl,e,s',h1,h2,h3,h4,h5,h6,λx hx=>sub3 x (mem_kept.mp hx).1,by lia,λh=>back3 h.back⟩),?_⟩;refine⟨_,rfl,?_⟩;have lkv:(bT vs).length<=100:=by lia
  refine⟨_,rfl,lk3,tk3,(bT vs),rfl,SqL.of hlk3,hrk3,lkv,λon Hb kv non sb hon tbn=>?_⟩;have sb2:=s3.trans sb;have hlwb:=sb _ _ hlk3;have hrb:=hrk3.mono λv x z=>z.mono sb;refine⟨_,rfl,lk3,rfl,⟨_,SqL.of hlwb⟩,λlk nlk=>?_⟩;refine de (K:=K) (a:=lk3) (xs:=tk3) (λj Hc=>j<=(bT vs).length/\Same Hb Hc/\∃tk,Hc lk=some (.lst tk)/\RowAt (WayIs a) Hc tk (((bT vs).take j).filter λx=>decide (x.go∈(bT vs).map (·.st)))) ⟨jU _,aC nlk,[],ag,RowAt.nil⟩ ((by rintro j Hc⟨_,sc,_⟩;exact SqL.of (sc _ _ hlwb))) ?_ ?_
  ·rintro j v Hc hv⟨_,sc,tk,hk,hrk⟩;obtain⟨x,ex,hx⟩:=hrb.get hv;have hj:=(jG.mp ex).1;have hxc:=hx.mono sc;obtain⟨p1,vh,vc,qx,rfl,W,hkd⟩:=id hxc;obtain⟨dx1,fs1,ho1,h51,_⟩:=id W.ob;have c1:=bV T x.kd
   have ltk:tk.length<=100:=by
    rw[hrk.1];exact jV (lB _ _) (by rw[jT];lia)
   have tkk:((bT vs).take (j+1)).filter (λx=>decide (x.go∈(bT vs).map (·.st)))=((bT vs).take j).filter (λx=>decide (x.go∈(bT vs).map (·.st)))++[x].filter (λx=>decide (x.go∈(bT vs).map (·.st))):=by rw[jS,ex,j0,l7]
   refine g1 ⟨⟨[_],rfl,rfl⟩,?_⟩;refine⟨_,rfl,p1,_,dx1,fs1,_,rfl,ho1,c1.cl,c1.n3,h51.go,_,rfl,on,_,rfl,DGet.k (k:=Sum.inr x.go) (sc _ _ hon),_,rfl,?_⟩;by_cases hin:x.go∈(bT vs).map (·.st)
   ·obtain⟨v',ev',_⟩:=tbn.vals x.go (mem_keysOf.mpr hin);rw[ev'];refine iteT ⟨_,rfl,_,hk,ay (by lia),dD (by rw[hrb.1];exact hj) ⟨hj,aF nlk sc,_,ag,?_⟩⟩;rw[tkk,kS (by exact j6 hin)];exact RowAt.snoc (hrk.mono λv x z=>z.lst hk) (hxc.lst hk)
   ·rw[tbn.none λz=>hin (mem_keysOf.mp z)];refine iteF (dD (by rw[hrb.1];exact hj) ⟨hj,sc,tk,hk,?_⟩);rw[tkk,lj (by simpa using hin),List.filter_nil,ly];exact hrk
  ·rintro Hc⟨_,sc,tk,hk,hrk⟩;rw[hrb.1,jQ]at hrk;exact⟨lk3,tk3,on,kv,lk,tk,rfl,sb2.trans sc,sc _ _ hlwb,hrb.mono λv x z=>z.mono sc,sc _ _ hon,tbn.mono λv x z=>z.mono sc,hk,hrk⟩
 rintro zU hzU σ' H3⟨lw3,tw3,on3,kv3,lk3,tk3,vs,rfl,s3,hlw3,hrw3,hon3,tbn3,hlk3,hrk3,sub3,lus3,back3,all⟩;subst hzU;refine⟨_,rfl,by decide,λe0 ne0=>?_⟩;obtain⟨H4,zq,s4,he⟩:=uG (o:=.lst []) ne0;rw[zq];have s34:=s3.trans s4;have hlw4:=s4 _ _ hlw3;refine⟨lw3,e0,_,rfl,rfl,SqL.of hlw4,SqL.of he,_,rfl,?_⟩
 cases tw3 with
 |nil=>
  refine iteT ⟨by decide,λl nl=>k0 l _ (s34.free nl) (s34.trans (aC nl)) ag ?_⟩
  have:vs=[]:=List.length_eq_zero_iff.mp hrw3.1.symm
  rw[this,hws]at back3;exact back3 Acyc.nil
 |cons t0 tr=>
  obtain⟨x0,ex0,hx0⟩:=(hrw3.mono λv x z=>z.mono s4).get (i:=0) (t:=t0) rfl;obtain⟨p1,vh,vc,qx,rfl,W,hkd⟩:=id hx0;obtain⟨dx1,fs1,ho1,h51,_⟩:=id W.ob;have c1:=bV T x0.kd;refine iteF ⟨_,rfl,_,rfl,lw3,_,_,_,rfl,rfl,SqL.of hlw4,atI_nat (j:=0) rfl,p1,_,dx1,fs1,_,rfl,ho1,c1.cl,c1.n2,h51.st,?_⟩;have kin:∀{q:Str},q∈a9 (vs.map (·.st))->onw vs q=some (fOn vs q):=λhq=>fOn_at (mem_keysOf.mp hq);refine⟨on3,x0.st,kv3,a9 (vs.map (·.st)),fOn vs,ws,rfl,s4 _ _ hon3,tbn3.mono λv x z=>z.mono s4,λq hq=>?_,λq hq=>?_,mem_keysOf.mpr (jL.mpr ⟨x0,jI ex0,rfl⟩),?_,λl H5 ring nl s5 hl5 rg=>k l H5 ring (s34.free nl) (s34.trans s5) hl5 rg⟩
  ·obtain⟨h1,h2⟩:=onw_some (kin hq);exact⟨h2,mem_keysOf.mpr (all _ h1)⟩
  ·have:=sub3 _ (onw_some (kin hq)).1
   rw[hws]at this;exact this
  ·have:=cy (vs.map (·.st))
   rw[jF]at this
   lia
end
end G
namespace G
open PySem L2
section
structure WkS(n:Nat)(ds:List WD):Prop where
 b:∀d∈ds,SmR d.x/\Bd n (aD d.kd d.x)
 l:ds.length*n<=800
 n:n<=800
 len:ds.length<=6
 nd:(ds.map (·.nm)).Nodup
theorem WkS.g{n:Nat}(h:WkS n ds):Bd 800 (aB ds):=by
 have:=jy ds (λd hd=>(h.b d hd).2) ds.length (jJ _)
 rw[jQ]at this;exact this.mono h.l
theorem Bd.s9(h:Bd n x)(hn:n<9000:=by decide):SmR x:=h.smr hn
noncomputable def sA(x:Rat)(ds:List WD)(n:Str):Rat:=(occ (b6 x ds) n).sum
theorem iw(x:Rat)(ds:List WD):going x ds=x*aB ds:=by
 unfold going aB;generalize hy:(1:Rat)=y
 have h:∀(ds:List WD)(x y z:Rat),x=z*y->ds.foldl (λy d=>y*aD d.kd d.x) x=z*ds.foldl (λy d=>y*aD d.kd d.x) y:=by
  intro ds
  induction ds with
  |nil=>intro x y z e;exact e
  |cons d r ih=>
   intro x y z e;rw[lZ,lZ];exact ih _ _ z (by rw[e,Rat.mul_assoc])
 exact h ds x y x (by rw[<-hy,Rat.mul_one])
theorem WkS.going{n m:Nat}{ds:List WD}(S:WkS n ds){x:Rat}(hx:Bd m x){i:Nat}(hi:i<=ds.length):Bd (m+800) (going x (ds.take i)):=by
 rw[iw]
 have:=jy ds (λd hd=>(S.b d hd).2) i hi
 have h2:i*n<=800:=jV (Nat.mul_le_mul_right _ hi) S.l;exact hx.mul (this.mono h2)
theorem WkS.occ{n m:Nat}{ds:List WD}(S:WkS n ds){x:Rat}(hx:Bd m x)(nm:Str):∀i,i<=ds.length->(nm∉(ds.take i).map (·.nm)->occ (b6 x (ds.take i)) nm=[])/\(occ (b6 x (ds.take i)) nm=[]∨∃y,occ (b6 x (ds.take i)) nm=[y]/\Bd (m+800) y)
 |0,_=>⟨λ_=>rfl,.inl rfl⟩
 |i+1,h=>by
  obtain⟨h1,h2⟩:=WkS.occ S hx nm i (by omega);have ed:=jH (l:=ds) (i:=i) (by omega);generalize hd:ds[i]'_=d at ed;have tk:ds.take (i+1)=ds.take i++[d]:=by rw[jS,ed,j0]
  rw[tk,iT,occ_snoc,jM];by_cases e:d.nm=nm
  ·rw[if_pos e]
   have nin:nm∉(ds.take i).map (·.nm):=λz=>by
    have nd:=S.nd;rw[<-List.take_append_drop (i+1) ds,tk,List.append_assoc,jM,jM]at nd;exact(ky.mp nd).2.2 nm z nm (by rw[<-e];simp) rfl
   rw[h1 nin];exact⟨λz=>absurd (j8 _ (by simp[e])) z,.inr ⟨_,rfl,S.going hx (by omega)⟩⟩
  ·rw[if_neg e];exact⟨λz=>h1 λq=>z (jX _ q),h2⟩
theorem WkS.all{n m:Nat}(S:WkS n ds)(hx:Bd m x)(nm:Str):(nm∉ds.map (·.nm)->G.occ (b6 x ds) nm=[])/\(G.occ (b6 x ds) nm=[]∨∃y,G.occ (b6 x ds) nm=[y]/\Bd (m+800) y):=by
 have:=S.occ hx nm ds.length (jJ _)
 rw[jQ]at this;exact this
theorem WkS.sA{n m:Nat}{ds:List WD}(S:WkS n ds){x:Rat}(hx:Bd m x)(nm:Str):Bd (m+800) (sA x ds nm):=by
 unfold G.sA;rcases(S.all hx nm).2 with e|⟨y,e,h⟩
 ·rw[e];exact Bd.zero.mono (by omega)
 ·rw[e,List.sum_cons,List.sum_nil,Rat.add_zero];exact h
noncomputable def PlanA(a:Ad)(H:Hp)(r:Addr)(A:Str->Rat)(m:Nat):Prop:=∃kvs ks,H r=some (.dK kvs)/\Tab (FrIs a) H kvs ks A/\ks.Nodup/\ks.length<=m/\∀n,n∈ks↔A n≠0
theorem PlanA.mono(h:PlanA a H r A m)(s:Same H H'):PlanA a H' r A m:=by
 obtain⟨kvs,ks,h1,h2,h3⟩:=h;exact⟨kvs,ks,s _ _ h1,h2.mono λ_ _ z=>z.mono s,h3⟩
theorem Tab.congr'(h:Tab (FrIs a) H kvs ks f)(e:∀n∈ks,f n=g n):Tab (FrIs a) H kvs ks g:=⟨h.keys,λn hn=>by obtain⟨v,e1,e2⟩:=h.vals n hn;exact⟨v,e1,by rw[<-e n hn];exact e2⟩⟩
theorem jc(f:Str->Rat)(ks:List Str):(dL f ks).length<=ks.length:=lB _ _
theorem mem_some0:n∈dL f ks↔n∈ks/\f n≠0:=by unfold dL;rw[lT,decide_eq_true_eq]
theorem jb(h:ks.Nodup):(dL f ks).Nodup:=List.Pairwise.filter _ h
inductive IspSentA(K:W.Frag)(a:Ad)(vs:List V)(H:Hp)(Q:VK):Prop
 |mk(p l q:Addr)(ps:List (Str×Rat))(ns ds:List WD)(x:Rat)(n m:Nat)(h1:vs=[.ref p,.ref l,.ref q])(h2:OnNet K a H p l ps ns ds)(h3:FrAt a.Fraction H q x)(h4:WkS n ds)(h5:Bd m x)(h6:m<=3000)(h7:∀r H',H r=none->Same H H'->PlanA a H' r (sA x ds) 6->Q (.ref r) H'):IspSentA K a vs H Q
noncomputable def spSentA(K:W.Frag)(a:Ad):Sp:=λvs H Q _=>IspSentA K a vs H Q
theorem sentA(T:TX K mg a):FnB P w K mg base CX0 "sent" 9 ["net","walk","amount"] (spSentA K a):=by
 refine(ok_sent T).imp λvs H Q E h=>?_;obtain⟨p,l,q,ps,ns,ds,x,n,m,rfl,O,fq,S,hx,hm,k⟩:=h;refine⟨p,l,q,ps,ns,ds,x,rfl,O,fq,λd hd=>⟨(S.b d hd).1,(S.b d hd).2.smr (by have:=S.n;lia)⟩,λi hi=>(S.going hx hi).smr (by lia),λnm=>?_,λr H1 kvs nr s1 h1 tb=>k r H1 nr s1 ⟨kvs,_,h1,tb,jb (dR _),?_,λnm=>?_⟩⟩
 ·rcases(S.all hx nm).2 with e|⟨y,e,h⟩
  ·rw[e];exact⟨0,.nil,by decide⟩
  ·rw[e];exact⟨0+(m+800+1),.snoc .nil h,by lia⟩
 ·have h1:=jc (λn=>(occ (b6 x ds) n).sum) (a9 (ds.map (·.nm)));have h2:=cy (ds.map (·.nm));rw[jF]at h2
  have:=S.len
  lia
 ·rw[mem_some0];constructor
  ·exactλz=>z.2
  ·intro z;refine⟨mem_keysOf.mpr (kn λq=>z ?_),z⟩;show(occ (b6 x ds) nm).sum=0;rw[(S.all hx nm).1 q];rfl
inductive IspTogA(a:Ad)(vs:List V)(H:Hp)(Q:VK):Prop
 |mk(d e:Addr)(A B:Str->Rat)(m n b:Nat)(h1:vs=[.ref d,.ref e])(h2:PlanA a H d A m)(h3:PlanA a H e B n)(h4:m+n<=900)(h5:(∀x,Bd b (A x)/\Bd b (B x)))(h6:b<9000)(h7:∀r H',H r=none->Same H H'->PlanA a H' r (λx=>A x+B x) (m+n)->Q (.ref r) H'):IspTogA a vs H Q
noncomputable def spTogA(a:Ad):Sp:=λvs H Q _=>IspTogA a vs H Q
theorem ib(h:∀n,n∈ks↔A n≠0)(n:Str):aS ks A n=A n:=by
 unfold aS;by_cases e:n∈ks
 ·rw[if_pos e]
 ·rw[if_neg e];exact(kn λz=>e ((h n).mpr λq=>z q.symm))
theorem bothK_le(k1 k2:List Str):(dM k1 k2).length<=k1.length+k2.length:=by
 unfold dM
 induction k2 generalizing k1 with
 |nil=>exact jJ _
 |cons x r ih=>
  have:=ih (addK k1 x)
  have h2:(addK k1 x).length<=k1.length+1:=by unfold addK;split;lia;rw[jO];exact jJ _
  rw[lZ,kz]
  lia
theorem bothK_nd(h:k1.Nodup):(dM k1 k2).Nodup:=by
 unfold dM
 induction k2 generalizing k1 with
 |nil=>exact h
 |cons x r ih=>rw[lZ];exact ih (nodup_addK h)
theorem togA(T:TX K mg a):FnB P w K mg base CX0 "together" 6 ["one","other"] (spTogA a):=by
 refine(ok_together T).imp λvs H Q E h=>?_;obtain⟨d,e,A,B,m,n,b,rfl,⟨kv1,ks1,h1,t1,nd1,l1,i1⟩,⟨kv2,ks2,h2,t2,nd2,l2,i2⟩,mn,bd,b9,k⟩:=h;refine⟨d,e,kv1,kv2,ks1,ks2,A,B,rfl,h1,t1,nd1,h2,t2,nd2,by lia,λx _=>⟨by rw[ib i1];exact(bd x).1.smr b9,(bd x).2.smr b9⟩,λr H1 kvs nr s1 hr tb=>k r H1 nr s1 ⟨kvs,dL (sumA ks1 A ks2 B) (dM ks1 ks2),hr,?_,jb (bothK_nd nd1),?_,λx=>?_⟩⟩
 ·exact tb.congr' λx _=>by unfold sumA;rw[ib i1,ib i2]
 ·have:=jc (sumA ks1 A ks2 B) (dM ks1 ks2)
  have:=bothK_le ks1 ks2
  lia
 ·rw[mem_some0,mem_bothK];unfold sumA;rw[ib i1,ib i2];constructor
  ·exactλz=>z.2
  ·intro z;refine⟨?_,z⟩;by_cases e:A x=0
   ·refine .inr ((i2 x).mpr λq=>z ?_);show A x+B x=0;rw[e,q,Rat.add_zero]
   ·exact .inl ((i1 x).mpr e)
noncomputable def con(d:WD)(y:Rat)(s:Str):Rat:=if s=d.go then y*aD d.kd d.x else if s=d.st then-y else 0
theorem dt(h:d.st≠d.go)(s:Str):sumStep A F d s=F s+con d (A d.nm) s:=by
 unfold sumStep con upf;by_cases h1:s=d.go
 ·rw[if_pos h1,if_pos h1,h1]
 ·rw[if_neg h1,if_neg h1];by_cases h2:s=d.st
  ·rw[if_pos h2,if_pos h2,h2];grind
  ·rw[if_neg h2,if_neg h2];grind
theorem con_add(d:WD)(y z:Rat)(s:Str):con d (y+z) s=con d y s+con d z s:=by
 unfold con
 split
 ·grind
 ·split<;>grind
theorem sumF_upd:∀ds:List WD,(∀d∈ds,d.st≠d.go)->(ds.map (·.nm)).Nodup->∀s,(¬n∈ds.map (·.nm)->aZ (λm=>if m=n then A m+g else A m) ds s=aZ A ds s)/\(∀d∈ds,d.nm=n->aZ (λm=>if m=n then A m+g else A m) ds s=aZ A ds s+con d g s):=by
 refine cu ?_ ?_
 ·intro _ _ s;exact⟨λ_=>rfl,λd hd=>absurd hd j9⟩
 ·intro ds d ih ne nd s;rw[jM]at nd;obtain⟨nd1,_,nd2⟩:=ky.mp nd;obtain⟨i1,i2⟩:=ih (λz hz=>ne z (jX _ hz)) nd1 s;have hd:=ne d (by simp);rw[dS,dS,dt hd,dt hd];refine⟨λhn=>?_,λe he en=>?_⟩
  ·rw[jM,jP]at hn;rw[i1 λz=>hn (.inl z),if_neg λz=>hn (.inr (by simp[z]))]
  ·rcases jP.mp he with h|h
   ·have hdn:d.nm≠n:=λz=>nd2 e.nm (jL.mpr ⟨e,h,rfl⟩) d.nm (by simp) (by rw[en,z]);rw[i2 e h en,if_neg hdn];grind
   ·have:=jN.mp h
    subst this;have hnd:¬n∈ds.map (·.nm):=λz=>nd2 n z e.nm (by simp) en.symm;rw[i1 hnd,if_pos en,con_add];grind
noncomputable def ja(p q:Str)(x y:Rat)(s:Str):Rat:=(if s=q then y else 0)-(if s=p then x else 0)
noncomputable def mns(A:Str->Rat)(l:List WD)(x:Rat)(n:Str):Rat:=A n-sA x l n
theorem sA_nil(x:Rat)(n:Str):sA x [] n=0:=rfl
theorem ii(x:Rat)(d:WD)(r:List WD)(n:Str):sA x (d::r) n=(if n=d.nm then x else 0)+sA (x*aD d.kd d.x) r n:=by
 unfold sA;show(occ ((d.nm,x)::b6 (x*aD d.kd d.x) r) n).sum=_;unfold occ;rw[List.filter_cons];by_cases h:d.nm=n
 ·rw[if_pos (by exact j6 h),lv,List.sum_cons,if_pos h.symm]
 ·rw[if_neg (by simpa using h),if_neg λz=>h z.symm,Rat.zero_add]
theorem going_cons(x:Rat)(d:WD)(r:List WD):going x (d::r)=going (x*aD d.kd d.x) r:=rfl
theorem sA_mul(x:Rat)(n:Str):∀(l:List WD)(y:Rat),sA (x*y) l n=x*sA y l n
 |[],y=>by rw[sA_nil,sA_nil,Rat.mul_zero]
 |d::r,y=>by
  rw[ii,ii,Rat.mul_assoc,sA_mul x n r]
  split<;>grind
theorem eM(x:Rat)(l:List WD)(n:Str):sA x l n=x*sA 1 l n:=by
 have:=sA_mul x n l 1
 rw[Rat.mul_one]at this;exact this
theorem g8:∀{l:List WD}{x:Rat},¬n∈l.map (·.nm)->sA x l n=0
 |[],_,_=>rfl
 |d::r,x,h=>by
  rw[ii,if_neg λz=>h (by rw[z];exact j4),g8 λz=>h (jW _ z),Rat.zero_add]
theorem sumF_walk(ne:∀d∈ns,d.st≠d.go)(nd:(ns.map (·.nm)).Nodup):∀(l:List WD)(A:Str->Rat)(p:Str)(x:Rat),PthW p l q->(∀d∈l,d∈ns)->aZ (mns A l x) ns s=aZ A ns s-ja p q x (going x l) s
 |[],A,p,x,h,_=>by
  have e:mns A [] x=A:=funext λn=>by
   unfold mns;rw[sA_nil];grind
  rw[e];have h:p=q:=h;unfold ja going;rw[h,List.foldl_nil];grind
 |d::r,A,p,x,h,sub=>by
  have hd:=sub d j4
  have e:mns A (d::r) x=mns (λm=>if m=d.nm then A m+-x else A m) r (x*aD d.kd d.x):=funext λn=>by
   unfold mns;rw[ii];show A n-_=(if n=d.nm then A n+-x else A n)-_
   split<;>grind
  rw[e,sumF_walk ne nd r _ _ _ h.2 (λy hy=>sub y (jW _ hy)),(sumF_upd ns ne nd s).2 d hd rfl,<-h.1,going_cons]
  have:=ne d hd
  unfold con ja;by_cases c1:s=d.go
  ·rw[if_pos c1,if_pos c1,if_neg (c:=s=d.st) (λz=>this (by rw[<-z,c1]))];grind
  ·rw[if_neg c1,if_neg c1];by_cases c2:s=d.st
   ·rw[if_pos c2,if_pos c2];grind
   ·rw[if_neg c2,if_neg c2];grind
theorem eZ{x y:Rat}(h:0<=x)(k:0<=y):0<=x*y:=Rat.mul_nonneg h k
theorem cK{x y:Rat}(h:0<x)(k:0<y):0<x*y:=Rat.mul_pos h k
theorem no_out(nn:∀n,0<=A n):∀ns:List WD,(∀d∈ns,d.st≠d.go)->(∀d∈ns,0<aD d.kd d.x)->(∀d∈ns,d.st=s->A d.nm=0)->0<=aZ A ns s/\∀e∈ns,e.go=s->A e.nm*aD e.kd e.x<=aZ A ns s:=by
 refine cu (λ_ _ _=>⟨Rat.le_refl,λe he=>absurd he j9⟩) λus d ih ne g1 no=>?_;obtain⟨h1,h2⟩:=ih (λz hz=>ne z (jX _ hz)) (λz hz=>g1 z (jX _ hz)) λz hz=>no z (jX _ hz);have dm:d∈us++[d]:=by simp
 have hc:0<=con d (A d.nm) s/\(d.go=s->con d (A d.nm) s=A d.nm*aD d.kd d.x):=by
  unfold con
  have:=eZ (nn d.nm) (kI (g1 d dm))
  by_cases c1:s=d.go
  ·rw[if_pos c1];exact⟨this,λ_=>rfl⟩
  ·rw[if_neg c1];refine⟨?_,λz=>absurd z.symm c1⟩;by_cases c2:s=d.st
   ·rw[if_pos c2,no d dm c2.symm];grind
   ·rw[if_neg c2];exact Rat.le_refl
 rw[dS,dt (ne d dm)];refine⟨by grind,λe he hs=>?_⟩;rcases jP.mp he with z|z
 ·have:=h2 e z hs
  grind
 ·rw[jN.mp z]at hs⊢
  have:=hc.2 hs
  grind
theorem no_in(nn:∀n,0<=A n):∀ns:List WD,(∀d∈ns,d.st≠d.go)->(∀d∈ns,d.go=s->A d.nm=0)->aZ A ns s<=0/\∀e∈ns,e.st=s->aZ A ns s<=-A e.nm:=by
 refine cu (λ_ _=>⟨Rat.le_refl,λe he=>absurd he j9⟩) λus d ih ne no=>?_;obtain⟨h1,h2⟩:=ih (λz hz=>ne z (jX _ hz)) λz hz=>no z (jX _ hz);have dm:d∈us++[d]:=by simp
 have hc:con d (A d.nm) s<=0/\(d.st=s->con d (A d.nm) s=-A d.nm):=by
  unfold con
  have:=nn d.nm
  by_cases c1:s=d.go
  ·rw[if_pos c1,no d dm c1.symm];exact⟨by grind,λz=>absurd (z.trans c1) (ne d dm)⟩
  ·rw[if_neg c1];by_cases c2:s=d.st
   ·rw[if_pos c2];grind
   ·rw[if_neg c2];exact⟨Rat.le_refl,λz=>absurd z.symm c2⟩
 rw[dS,dt (ne d dm)];refine⟨by grind,λe he hs=>?_⟩;rcases jP.mp he with z|z
 ·have:=h2 e z hs
  grind
 ·rw[jN.mp z]at hs⊢
  have:=hc.2 hs
  grind
theorem goes_on(nn:∀n,0<=A n)(ne:∀d∈ns,d.st≠d.go)(g1:∀d∈ns,0<aD d.kd d.x)(h:aZ A ns s<0∨aZ A ns s<=0/\∃e∈ns,e.go=s/\A e.nm≠0):∃d∈ns,d.st=s/\A d.nm≠0:=by
 refine kn λz=>?_;obtain⟨h1,h2⟩:=no_out nn ns ne g1 λd hd hs=>kn λq=>z ⟨d,hd,hs,q⟩;rcases h with h|⟨h,e,he,hs,h3⟩
 ·grind
 ·have:=h2 e he hs
  have h4:=nn e.nm
  have:=cK (show 0<A e.nm by grind) (g1 e he)
  grind
theorem none_left(nn:∀n,0<=A n)(ne:∀d∈ns,d.st≠d.go)(ac:Acyc ws)(sub:∀d∈ns,A d.nm≠0->d∈ws)(ge:∀d∈ns,0<=aZ A ns d.st):∀d∈ns,A d.nm=0:=by
 obtain⟨rk,hr⟩:=ac
 obtain⟨M,hM⟩:∃M,∀d∈ns,rk d.st<=M:=by
  clear ge sub ne
  induction ns with
  |nil=>exact⟨0,λd hd=>absurd hd j9⟩
  |cons x r ih=>
   obtain⟨M,h⟩:=ih;refine⟨max M (rk x.st),λd hd=>?_⟩;rcases j3.mp hd with rfl|z
   ·exact Nat.le_max_right _ _
   ·exact jV (h d z) (Nat.le_max_left _ _)
 have key:∀k,∀d∈ns,A d.nm≠0->M<rk d.st+k->False:=by
  intro k
  induction k with
  |zero=>exactλd hd _ h=>absurd (hM d hd) (by lia)
  |succ k ih=>
   intro d hd h0 hk
   have:∃e∈ns,e.go=d.st/\A e.nm≠0:=kn λz=>by
    obtain⟨_,h2⟩:=no_in nn ns ne (s:=d.st) λe he hs=>kn λq=>z ⟨e,he,hs,q⟩
    have:=h2 d hd rfl
    have:=ge d hd
    have:=nn d.nm
    grind
   obtain⟨e,he,hs,h3⟩:=this
   have:=hr e (sub e he h3)
   exact ih e he h3 (by rw[hs]at this;lia)
 exactλd hd=>kn λz=>key (M+1) d hd z (by lia)
noncomputable def Gq(D:Nat)(x:Rat):Prop:=∃i:Int,x*(D:Rat)=(i:Rat)
theorem Gq.zero:Gq D 0:=⟨0,by rw[Rat.zero_mul];rfl⟩
theorem Gq.one:Gq D 1:=⟨D,by rw[Rat.one_mul];rfl⟩
theorem Gq.add(h:Gq D x)(k:Gq D y):Gq D (x+y):=by
 obtain⟨i,h⟩:=h;obtain⟨j,k⟩:=k;exact⟨i+j,by rw[Rat.intCast_add];grind⟩
theorem Gq.neg(h:Gq D x):Gq D (-x):=by
 obtain⟨i,h⟩:=h;exact⟨-i,by rw[Rat.intCast_neg];grind⟩
theorem Gq.sub(h:Gq D x)(k:Gq D y):Gq D (x-y):=by
 rw[Rat.sub_eq_add_neg];exact h.add k.neg
theorem Gq.mul(h:Gq D x)(k:Gq E y):Gq (D*E) (x*y):=by
 obtain⟨i,h⟩:=h;obtain⟨j,k⟩:=k;refine⟨i*j,?_⟩;rw[k8,Rat.natCast_mul,<-h,<-k];grind
theorem Gq.mono(h:Gq D x)(d:D∣E):Gq E x:=by
 obtain⟨c,rfl⟩:=d
 have:=h.mul (Gq.one (D:=c))
 rw[Rat.mul_one]at this;exact this
theorem Gq.bd(h:Gq D x)(x0:0<=x)(xm:x<=((2^m:Nat):Rat))(d0:0<D)(dn:D<=2^n):Bd (m+n) x:=by
 obtain⟨i,h⟩:=h;have dp:(0:Rat)<(D:Rat):=by exact_mod_cast d0
 have e:x=Rat.divInt i (D:Int):=by
  rw[lA,<-h];show x=x*(D:Rat)/(D:Rat);grind
 have i0:(0:Rat)<=((i:Int):Rat):=by rw[<-h];exact eZ x0 (kI dp)
 have i1:((i:Int):Rat)<=(((2^m*D:Nat):Int):Rat):=by
  rw[<-h,Int.natCast_mul,k8];exact lC xm (kI dp)
 have b0:0<=i:=by exact_mod_cast i0
 have b1:i<=((2^m*D:Nat):Int):=by exact_mod_cast i1
 have b2:2^m*D<=2^(m+n):=by rw[lN];exact Nat.mul_le_mul_left _ dn
 rw[e];exact Bd.divInt (by lia) (by have:=pow_le (show n<=m+n by lia);lia)
structure GnE(E:Nat)(d:WD):Prop where
 ps:0<aD d.kd d.x
 g:Gq E (aD d.kd d.x)
 i:Gq E (aD d.kd d.x)⁻¹
theorem gC{x:Rat}(h:0<x):0<x⁻¹:=Rat.inv_pos.mpr h
theorem jA:∀{l:List WD},(∀d∈l,GnE E d)->0<going 1 l/\Gq (E^l.length) (going 1 l)/\Gq (E^l.length) (going 1 l)⁻¹:=by
 refineλ{l}=>cu (P:=λl=>(∀d∈l,GnE E d)->0<going 1 l/\Gq (E^l.length) (going 1 l)/\Gq (E^l.length) (going 1 l)⁻¹) (λ_=>⟨by decide+kernel,Gq.one,by rw[show(going 1 [])⁻¹=1 by decide+kernel];exact Gq.one⟩) (λus u ih h=>?_) l;obtain⟨h1,h2,h3⟩:=ih λd hd=>h d (jX _ hd);have hu:=h u (by simp);rw[iZ,jO,kr,Nat.pow_succ];refine⟨cK h1 hu.ps,h2.mul hu.g,?_⟩
 have e:(going 1 us*aD u.kd u.x)⁻¹=(going 1 us)⁻¹*(aD u.kd u.x)⁻¹:=by
  have a1:=j7 _ (show going 1 us≠0 by grind);have a2:=j7 _ (show aD u.kd u.x≠0 by have:=hu.ps;grind);have a3:=j7 _ (show going 1 us*aD u.kd u.x≠0 by have:=cK h1 hu.ps;grind);grind
 rw[e];exact h3.mul hu.i
theorem sA_pre(nd:(l.map (·.nm)).Nodup)(hd:d∈l):∃i,i<l.length/\sA 1 l d.nm=going 1 (l.take i):=by
 revert nd hd
 refine cu (P:=λl=>(l.map (·.nm)).Nodup->d∈l->∃i,i<l.length/\sA 1 l d.nm=going 1 (l.take i)) (λ_ h=>absurd h j9) (λus u ih nd hd=>?_) l;rw[jM]at nd;obtain⟨n1,_,n2⟩:=ky.mp nd
 have st:sA 1 (us++[u]) d.nm=(if u.nm=d.nm then sA 1 us d.nm+going 1 us else sA 1 us d.nm):=by
  unfold sA;rw[iT,occ_snoc]
  split
  ·rw[sum_snoc]
  ·rfl
 rw[st,jO,kr];rcases jP.mp hd with z|z
 ·obtain⟨i,h1,h2⟩:=ih n1 z;have ne:u.nm≠d.nm:=λe=>n2 d.nm (jL.mpr ⟨d,z,rfl⟩) u.nm (by simp) e.symm;rw[if_neg ne];exact⟨i,by lia,by rw[List.take_append_of_le_length (by lia)];exact h2⟩
 ·rw[jN.mp z,if_pos rfl,g8 λq=>n2 u.nm q u.nm (by simp) rfl,Rat.zero_add];exact⟨us.length,by lia,by rw[List.take_left]⟩
theorem Gq.up(h:Gq (E^m) x)(l:m<=n):Gq (E^n) x:=h.mono (Nat.pow_dvd_pow E l)
theorem sA_gq(nd:(l.map (·.nm)).Nodup)(hg:∀d∈l,GnE E d)(hm:l.length<=m+1)(hd:d∈l):0<sA 1 l d.nm/\Gq (E^m) (sA 1 l d.nm)/\Gq (E^m) (sA 1 l d.nm)⁻¹:=by
 obtain⟨i,hi,e⟩:=sA_pre nd hd;obtain⟨h1,h2,h3⟩:=jA (E:=E) (l:=l.take i) λd hd=>hg d (kZ hd);have le:(l.take i).length<=m:=by rw[jT];lia
 rw[e];exact⟨h1,h2.up le,h3.up le⟩
noncomputable def nzc{α:Type}(p:α->Rat)(l:List α):Nat:=(l.filter λx=>decide (p x≠0)).length
theorem bQ(p:α->Rat)(x:α)(l:List α):nzc p (x::l)=(if p x=0 then 0 else 1)+nzc p l:=by
 unfold nzc;rw[List.filter_cons];by_cases h:p x=0
 ·rw[if_pos h,if_neg (by simp[h])]
  lia
 ·rw[if_neg h,if_pos (by simp[h]),kz]
  lia
theorem nzc_le:∀{l:List α},(∀x∈l,q x≠0->p x≠0)->nzc q l<=nzc p l
 |[],_=>jJ _
 |x::l,h=>by
  have:=nzc_le (l:=l) λy hy=>h y (jW _ hy)
  have hx:=h x j4;rw[bQ,bQ];by_cases h1:q x=0
  ·rw[if_pos h1];omega
  ·rw[if_neg h1,if_neg (hx h1)];omega
theorem nzc_lt:∀{l:List α},(∀x∈l,q x≠0->p x≠0)->(∃x∈l,p x≠0/\q x=0)->nzc q l<nzc p l
 |[],_,h=>let⟨_,h,_⟩:=h;absurd h j9
 |x::l,h,hx=>by
  obtain⟨y,hy,h1,h2⟩:=hx;have le:=nzc_le (l:=l) λy hy=>h y (jW _ hy);rw[bQ,bQ];rcases j3.mp hy with rfl|z
  ·rw[if_pos h2,if_neg h1];omega
  ·have:=nzc_lt (l:=l) (λy hy=>h y (jW _ hy)) ⟨y,z,h1,h2⟩
   by_cases h3:q x=0
   ·rw[if_pos h3];omega
   ·rw[if_neg h3,if_neg (h x j4 h3)];omega
noncomputable abbrev EN:=(Str×List WD)×Rat
noncomputable def dF(es:List EN)(s:Str):Rat:=es.foldr (λe r=>(if e.1.1=s then e.2 else 0)+r) 0
theorem cP(e:EN)(es:List EN)(s:Str):dF (e::es) s=(if e.1.1=s then e.2 else 0)+dF es s:=rfl
theorem endS_snoc(e:EN)(s:Str):∀es:List EN,dF (es++[e]) s=dF es s+if e.1.1=s then e.2 else 0
 |[]=>by rw[List.nil_append,cP];show _+(0:Rat)=(0:Rat)+_;grind
 |d::r=>by rw[List.cons_append,cP,cP,endS_snoc e s r];grind
theorem endS_set:∀{es:List EN}{i:Nat},es[i]?=some (p,r)->dF (es.set i (p,r-x)) s=dF es s-(if s=p.1 then x else 0)
 |[],_,h=>by cases h
 |e::es,0,h=>by
  cases h;rw[List.set_cons_zero,cP,cP];by_cases c:p.1=s
  ·rw[if_pos c,if_pos c,if_pos c.symm];show r-x+dF es s=r+dF es s-x;grind
  ·rw[if_neg c,if_neg c,if_neg λz=>c z.symm];grind
 |e::es,i+1,h=>by
  rw[List.set_cons_succ,cP,cP,endS_set (es:=es) (i:=i) (by simpa using h)];grind
theorem gF:∀{es:List EN},(∀e∈es,0<=e.2)->0<=dF es s/\(∀e∈es,e.1.1=s->e.2<=dF es s)/\((∀e∈es,e.1.1=s->e.2=0)->dF es s=0)
 |[],_=>⟨Rat.le_refl,λe he=>absurd he j9,λ_=>rfl⟩
 |e::es,h=>by
  obtain⟨h1,h2,h3⟩:=gF (s:=s) λy hy=>h y (jW _ hy);have he:=h e j4;rw[cP];by_cases c:e.1.1=s
  ·rw[if_pos c];refine⟨by grind,λf hf hs=>?_,λz=>?_⟩
   ·rcases j3.mp hf with rfl|q
    ·grind
    ·have:=h2 f q hs
     grind
   ·rw[z e j4 c,h3 λf hf=>z f (jW _ hf),Rat.add_zero]
  ·rw[if_neg c];refine⟨by grind,λf hf hs=>?_,λz=>?_⟩
   ·rcases j3.mp hf with rfl|q
    ·exact absurd hs c
    ·have:=h2 f q hs
     grind
   ·rw[h3 λf hf=>z f (jW _ hf),Rat.add_zero]
theorem nzc_set:∀{es:List EN}{i:Nat},es[i]?=some (p,r)->(r=0->x=0)->nzc (·.2) (es.set i (p,r-x))+(if r≠0/\r=x then 1 else 0)<=nzc (·.2) es
 |[],_,h,_=>by cases h
 |e::es,0,h,hz=>by
  cases h;rw[List.set_cons_zero,bQ,bQ];show(if r-x=0 then 0 else 1)+nzc (·.2) es+_<=(if r=0 then 0 else 1)+nzc (·.2) es;by_cases c:r=0
  ·rw[if_pos c,if_pos (by rw[c,hz c];decide+kernel),if_neg λz=>z.1 c];omega
  ·rw[if_neg c];by_cases c2:r=x
   ·rw[if_pos (by grind),if_pos ⟨c,c2⟩];omega
   ·rw[if_neg (by grind),if_neg λz=>c2 z.2];omega
 |e::es,i+1,h,hz=>by
  rw[List.set_cons_succ,bQ,bQ]
  have:=nzc_set (es:=es) (i:=i) (by simpa using h) hz
  omega
end
end G
namespace G
open PySem L2
section
theorem unitP(hg:∀d∈ds,GnE E d)(nd:(ds.map (·.nm)).Nodup)(h:PlanA a H r (sA 1 ds) 6):∃kve us,H r=some (.dK kve)/\Tab (FrIs a) H kve us (sA 1 ds)/\us.Nodup/\us.length<=6/\∀n,n∈us↔n∈ds.map (·.nm):=by
 obtain⟨kvs,ks,h1,h2,h3,h4,h5⟩:=h;refine⟨kvs,ks,h1,h2,h3,h4,λn=>(h5 n).trans ⟨λz=>kn λc=>z (g8 c),λc z=>?_⟩⟩;obtain⟨y,hy,rfl⟩:=jL.mp c
 have:=(sA_gq (E:=E) (m:=ds.length) nd hg (by lia) hy).1
 grind
inductive IspMost(a:Ad)(vs:List V)(H:Hp)(Q:VK):Prop
 |mk(d e:Addr)(kvd kve:List (Key×V))(ks us:List Str)(A U:Str->Rat)(h1:vs=[.ref d,.ref e])(h2:H d=some (.dK kvd))(h3:Tab (FrIs a) H kvd ks A)(h4:H e=some (.dK kve))(h5:Tab (FrIs a) H kve us U)(h6:us.Nodup)(h7:us≠[])(h8:us.length<=100)(h9:(∀n∈us,n∈ks/\SmR (A n)/\SmR (U n)/\U n≠0/\SmR (A n/U n)))(h10:d≠e)(h11:∀q H' m,Same H H'->FrAt a.Fraction H' q m->(∃n∈us,A n/U n=m)->(∀n∈us,m<=A n/U n)->Q (.ref q) H'):IspMost a vs H Q
noncomputable def spMost(a:Ad):Sp:=λvs H Q _=>IspMost a vs H Q
theorem iP(T:TX K mg a):FnB P w K mg base CX0 "most_along" 7 ["plan","unit"] (spMost a):=by
 refine T.d_most_along.okA sc_most_along λf cdv A outer s H vs Q E hr h=>?_;obtain⟨d,e,kvd,kve,ks,us,A,U,rfl,hd,td,he,te,ndu,une,ul,hin,nde,k⟩:=h
 refine⟨_,(ah (ax (az (ok_least T) hr aq (aa (pe_thaw (eP (xs:=["name","part"]) (rest:=["plan"]) rfl (eO (pv 1))
  (λpins fp C' s' H'=>by exact(pg_tupK (K:=K) (n:=2) rfl rfl (bu (aw (i:=0) (show(["name","part","plan"]:List Str).Nodup by decide+kernel)) (bu (aw (i:=1) (show(["name","part","plan"]:List Str).Nodup by decide+kernel)) dP)))) (λpins fp C' s' H'=>by exact cA)
  (λpins fp C' s' H'=>by exact(b7 T.fr (aV (aJ hr) (pv 2) (pv 0) (λ_ _=>rfl)) (ok_over T) hr aq (aa (pv 1) ae)))
  (Clos.many (ys:=["plan"]) rfl ⟨rfl,True.intro⟩ rfl (by decide+kernel)) (Reads.many (ys:=["plan"]) (js:=[0]) ⟨⟨rfl,rfl,rfl⟩,True.intro⟩))) ae)))),?_⟩
 walk_at"q"
 refine⟨e,.dK kve,he,(by intro o z q;cases q),_,rfl,e,kve,rfl,he,λo l nl=>?_⟩;have nel:e≠l:=λz=>by rw[z,ag]at nl;cases nl
 have nl':H l=none:=by rw[ai nel.symm]at nl;exact nl
 refine compG_items (a:=e) (o:=o) (kvs:=kve) (λi H2=>i<=us.length/\H2 e=some (.frz o (.dK kve))/\(∀b ob,H b=some ob->b≠e->H2 b=some ob)/\∃ts,H2 l=some (.lst ts)/\RowAt (FrIs a) H2 ts ((us.take i).map λn=>A n/U n))
  ⟨jU _,by rw[ai nel,ag],(λb ob g ne=>by rw[ai (ar g nl'),ai ne];exact g),[],ag,RowAt.nil⟩ ((by rintro i H2⟨_,h,_⟩;exact h)) ?_ ?_
 ·rintro i kv t H2 hkv nt⟨_,hf,k2,ts,hl2,hv⟩zs hz;obtain⟨n,en,e1,ev,q,eq,fq⟩:=te.at_ ndu hkv;have hi:i<us.length:=(jG.mp en).1;have ekv:kV kv.1=.str n:=by rw[e1];rfl
  rw[ekv,eq];obtain⟨H3,zq,s3,ht⟩:=uG (o:=.tup [.str n,.ref q]) nt;rw[zq]
  match zs,hz with
  |[z1,z2],_=>
   obtain⟨nk,sA,sU,u0,_⟩:=hin n (jI en);have k3:∀b ob,H b=some ob->b≠e->H3 b=some ob:=λb ob g ne=>s3 _ _ (k2 b ob g ne)
   have fq3:FrAt a.Fraction H3 q (U n):=by
    obtain⟨dq,g⟩:=fq;exact⟨dq,k3 _ _ g (aG g he (by intro z;cases z))⟩
   obtain⟨v,ev2,qa,rfl,fa⟩:=td.vals n nk
   have fa3:FrAt a.Fraction H3 qa (A n):=by
    obtain⟨dq,g⟩:=fa;exact⟨dq,k3 _ _ g (aG g he (by intro z;cases z))⟩
   refine⟨t,[.str n,.ref q],rfl,SqT.of ht,rfl,.str n,[.ref q],rfl,⟨.ref q,[],rfl,⟨rfl,⟨[_,_],rfl,rfl⟩,yes ?_⟩⟩⟩;refine⟨_,rfl,_,rfl,d,.ref qa,rfl,.inl ⟨kvd,Sum.inr n,.inl (k3 _ _ hd nde),rfl,ev2.symm⟩,?_⟩;refine⟨qa,_,rfl,fa3,_,rfl,qa,q,_,_,rfl,fa3,fq3,sA,sU,u0,λr H4 nr s4 f4=>?_⟩;have s34:=s3.trans s4;have hl4:=s34 _ _ hl2;have lts:ts.length=i:=by rw[hv.1,jF,jT];lia
   refine⟨_,hl4,ay (by lia),dD (by rw[te.len];exact hi) ⟨hi,by rw[ai nel];exact s34 _ _ hf,(λb ob g ne=>by rw[ai (ar g nl')];exact s34 _ _ (k2 _ _ g ne)),_,ag,?_⟩⟩;rw[jS,en,j0,jM];have ko:∀v x,FrIs a H4 v x->FrIs a (upd H4 l (.lst (ts++[.ref r]))) v x:=(by rintro v x⟨q,e,dq,g⟩;exact⟨q,e,dq,by rw[ai (aG g hl4 (by intro z;cases z))];exact g⟩);exact RowAt.snoc (hv.mono λv x z=>ko v x (z.mono s34)) (ko _ _ ⟨r,rfl,f4⟩)
 ·rintro H2⟨_,hf,k2,ts,hl2,hv⟩;rw[te.len,jQ]at hv
  have s2:Same H (upd H2 e (.dK kve)):=λb ob g=>by
   by_cases hb:b=e
   ·subst hb;rw[ag,<-he,g]
   ·rw[ai hb];exact k2 _ _ g hb
  refine⟨o,hf,l,ts,_,rfl,SqL.of (show upd H2 e (.dK kve) l=some (.lst ts) by rw[ai nel.symm];exact hl2),hv.mono λv x z=>z.keep (.frz hf),?_,?_,λq m fq hm all=>k q _ m s2 fq ?_ λn hn=>all _ (jL.mpr ⟨n,hn,rfl⟩)⟩
  ·cases us with
   |nil=>exact absurd rfl une
   |cons x r=>exactλz=>by cases z
  ·rintro x hx;obtain⟨n,hn,rfl⟩:=jL.mp hx;exact(hin n hn).2.2.2.2
  ·obtain⟨n,hn,e1⟩:=jL.mp hm;exact⟨n,hn,e1⟩
inductive IspLess(a:Ad)(vs:List V)(H:Hp)(Q:VK):Prop
 |mk(d e q:Addr)(A U:Str->Rat)(m k:Nat)(x:Rat)(h1:vs=[.ref d,.ref e,.ref q])(h2:PlanA a H d A m)(h3:PlanA a H e U k)(h4:k<=100)(h5:m<=100)(h6:FrAt a.Fraction H q x)(h7:Bd 8500 x)(h8:(∀n,Bd 8500 (A n)/\Bd 8500 (U n)/\Bd 8500 (x*U n)))(h9:∀r H',H r=none->Same H H'->PlanA a H' r (λn=>A n-x*U n) (m+k)->Q (.ref r) H'):IspLess a vs H Q
noncomputable def spLess(a:Ad):Sp:=λvs H Q _=>IspLess a vs H Q
theorem ok_less(T:TX K mg a):FnB P w K mg base CX0 "less" 7 ["plan","unit","amount"] (spLess a):=by
 refine T.d_less.okA sc_less λf cdv A outer s H vs Q E hr h=>?_;obtain⟨d,e,q,A,U,m,k',x,rfl,pd,pe,lu,lm,fq,bx,bA,k⟩:=h;refine⟨_,(ah (ax (az (togA T) hr aq (aa (pv 0) (aa (az (ok_scaled T) hr aq (aa (pv 1) (aa (b7 T.fr (bD (mk1 T) hr T.mg_Fraction aq (aa ab ae)) (eR T) hr aq (aa (pv 2) ae)) ae))) ae))))),?_⟩;walk_at"q"
 refine⟨_,rfl,_,rfl,0,1,rfl,by decide,sm1,λz H1 nz s1 fz=>?_⟩;rw[show Rat.divInt 0 1=0 from rfl]at fz;refine⟨z,_,rfl,fz,_,rfl,z,q,_,_,rfl,fz,fq.mono s1,Bd.zero.smr (by decide),bx.smr (by decide),True.intro,λy H2 ny s2 fy=>?_⟩;have s12:=s1.trans s2;have by_:Bd 8501 (0-x):=Bd.zero.sub bx;obtain⟨kve,us,he,te,ndu,lus,iu⟩:=pe;refine⟨e,y,kve,us,_,_,rfl,s12 _ _ he,te.mono (λv x z=>z.mono s12),ndu,by lia,fy,by_.smr (by decide),λn _=>(bA n).2.1.smr (by decide),λr H3 kvr nr s3 hr3 tr=>?_⟩;have s13:=s12.trans s3;have en:∀n,U n*(0-x)=-(x*U n):=λn=>by grind
 refine⟨d,r,A,(λn=>U n*(0-x)),m,k',8500,rfl,pd.mono s13,⟨kvr,_,hr3,tr,jb ndu,jV (jc _ _) lus,λn=>?_⟩,by lia,λn=>⟨(bA n).1,by rw[en];exact(bA n).2.2.neg⟩,by decide,λr' H4 nr' s4 pl=>k r' H4 (s13.free nr') (s13.trans s4) ?_⟩
 ·rw[mem_some0,iu];show U n≠0/\U n*(0-x)≠0↔U n*(0-x)≠0;exact⟨λz=>z.2,λz=>⟨λq=>z (by rw[q,Rat.zero_mul]),z⟩⟩
 ·have ef:(λn=>A n-x*U n)=λn=>A n+U n*(0-x):=funext λn=>by rw[en];grind
  rw[ef];exact pl
end
end G
namespace G
open PySem L2
section
structure SD where
 rg:List WD
 pa:List WD
 tl:List WD
 am:Rat
 ad:List Addr
noncomputable def nmV(l:List WD):List V:=l.map λx=>V.str x.nm
noncomputable def fsE(s:Str)(lr q:Addr):List (Str×V):=[("place",.str s),("ring",.ref lr),("rest",.ref q)]
noncomputable def fsT(p d ls lo li:Addr):List (Str×V):=[("on",.ref p),("rest",.ref d),("strands",.ref ls),("sources",.ref lo),("sinks",.ref li)]
theorem bX(h:g≠f):bh f v ((g,x)::r)=(g,x)::bh f v r:=if_neg h
theorem putF_eq:bh f v ((f,x)::r)=(f,v)::r:=if_pos rfl
theorem fsE_new(s:Str)(lr q:Addr):bh "rest" (.ref q) (bh "ring" (.ref lr) (bh "place" (.str s) []))=fsE s lr q:=by
 show bh "rest" (.ref q) (bh "ring" (.ref lr) [(("place":Str),V.str s)])=_;rw[bX (by decide+kernel)];show bh "rest" (.ref q) [(("place":Str),V.str s),(("ring":Str),V.ref lr)]=_;rw[bX (by decide+kernel),bX (by decide+kernel)];rfl
theorem fsE_put(s:Str)(lr q q':Addr):bh "rest" (.ref q') (fsE s lr q)=fsE s lr q':=by
 unfold fsE;rw[bX (by decide+kernel),bX (by decide+kernel),putF_eq]
theorem fsE_s(s:Str)(lr q:Addr):(fsE s lr q).lookup ("place":Str)=some (.str s):=rfl
theorem fsE_r(s:Str)(lr q:Addr):(fsE s lr q).lookup ("ring":Str)=some (.ref lr):=by
 unfold fsE;rw[ke,show(("ring":Str)=="place")=false by decide+kernel];rfl
theorem fsE_q(s:Str)(lr q:Addr):(fsE s lr q).lookup ("rest":Str)=some (.ref q):=by
 unfold fsE;rw[ke,show(("rest":Str)=="place")=false by decide+kernel,ke,show(("rest":Str)=="ring")=false by decide+kernel];rfl
theorem fsT_put(p d d' ls lo li:Addr):bh "rest" (.ref d') (fsT p d ls lo li)=fsT p d' ls lo li:=by
 unfold fsT;rw[bX (by decide+kernel),putF_eq]
theorem fsT_on(p d ls lo li:Addr):(fsT p d ls lo li).lookup ("on":Str)=some (.ref p):=rfl
theorem fsT_d(p d ls lo li:Addr):(fsT p d ls lo li).lookup ("rest":Str)=some (.ref d):=by
 unfold fsT;rw[ke,show(("rest":Str)=="on")=false by decide+kernel];rfl
theorem fsT_s(p d ls lo li:Addr):(fsT p d ls lo li).lookup ("strands":Str)=some (.ref ls):=by
 unfold fsT;rw[ke,show(("strands":Str)=="on")=false by decide+kernel,ke,show(("strands":Str)=="rest")=false by decide+kernel];rfl
theorem fsT_o(p d ls lo li:Addr):(fsT p d ls lo li).lookup ("sources":Str)=some (.ref lo):=by
 unfold fsT;rw[ke,show(("sources":Str)=="on")=false by decide+kernel,ke,show(("sources":Str)=="rest")=false by decide+kernel,ke,show(("sources":Str)=="strands")=false by decide+kernel];rfl
theorem fsT_i(p d ls lo li:Addr):(fsT p d ls lo li).lookup ("sinks":Str)=some (.ref li):=by
 unfold fsT;rw[ke,show(("sinks":Str)=="on")=false by decide+kernel,ke,show(("sinks":Str)=="rest")=false by decide+kernel,ke,show(("sinks":Str)=="strands")=false by decide+kernel,ke,show(("sinks":Str)=="sources")=false by decide+kernel];rfl
theorem i6(p d ls lo li:Addr){m:Str}(h:(m=="on"||m=="rest"||m=="strands"||m=="sources"||m=="sinks")=false):(fsT p d ls lo li).lookup m=none:=by
 simp only[Bool.or_eq_false_iff]at h;unfold fsT;rw[ke,h.1.1.1.1,ke,h.1.1.1.2,ke,h.1.1.2,ke,h.1.2,ke,h.2];rfl
noncomputable def Plain(o:HO):Prop:=(∀C dx s lr q,o≠.ins C dx (fsE s lr q))/\∀C dx p d ls lo li,o≠.ins C dx (fsT p d ls lo li)
theorem ffE:ff x y≠fsE s lr q:=λz=>absurd (kA (λl=>(l.map Prod.fst)[0]?) z) (by show¬some ("top":Str)=some ("place":Str);decide+kernel)
theorem ffT:ff x y≠fsT p d ls lo li:=λz=>absurd (kA (λl=>(l.map Prod.fst)[0]?) z) (by show¬some ("top":Str)=some ("on":Str);decide+kernel)
theorem Plain.fr:Plain (.ins C dx (ff x y)):=⟨λ_ _ _ _ _ z=>(by injection z with _ _ z;exact ffE z),λ_ _ _ _ _ _ _ z=>(by injection z with _ _ z;exact ffT z)⟩
theorem Plain.lst:Plain (.lst ts):=⟨λ_ _ _ _ _ z=>(by cases z),λ_ _ _ _ _ _ _ z=>(by cases z)⟩
theorem Plain.tup:Plain (.tup ts):=⟨λ_ _ _ _ _ z=>(by cases z),λ_ _ _ _ _ _ _ z=>(by cases z)⟩
theorem Plain.dK:Plain (.dK ts):=⟨λ_ _ _ _ _ z=>(by cases z),λ_ _ _ _ _ _ _ z=>(by cases z)⟩
noncomputable def Mv(X:List Addr)(H H':Hp):Prop:=∀b o,H b=some o->¬b∈X->Plain o->H' b=some o
theorem Mv.of(s:Same H H'):Mv X H H':=λb o e _ _=>s b o e
theorem Mv.put(h:H b=some o)(np:¬Plain o):Mv X H (upd H b o'):=λc oc e _ p=>by
 rw[ai λz=>np (by rw[z,h]at e;cases e;exact p)];exact e
theorem Mv.app(hx:l∈X):Mv X H (upd H l o'):=λc oc e n _=>by rw[ai λz=>n (by rw[z];exact hx)];exact e
theorem eU:¬Plain (.ins C dx (fsE s lr q)):=λz=>z.1 _ _ _ _ _ rfl
theorem iX:¬Plain (.ins C dx (fsT p d ls lo li)):=λz=>z.2 _ _ _ _ _ _ _ rfl
noncomputable def Lsts(X:List Addr)(H:Hp):Prop:=∀b∈X,∃ts,H b=some (.lst ts)
theorem Lsts.no(h:Lsts X H)(e:H b=some o)(n:∀ts,o≠.lst ts):¬b∈X:=λz=>by
 obtain⟨ts,el⟩:=h b z;rw[el]at e
 cases e;exact n ts rfl
theorem Mv.fr(m:Mv X H H')(hl:Lsts X H)(h:FrAt C H q x):FrAt C H' q x:=by
 obtain⟨dx,e⟩:=h;exact⟨dx,m _ _ e (hl.no e λ_ z=>by cases z) Plain.fr⟩
theorem Mv.plan(k:Mv X H H')(hl:Lsts X H)(h:PlanA a H d A m):PlanA a H' d A m:=by
 obtain⟨kvs,ks,h1,h2,h3⟩:=h;exact⟨kvs,ks,k _ _ h1 (hl.no h1 λ_ z=>by cases z) Plain.dK,h2.mono (by rintro _ _⟨q,e,f⟩;exact⟨q,e,k.fr hl f⟩),h3⟩
noncomputable def EndIs(a:Ad)(X:List Addr)(H:Hp)(v:V)(x:EN):Prop:=∃e dx lr q,v=.ref e/\H e=some (.ins a.End dx (fsE x.1.1 lr q))/\H lr=some (.lst (nmV x.1.2))/\¬lr∈X/\FrAt a.Fraction H q x.2
theorem EndIs.mv(h:EndIs a X H (.ref e) x)(k:Mv X H H')(hl:Lsts X H)(he:H' e=H e):EndIs a X H' (.ref e) x:=by
 obtain⟨e',dx,lr,q,z,h1,h2,h3,h4⟩:=h
 cases z;exact⟨e,dx,lr,q,rfl,by rw[he];exact h1,k _ _ h2 h3 Plain.lst,h3,k.fr hl h4⟩
noncomputable def StIs(a:Ad)(X:List Addr)(H:Hp)(v:V)(s:SD):Prop:=∃u l1 l2 l3 q,v=.ref u/\H u=some (.tup [.ref l1,.ref l2,.ref l3,.ref q])/\H l1=some (.lst (nmV s.rg))/\H l2=some (.lst (nmV s.pa))/\H l3=some (.lst (nmV s.tl))/\¬l1∈X/\¬l2∈X/\¬l3∈X/\FrAt a.Fraction H q s.am/\s.ad=[l1,l2,l3]
theorem StIs.mv(h:StIs a X H v s)(k:Mv X H H')(hl:Lsts X H):StIs a X H' v s:=by
 obtain⟨u,l1,l2,l3,q,z,h1,h2,h3,h4,n1,n2,n3,h5,h6⟩:=h;exact⟨u,l1,l2,l3,q,z,k _ _ h1 (hl.no h1 λ_ z=>by cases z) Plain.tup,k _ _ h2 n1 Plain.lst,k _ _ h3 n2 Plain.lst,k _ _ h4 n3 Plain.lst,n1,n2,n3,k.fr hl h5,h6⟩
structure TkAt(a:Ad)(H0 H:Hp)(t p d ls lo li:Addr)(es fs:List Addr)(A:Str->Rat)(ss:List SD)(sr sk:List EN):Prop where
 sm:Same H0 H
 nt:H0 t=none
 ns:H0 ls=none
 nd:H0 d=none
 ne:∀e∈es++fs,H0 e=none
 un:(es++fs).Nodup
 ob:∃dx,H t=some (.ins a.Taking dx (fsT p d ls lo li))
 pl:PlanA a H d A 24
 st:∃ts,H ls=some (.lst ts)/\RowAt (StIs a [ls,lo,li]) H ts ss
 so:H lo=some (.lst (es.map .ref))
 si:H li=some (.lst (fs.map .ref))
 ro:RowAt (EndIs a [ls,lo,li]) H (es.map .ref) sr
 ri:RowAt (EndIs a [ls,lo,li]) H (fs.map .ref) sk
 no:lo≠ls
 ni:li≠ls
 oi:lo≠li
 nlo:H0 lo=none
 nli:H0 li=none
 sd:(ss.flatMap (·.ad)).Nodup
 sh:∀l∈ss.flatMap (·.ad),H0 l=none
theorem TkAt.ls3(h:TkAt a H0 H t p d ls lo li es fs A ss sr sk):Lsts [ls,lo,li] H:=λb hb=>by
 obtain⟨ts,e,_⟩:=h.st;simp only[j3,j9,or_false]at hb;rcases hb with rfl|rfl|rfl
 ·exact⟨ts,e⟩
 ·exact⟨_,h.so⟩
 ·exact⟨_,h.si⟩
theorem TkAt.ads(h:TkAt a H0 H t p d ls lo li es fs A ss sr sk)(hl:H l=none):¬l∈ss.flatMap (·.ad):=λz=>by
 obtain⟨s,hs,hl2⟩:=List.mem_flatMap.mp z;obtain⟨ts,_,rs⟩:=h.st;obtain⟨i,hi⟩:=kh.mp hs
 obtain⟨v,hv⟩:∃v,ts[i]?=some v:=by
  have:=(jG.mp hi).1
  rw[<-rs.1]at this;exact⟨_,jH this⟩
 obtain⟨u,l1,l2,l3,q,_,_,h2,h3,h4,_,_,_,_,h6⟩:=rs.2 i v s hv hi;rw[h6]at hl2;simp only[j3,j9,or_false]at hl2;rcases hl2 with rfl|rfl|rfl
 ·rw[hl]at h2;cases h2
 ·rw[hl]at h3;cases h3
 ·rw[hl]at h4;cases h4
inductive IspEndI(a:Ad)(vs:List V)(H:Hp)(Q:VK):Prop
 |mk(p dx lr q:Addr)(s:Str)(h1:vs=[.ref p,.str s,.ref lr,.ref q])(h2:H p=some (.ins a.End dx []))(h3:Q .non (upd H p (.ins a.End dx (fsE s lr q)))):IspEndI a vs H Q
noncomputable def spEndI(a:Ad):Sp:=λvs H Q _=>IspEndI a vs H Q
theorem mk_End(T:TX K mg a):MkB P w K mg base CX0 a.End 1 ["self","place","ring","rest"] [] (spEndI a):=by
 refine T.i_End.okA sc_End_init (λf cdv A outer s H vs Q E hr h=>?_) (λvs H Q E h=>?_) _ (by simp)
 rotate_left
 ·obtain⟨_,_,_,_,_,rfl,_⟩:=h;rfl
 ·obtain⟨p,dx,lr,q,s,rfl,hp,k⟩:=h
  refine⟨_,(af (bG (pv 0) (pv 1) rfl)
   (af (bG (pv 0) (pv 2) rfl)
   (ah (bG (pv 0) (pv 3) rfl)))),?_⟩
  walk_at"q"
  refine⟨_,rfl,_,rfl,p,a.End,dx,[],rfl,hp,T.cl_End,T.na_End_place,by decide,?_⟩;refine⟨_,rfl,_,rfl,p,a.End,dx,_,rfl,ag,T.cl_End,T.na_End_ring,kj (bp (jJ 0)) (by decide),?_⟩;rw[ie];refine⟨_,rfl,_,rfl,p,a.End,dx,_,rfl,ag,T.cl_End,T.na_End_rest,kj (bp (bp (jJ 0))) (by decide),?_⟩;rw[ie,fsE_new];exact k
end
end G
namespace G
open PySem L2
section
theorem sgn_lt(x:Rat):sgn x<0↔x<0:=by
 unfold sgn;have h:x<0↔x.num<0:=by rw[<-Rat.not_le,<-Rat.num_nonneg];lia
 rw[h]
 split
 ·constructor<;>intro<;>lia
 ·split
  ·constructor<;>intro<;>lia
  ·constructor<;>intro<;>lia
theorem iU(x:Rat):sgn x>0↔0<x:=by
 have h1:=sgn_lt x;have h2:=sgn_zero (x:=x);constructor
 ·intro h;have n1:¬x<0:=λz=>by have:=h1.mpr z;lia
  have n2:¬x=0:=λz=>by have:=h2.mpr z;lia
  grind
 ·intro h;have n1:¬sgn x<0:=λz=>by have:=h1.mp z;grind
  have n2:¬sgn x=0:=λz=>by have:=h2.mp z;grind
  lia
noncomputable def NewEnd(a:Ad)(H H':Hp)(e:Addr)(s:Str)(lr:Addr)(x:Rat):Prop:=H e=none/\Same H H'/\∃dx q,H' e=some (.ins a.End dx (fsE s lr q))/\FrAt a.Fraction H' q x
theorem newE(fq:FrAt a.Fraction H q x)(h1:H p=none)(h2:H dx=none):NewEnd a H (upd (upd (upd H dx (.own p)) p (.ins a.End dx [])) p (.ins a.End dx (fsE s lr q))) p s lr x:=by
 have ss:Same H (upd (upd (upd H dx (.own p)) p (.ins a.End dx [])) p (.ins a.End dx (fsE s lr q))):=by
  rw[ie]
  exact fU (C:=a.End) h1 h2 λb o e n=>by
   rw[ai n];rw[ai n]at e;exact e
 exact⟨h1,ss,dx,q,ag,fq.mono ss⟩
inductive IspAddE(a:Ad)(vs:List V)(H:Hp)(Q:VK):Prop
 |mk(t dx p d ls lo li lr q:Addr)(s:Str)(x:Rat)(to ti:List V)(h1:vs=[.ref t,.str s,.ref lr,.ref q])(h2:H t=some (.ins a.Taking dx (fsT p d ls lo li)))(h3:FrAt a.Fraction H q x)(h4:SmR x)(h5:H lo=some (.lst to))(h6:H li=some (.lst ti))(h7:to.length<=100)(h8:ti.length<=100)(h9:(x<0->∀e H',NewEnd a H H' e s lr (-x)->Q .non (upd H' lo (.lst (to++[.ref e])))))(h10:(0<x->∀e H',NewEnd a H H' e s lr x->Q .non (upd H' li (.lst (ti++[.ref e])))))(h11:(x=0->Q .non H)):IspAddE a vs H Q
noncomputable def spAddE(a:Ad):Sp:=λvs H Q _=>IspAddE a vs H Q
theorem fM(T:TX K mg a):MtB P w K mg base CX0 a.Taking "add_end" 7 ["self","place","ring","come"] (spAddE a):=by
 refine T.m_Taking_add_end.okA je λf cdv A outer s H vs Q E hr h=>?_;obtain⟨t,dx,p,d,ls,lo,li,lr,q,s,x,to,ti,rfl,ht,fq,sx,ho,hi,lo1,li1,k1,k2,k3⟩:=h
 refine⟨_,(aE (aN (au gQ (di T.fr (pv 3) (dj T) hr aq) ab) (ah (aT (gi ki kC kD bJ (aH (pv 0) rfl) (aa (pe_mk (mk_End T) hr T.mg_End aq (aa (pv 1) (aa (pv 2) (aa (b7 T.fr (bD (mk1 T) hr T.mg_Fraction aq (aa ab ae)) (eR T) hr aq (aa (pv 3) ae)) ae)))) ae)))) aA)
  (ah (aN (au iO (di T.fr (pv 3) (dj T) hr aq) ab) (ah (aT (gi ki kC kD bJ (aH (pv 0) rfl) (aa (pe_mk (mk_End T) hr T.mg_End aq (aa (pv 1) (aa (pv 2) (aa (pv 3) ae)))) ae)))) aA))),?_⟩
 walk_at"q"
 refine bM (λσ' H'=>σ'=[some (.ref t),some (.str s),some (.ref lr),some (.ref q)]/\FrAt a.Fraction H' q x/\(x<0/\Q .non H'∨¬x<0/\H'=H)) ?_ ?_
 ·walk_at"rd"
  by_cases c:x<0
  ·refine iteC (j6 ((sgn_lt x).mpr c)) ?_;refine⟨_,rfl,t,_,dx,_,_,rfl,ht,T.cl_Taking,T.na_Taking_sources,fsT_o _ _ _ _ _,?_⟩;refine⟨.inl ⟨rfl,_,SqL.of ho⟩,?_⟩;refine⟨_,rfl,_,rfl,0,1,rfl,by decide,sm1,λz H1 nz s1 fz=>?_⟩;rw[show Rat.divInt 0 1=0 from rfl]at fz;refine⟨z,_,rfl,fz,_,rfl,z,q,_,_,rfl,fz,fq.mono s1,Bd.zero.smr (by decide),sx,True.intro,λy H2 ny s2 fy=>?_⟩;have s12:=s1.trans s2;intro e dx' h1 h2 _;refine⟨e,dx',lr,y,s,rfl,ag,rfl,?_⟩;have ne:=newE (s:=s) (lr:=lr) fy h1 h2;generalize upd (upd (upd H2 dx' (.own e)) e (.ins a.End dx' [])) e (.ins a.End dx' (fsE s lr y))=H3 at ne⊢;obtain⟨n1,s3,dx3,q3,he3,fq3⟩:=ne;have s13:=s12.trans s3;refine⟨lo,_,_,rfl,rfl,s13 _ _ ho,ay (by lia),rfl,?_,.inl ⟨c,k1 c e H3 ⟨s12.free n1,s13,dx3,q3,he3,?_⟩⟩⟩
   ·obtain⟨dq,g⟩:=fq.mono s13;exact⟨dq,by rw[ai (aG g (s13 _ _ ho) (by intro z;cases z))];exact g⟩
   ·rw[show-x=0-x by grind];exact fq3
  ·refine cL (jY λz=>c ((sgn_lt x).mp z)) ?_;exact⟨rfl,fq,.inr ⟨c,rfl⟩⟩
 rintro zU hzU σ' H1⟨rfl,fq1,alt⟩;subst hzU;walk_at"rd"
 rcases alt with⟨c,hq⟩|⟨c,rfl⟩
 ·refine cL (jY λz=>?_) hq
  have:=(iU x).mp z
  grind
 ·by_cases c2:0<x
  ·refine iteC (j6 ((iU x).mpr c2)) ?_;refine⟨_,rfl,t,_,dx,_,_,rfl,ht,T.cl_Taking,T.na_Taking_sinks,fsT_i _ _ _ _ _,?_⟩;refine⟨.inl ⟨rfl,_,SqL.of hi⟩,?_⟩;refine⟨_,rfl,_,rfl,_,rfl,?_⟩;intro e dx' h1 h2 _;refine⟨e,dx',lr,q,s,rfl,ag,rfl,?_⟩;have ne:=newE (s:=s) (lr:=lr) fq1 h1 h2;generalize upd (upd (upd H1 dx' (.own e)) e (.ins a.End dx' [])) e (.ins a.End dx' (fsE s lr q))=H3 at ne⊢;exact⟨li,_,_,rfl,rfl,ne.2.1 _ _ hi,ay (by lia),k2 c2 e H3 ne⟩
  ·refine cL (jY λz=>c2 ((iU x).mp z)) (k3 ?_);grind
inductive IspSink(a:Ad)(vs:List V)(H:Hp)(Q:VK):Prop
 |mk(H0:Hp)(t p d ls lo li:Addr)(es fs:List Addr)(A:Str->Rat)(ss:List SD)(sr sk:List EN)(s:Str)(h1:vs=[.ref t,.str s])(h2:TkAt a H0 H t p d ls lo li es fs A ss sr sk)(h3:(∀(i:Nat)(e:Addr)(rg:List WD)(r:Rat),fs[i]?=some e->sk[i]?=some ((s,rg),r)->0<r->Q (.ref e) H))(h4:((∀x∈sk,x.1.1=s->¬0<x.2)->Q .non H)):IspSink a vs H Q
noncomputable def spSink(a:Ad):Sp:=λvs H Q _=>IspSink a vs H Q
theorem fL(T:TX K mg a):MtB P w K mg base CX0 a.Taking "sink_at" 2 ["self","place"] (spSink a):=by
 refine T.m_Taking_sink_at.okA sc_Taking_sink_at λf cdv A outer s H vs Q E hr h=>?_;obtain⟨H0,t,p,d,ls,lo,li,es,fs,A,ss,sr,sk,s,rfl,D,k1,k2⟩:=h
 refine⟨_,(af (aQ jR rfl (a5 (aH (pv 0) rfl)) (aw (i:=2) sc_Taking_sink_at.nd) (ah (aN (PW.pt (c8 (au cT (aH (pv 2) rfl) (pv 1)) (cH (au iO (di T.fr (aH (pv 2) rfl) (dj T) hr aq) ab)))) (ah (ax (pv 2))) aA)))
  (ah (ax pe_non))),?_⟩
 walk_at"q"
 obtain⟨dx,ht⟩:=D.ob;refine⟨_,rfl,t,_,dx,_,_,rfl,ht,T.cl_Taking,T.na_Taking_sinks,fsT_i _ _ _ _ _,li,rfl,⟨_,SqL.of D.si⟩,?_⟩;refine ba (K:=K) (a:=li) (xs:=fs.map .ref) (λi σ H2=>H2=H/\∃z2,σ=[some (.ref t),some (.str s),z2]/\∀x∈sk.take i,x.1.1=s->¬0<x.2) ⟨rfl,_,rfl,λr hr=>by rw[lP]at hr;cases hr⟩ ((by rintro i σ H2 _⟨e,_⟩;exact by rw[e];exact SqL.of D.si)) ?_ ?_
 ·rintro i v σ H2 hv⟨rfl,z2,rfl,no⟩;obtain⟨x,ex,e,dxe,lr,q,rfl,he,hlr,nlr,fq⟩:=D.ri.get hv;obtain⟨⟨s',rg⟩,r⟩:=x;have tk:sk.take (i+1)=sk.take i++[((s',rg),r)]:=by rw[jS,ex];rfl
  have en:fs[i]?=some e:=by
   rw[jK]at hv
   cases ef:fs[i]? with
   |none=>rw[ef]at hv;cases hv
   |some e'=>rw[ef]at hv;cases hv;rfl
  refine⟨_,rfl,e,_,dxe,_,_,rfl,he,T.cl_End,T.na_End_place,fsE_s _ _ _,_,rfl,rfl,_,rfl,?_⟩;by_cases hs:s'=s
  ·subst hs;refine iteC (j6 rfl) ?_;refine⟨_,rfl,e,_,dxe,_,_,rfl,he,T.cl_End,T.na_End_rest,fsE_q _ _ _,?_⟩;walk_at"rd"
   by_cases hp:0<r
   ·refine iteC (j6 ((iU r).mpr hp)) ?_;exact⟨_,rfl,k1 i e rg r en ex hp⟩
   ·refine cL (jY λz=>hp ((iU r).mp z)) ⟨rfl,_,rfl,λy hy es=>?_⟩;rw[tk]at hy;rcases jP.mp hy with z|z
    ·exact no y z es
    ·cases jN.mp z;exact hp
  ·refine cL (jY λz=>hs (V.str.inj z)) ?_;refine⟨rfl,_,rfl,λy hy es=>?_⟩;rw[tk]at hy;rcases jP.mp hy with z|z
   ·exact no y z es
   ·cases jN.mp z;exact absurd es hs
 ·rintro σ H2⟨rfl,z2,rfl,no⟩
  have:=D.ri.1
  rw[this,jQ]at no;exact k2 no
end
end G
namespace G
open PySem L2
section
theorem EndIs.mv'(h:EndIs a X H v x)(k:Mv X H H')(hl:Lsts X H)(he:∀e dx s lr q,H e=some (.ins a.End dx (fsE s lr q))->v=.ref e->H' e=H e):EndIs a X H' v x:=by
 obtain⟨e,dx,lr,q,rfl,h1,h2,h3,h4⟩:=h;exact⟨e,dx,lr,q,rfl,by rw[he e dx _ lr q h1 rfl];exact h1,k _ _ h2 h3 Plain.lst,h3,k.fr hl h4⟩
section
variable{H0 H H':Hp}{t p d ls lo li:Addr}{es fs:List Addr}{A:Str->Rat}{ss:List SD}{sr sk:List EN}
theorem TkAt.mono(h:TkAt a H0 H t p d ls lo li es fs A ss sr sk)(s:Same H H'):TkAt a H0 H' t p d ls lo li es fs A ss sr sk:=by
 obtain⟨dx,ho⟩:=h.ob;obtain⟨ts,hs,rs⟩:=h.st;have he:∀(v:V)(e dx:Addr)(s':Str)(lr q:Addr),H e=some (.ins a.End dx (fsE s' lr q))->v=.ref e->H' e=H e:=λv e dx s' lr q z _=>by rw[z];exact s _ _ z
 exact⟨h.sm.trans s,h.nt,h.ns,h.nd,h.ne,h.un,⟨dx,s _ _ ho⟩,h.pl.mono s,⟨ts,s _ _ hs,rs.mono λv x z=>z.mv (.of s) h.ls3⟩,s _ _ h.so,s _ _ h.si,h.ro.mono λv x z=>z.mv' (.of s) h.ls3 (he v),h.ri.mono λv x z=>z.mv' (.of s) h.ls3 (he v),h.no,h.ni,h.oi,h.nlo,h.nli,h.sd,h.sh⟩
theorem TkAt.setd(h:TkAt a H0 H t p d ls lo li es fs A ss sr sk)(ho:H t=some (.ins a.Taking dx (fsT p d ls lo li)))(nd:H0 d'=none)(pl:PlanA a H d' A' 24):TkAt a H0 (upd H t (.ins a.Taking dx (fsT p d' ls lo li))) t p d' ls lo li es fs A' ss sr sk:=by
 obtain⟨ts,hs,rs⟩:=h.st;have k:Mv [ls,lo,li] H (upd H t (.ins a.Taking dx (fsT p d' ls lo li))):=.put ho iX
 have he:∀(v:V)(e dx':Addr)(s':Str)(lr q:Addr),H e=some (.ins a.End dx' (fsE s' lr q))->v=.ref e->upd H t (.ins a.Taking dx (fsT p d' ls lo li)) e=H e:=λv e dx' s' lr q z _=>by
  refine ai λz2=>?_;rw[z2,ho]at z;injection z with z
  injection z with _ _ z
  exact absurd (kA (λl=>(l.map Prod.fst)[0]?) z) (by show¬some ("on":Str)=some ("place":Str);decide+kernel)
 have nl:∀{b:Addr}{zs:List V},H b=some (.lst zs)->upd H t (.ins a.Taking dx (fsT p d' ls lo li)) b=some (.lst zs):=λ{b}{zs}z=>by rw[ai (aG z ho (by intro q;cases q))];exact z
 exact⟨λb o e=>by rw[ai (ar e h.nt)];exact h.sm _ _ e,h.nt,h.ns,nd,h.ne,h.un,⟨dx,ag⟩,k.plan h.ls3 pl,⟨ts,nl hs,rs.mono λv x z=>z.mv k h.ls3⟩,nl h.so,nl h.si,h.ro.mono λv x z=>z.mv' k h.ls3 (he v),h.ri.mono λv x z=>z.mv' k h.ls3 (he v),h.no,h.ni,h.oi,h.nlo,h.nli,h.sd,h.sh⟩
theorem TkAt.app(h:TkAt a H0 H t p d ls lo li es fs A ss sr sk)(hs:H ls=some (.lst ts))(sv:StIs a [ls,lo,li] H v s)(nd:s.ad.Nodup)(fr:∀l∈s.ad,H0 l=none/\¬l∈ss.flatMap (·.ad)):TkAt a H0 (upd H ls (.lst (ts++[v]))) t p d ls lo li es fs A (ss++[s]) sr sk:=by
 obtain⟨ts',hs',rs⟩:=h.st;obtain⟨dx,ho⟩:=h.ob;rw[hs]at hs'
 cases hs';have k:Mv [ls,lo,li] H (upd H ls (.lst (ts++[v]))):=.app (by simp);have he:∀(v':V)(e dx':Addr)(s':Str)(lr q:Addr),H e=some (.ins a.End dx' (fsE s' lr q))->v'=.ref e->upd H ls (.lst (ts++[v])) e=H e:=λv' e dx' s' lr q z _=>ai (aG z hs (by intro q;cases q))
 exact⟨λb o e=>by rw[ai (ar e h.ns)];exact h.sm _ _ e,h.nt,h.ns,h.nd,h.ne,h.un,⟨dx,by rw[ai (aG ho hs (by intro q;cases q))];exact ho⟩,k.plan h.ls3 h.pl,⟨_,ag,RowAt.snoc (rs.mono λv x z=>z.mv k h.ls3) (sv.mv k h.ls3)⟩,by rw[ai h.no];exact h.so,by rw[ai h.ni];exact h.si,h.ro.mono λv x z=>z.mv' k h.ls3 (he v),h.ri.mono λv x z=>z.mv' k h.ls3 (he v),h.no,h.ni,h.oi,h.nlo,h.nli,by
  rw[List.flatMap_append,List.flatMap_singleton];exact ky.mpr ⟨h.sd,nd,λx hx y hy e=>(fr y hy).2 (by rw[<-e];exact hx)⟩,λl hl=>by
  rw[List.flatMap_append,List.flatMap_singleton]at hl;exact(jP.mp hl).elim (h.sh l) λz=>(fr l z).1⟩
theorem E_inj(h:HO.ins C dx (fsE s lr q)=.ins C dx' (fsE s' lr' q')):dx=dx'/\s=s'/\lr=lr'/\q=q':=by
 injection h with _ h1 h2
 unfold fsE at h2;simp only[List.cons.injEq,Prod.mk.injEq,V.str.injEq,V.ref.injEq,true_and,and_true]at h2;exact⟨h1,h2.1,h2.2.1,h2.2.2⟩
theorem ends_set(nd:es.Nodup)(hl:Lsts X H)(h:RowAt (EndIs a X) H (es.map .ref) xs)(hi:es[i]?=some e)(hx:xs[i]?=some (s,r))(he:H e=some (.ins a.End dx (fsE s.1 lr q)))(fq:FrAt a.Fraction H q' r'):RowAt (EndIs a X) (upd H e (.ins a.End dx (fsE s.1 lr q'))) (es.map .ref) (xs.set i (s,r')):=by
 have k:Mv X H (upd H e (.ins a.End dx (fsE s.1 lr q'))):=.put he eU;refine⟨by rw[List.length_set];exact h.1,λj v x hv hj=>?_⟩;rw[jK]at hv
 cases ej:es[j]? with
 |none=>rw[ej]at hv;cases hv
 |some e'=>
  rw[ej]at hv
  cases hv;by_cases c:j=i
  ·subst c;rw[hi]at ej
   cases ej;rw[List.getElem?_set_self (jG.mp hx).1]at hj
   cases hj;obtain⟨e2,dx2,lr2,q2,z,h1,h2,h3,h4⟩:=h.2 j (.ref e) (s,r) (by rw[jK,hi];rfl) hx
   cases z;rw[he]at h1;obtain⟨_,_,rfl,_⟩:=E_inj (kg h1);exact⟨e,dx,lr,q',rfl,ag,k _ _ h2 h3 Plain.lst,h3,k.fr hl fq⟩
  ·rw[List.getElem?_set_ne λz=>c z.symm]at hj;have ne:e'≠e:=λz=>c ((kR (jG.mp ej).1 nd).mp (by rw[ej,hi,z]));exact(h.2 j (.ref e') x (by rw[jK,ej];rfl) hj).mv k hl (ai ne)
theorem ends_keep{s:Str×List WD}(ni:¬e∈es)(hl:Lsts X H)(h:RowAt (EndIs a X) H (es.map .ref) xs)(he:H e=some (.ins a.End dx (fsE s.1 lr q))):RowAt (EndIs a X) (upd H e (.ins a.End dx (fsE s.1 lr q'))) (es.map .ref) xs:=by
 have k:Mv X H (upd H e (.ins a.End dx (fsE s.1 lr q'))):=.put he eU;refine⟨h.1,λj v x hv hj=>?_⟩;have hv':=hv;rw[jK]at hv
 cases ej:es[j]? with
 |none=>rw[ej]at hv;cases hv
 |some e'=>
  rw[ej]at hv
  cases hv;exact(h.2 j _ x hv' hj).mv k hl (ai λz=>ni (by rw[<-z];exact jI ej))
theorem TkAt.oth{s:Str×List WD}(h:TkAt a H0 H t p d ls lo li es fs A ss sr sk)(hm:e∈es++fs)(he:H e=some (.ins a.End dx (fsE s.1 lr q))):Same H0 (upd H e (.ins a.End dx (fsE s.1 lr q')))/\(∃dx',upd H e (.ins a.End dx (fsE s.1 lr q')) t=some (.ins a.Taking dx' (fsT p d ls lo li)))/\PlanA a (upd H e (.ins a.End dx (fsE s.1 lr q'))) d A 24/\(∃ts,upd H e (.ins a.End dx (fsE s.1 lr q')) ls=some (.lst ts)/\RowAt (StIs a [ls,lo,li]) (upd H e (.ins a.End dx (fsE s.1 lr q'))) ts ss)/\upd H e (.ins a.End dx (fsE s.1 lr q')) lo=some (.lst (es.map .ref))/\upd H e (.ins a.End dx (fsE s.1 lr q')) li=some (.lst (fs.map .ref)):=by
 have k:Mv [ls,lo,li] H (upd H e (.ins a.End dx (fsE s.1 lr q'))):=.put he eU;obtain⟨dx',ho⟩:=h.ob;obtain⟨ts,hs,rs⟩:=h.st;have nl:∀{b:Addr}{zs:List V},H b=some (.lst zs)->upd H e (.ins a.End dx (fsE s.1 lr q')) b=some (.lst zs):=λ{b}{zs}z=>by rw[ai (aG z he (by intro q;cases q))];exact z
 refine⟨λb o g=>by rw[ai (ar g (h.ne e hm))];exact h.sm _ _ g,⟨dx',?_⟩,k.plan h.ls3 h.pl,⟨ts,nl hs,rs.mono λv x z=>z.mv k h.ls3⟩,nl h.so,nl h.si⟩;rw[ai λz=>?_]
 ·exact ho
 ·rw[z,he]at ho;injection ho with ho
  injection ho with _ _ ho
  exact absurd (kA (λl=>(l.map Prod.fst)[0]?) ho) (by show¬some ("place":Str)=some ("on":Str);decide+kernel)
theorem TkAt.setS(h:TkAt a H0 H t p d ls lo li es fs A ss sr sk)(hi:es[i]?=some e)(hx:sr[i]?=some (s,r))(he:H e=some (.ins a.End dx (fsE s.1 lr q)))(fq:FrAt a.Fraction H q' r'):TkAt a H0 (upd H e (.ins a.End dx (fsE s.1 lr q'))) t p d ls lo li es fs A ss (sr.set i (s,r')) sk:=by
 have hm:e∈es++fs:=jX _ (jI hi);obtain⟨h1,h2,h3,h4,h5,h6⟩:=h.oth (q':=q') hm he;obtain⟨u1,_,u3⟩:=ky.mp h.un;exact⟨h1,h.nt,h.ns,h.nd,h.ne,h.un,h2,h3,h4,h5,h6,ends_set u1 h.ls3 h.ro hi hx he fq,ends_keep (λz=>u3 e (jI hi) e z rfl) h.ls3 h.ri he,h.no,h.ni,h.oi,h.nlo,h.nli,h.sd,h.sh⟩
theorem TkAt.setK(h:TkAt a H0 H t p d ls lo li es fs A ss sr sk)(hi:fs[i]?=some e)(hx:sk[i]?=some (s,r))(he:H e=some (.ins a.End dx (fsE s.1 lr q)))(fq:FrAt a.Fraction H q' r'):TkAt a H0 (upd H e (.ins a.End dx (fsE s.1 lr q'))) t p d ls lo li es fs A ss sr (sk.set i (s,r')):=by
 have hm:e∈es++fs:=j8 _ (jI hi);obtain⟨h1,h2,h3,h4,h5,h6⟩:=h.oth (q':=q') hm he;obtain⟨_,u2,u3⟩:=ky.mp h.un;exact⟨h1,h.nt,h.ns,h.nd,h.ne,h.un,h2,h3,h4,h5,h6,ends_keep (λz=>u3 e z e (jI hi) rfl) h.ls3 h.ro he,ends_set u2 h.ls3 h.ri hi hx he fq,h.no,h.ni,h.oi,h.nlo,h.nli,h.sd,h.sh⟩
theorem ends_there(h:RowAt (EndIs a X) H (es.map .ref) xs)(he:e∈es):H e≠none:=λz=>by
 obtain⟨i,hi⟩:=kh.mp he;obtain⟨x,_,e',dx,lr,q,ee,h1,_⟩:=h.get (i:=i) (t:=.ref e) (by rw[jK,hi];rfl)
 cases ee;rw[z]at h1
 cases h1
theorem TkAt.fresh(h:TkAt a H0 H t p d ls lo li es fs A ss sr sk)(n:H e=none):¬e∈es/\¬e∈fs:=⟨λz=>ends_there h.ro z n,λz=>ends_there h.ri z n⟩
theorem TkAt.addS(h:TkAt a H0 H t p d ls lo li es fs A ss sr sk)(n:NewEnd a H H' e s lr x)(hlr:H lr=some (.lst (nmV rg)))(nlr:¬lr∈[ls,lo,li]):TkAt a H0 (upd H' lo (.lst (es.map .ref++[.ref e]))) t p d ls lo li (es++[e]) fs A ss (sr++[((s,rg),x)]) sk:=by
 obtain⟨ne,s',dx,q,he,fq⟩:=n;have h2:=h.mono s';obtain⟨f1,f2⟩:=h.fresh ne;obtain⟨ts,hs,rs⟩:=h2.st;obtain⟨dxt,ho⟩:=h2.ob;have k:Mv [ls,lo,li] H' (upd H' lo (.lst (es.map .ref++[.ref e]))):=.app (by simp);have kE:∀(v':V)(e' dx':Addr)(s':Str)(lr q:Addr),H' e'=some (.ins a.End dx' (fsE s' lr q))->v'=.ref e'->upd H' lo (.lst (es.map .ref++[.ref e])) e'=H' e':=λv' e' dx' s' lr q z _=>ai (aG z h2.so (by intro q;cases q));obtain⟨u1,u2,u3⟩:=ky.mp h.un;refine⟨aF h.nlo h2.sm,h.nt,h.ns,h.nd,λe' he'=>?_,?_,⟨dxt,by rw[ai (aG ho h2.so (by intro q;cases q))];exact ho⟩,k.plan h2.ls3 h2.pl,⟨ts,by rw[ai h.no.symm];exact hs,rs.mono λv x z=>z.mv k h2.ls3⟩,?_,by rw[ai h.oi.symm];exact h2.si,?_,h2.ri.mono λv x z=>z.mv' k h2.ls3 (kE v),h.no,h.ni,h.oi,h.nlo,h.nli,h.sd,h.sh⟩
 ·rcases jP.mp he' with z|z
  ·rcases jP.mp z with z|z
   ·exact h.ne _ (jX _ z)
   ·rw[jN.mp z];exact h.sm.free ne
  ·exact h.ne _ (j8 _ z)
 ·refine ky.mpr ⟨ky.mpr ⟨u1,by simp,λx hx y hy e1=>f1 ?_⟩,u2,λx hx y hy e1=>?_⟩
  ·rw[jN.mp hy]at e1;rw[<-e1];exact hx
  ·rcases jP.mp hx with z|z
   ·exact u3 x z y hy e1
   ·rw[jN.mp z]at e1;exact f2 (by rw[e1];exact hy)
 ·rw[ag,jM];rfl
 ·rw[jM];refine RowAt.snoc (h2.ro.mono λv x z=>z.mv' k h2.ls3 (kE v)) ⟨e,dx,lr,q,rfl,?_,k _ _ (s' _ _ hlr) nlr Plain.lst,nlr,k.fr h2.ls3 fq⟩;rw[ai (aG he h2.so (by intro q;cases q))];exact he
theorem TkAt.addK(h:TkAt a H0 H t p d ls lo li es fs A ss sr sk)(n:NewEnd a H H' e s lr x)(hlr:H lr=some (.lst (nmV rg)))(nlr:¬lr∈[ls,lo,li]):TkAt a H0 (upd H' li (.lst (fs.map .ref++[.ref e]))) t p d ls lo li es (fs++[e]) A ss sr (sk++[((s,rg),x)]):=by
 obtain⟨ne,s',dx,q,he,fq⟩:=n;have h2:=h.mono s';obtain⟨f1,f2⟩:=h.fresh ne;obtain⟨ts,hs,rs⟩:=h2.st;obtain⟨dxt,ho⟩:=h2.ob;have k:Mv [ls,lo,li] H' (upd H' li (.lst (fs.map .ref++[.ref e]))):=.app (by simp);have kE:∀(v':V)(e' dx':Addr)(s':Str)(lr q:Addr),H' e'=some (.ins a.End dx' (fsE s' lr q))->v'=.ref e'->upd H' li (.lst (fs.map .ref++[.ref e])) e'=H' e':=λv' e' dx' s' lr q z _=>ai (aG z h2.si (by intro q;cases q));obtain⟨u1,u2,u3⟩:=ky.mp h.un;refine⟨aF h.nli h2.sm,h.nt,h.ns,h.nd,λe' he'=>?_,?_,⟨dxt,by rw[ai (aG ho h2.si (by intro q;cases q))];exact ho⟩,k.plan h2.ls3 h2.pl,⟨ts,by rw[ai h.ni.symm];exact hs,rs.mono λv x z=>z.mv k h2.ls3⟩,by rw[ai h.oi];exact h2.so,?_,h2.ro.mono λv x z=>z.mv' k h2.ls3 (kE v),?_,h.no,h.ni,h.oi,h.nlo,h.nli,h.sd,h.sh⟩
 ·rcases jP.mp he' with z|z
  ·exact h.ne _ (jX _ z)
  ·rcases jP.mp z with z|z
   ·exact h.ne _ (j8 _ z)
   ·rw[jN.mp z];exact h.sm.free ne
 ·refine ky.mpr ⟨u1,ky.mpr ⟨u2,by simp,λx hx y hy e1=>f2 ?_⟩,λx hx y hy e1=>?_⟩
  ·rw[jN.mp hy]at e1;rw[<-e1];exact hx
  ·rcases jP.mp hy with z|z
   ·exact u3 x hx y z e1
   ·rw[jN.mp z]at e1;exact f1 (by rw[<-e1];exact hx)
 ·rw[ag,jM];rfl
 ·rw[jM];refine RowAt.snoc (h2.ri.mono λv x z=>z.mv' k h2.ls3 (kE v)) ⟨e,dx,lr,q,rfl,?_,k _ _ (s' _ _ hlr) nlr Plain.lst,nlr,k.fr h2.ls3 fq⟩;rw[ai (aG he h2.si (by intro q;cases q))];exact he
end
noncomputable def RBd(l:List WD)(x:Rat):Prop:=Bd 8400 x/\(∀n,Bd 8400 (x*sA 1 l n))/\Bd 8400 ((1-aB l)*x)
noncomputable def RgOut(ring:List WD)(s0:Str)(x:Rat)(ss:List SD)(sr sk:List EN)(ss':List SD)(sr' sk':List EN):Prop:=
 (aB ring=1/\(∃ad,ss'=ss++[⟨ring,[],[],x,ad⟩])/\sr'=sr/\sk'=sk)∨(1<aB ring/\ss'=ss/\sr'=sr++[((s0,ring),(aB ring-1)*x)]/\sk'=sk)∨(aB ring<1/\ss'=ss/\sr'=sr/\sk'=sk++[((s0,ring),(1-aB ring)*x)])
inductive IspTakeR(a:Ad)(vs:List V)(H:Hp)(Q:VK):Prop
 |mk(H0:Hp)(t p d ls lo li l:Addr)(es fs:List Addr)(A:Str->Rat)(ss:List SD)(sr sk:List EN)(ps:List (Str×Rat))(ns ring:List WD)(E:Nat)(s0:Str)(h1:vs=[.ref t,.ref l])(h2:TkAt a H0 H t p d ls lo li es fs A ss sr sk)(h3:NetAt a H0 p ps ns)(h4:(ns.map (·.nm)).Nodup)(h5:(∀d∈ns,GnE E d/\SmR d.x/\Bd 40 (aD d.kd d.x)))(h6:ns.length<=24)(h7:H l=some (.lst (nmV ring)))(h8:¬l∈[ls,lo,li])(h9:H0 l=none)(h10:¬l∈ss.flatMap (·.ad))(h11:RingW ns ring)(h12:PthW s0 ring s0)(h13:ring.length<=6)(h14:(∀d∈ring,A d.nm≠0/\RBd ring (A d.nm/sA 1 ring d.nm)))(h15:(∀n,0<=A n/\Bd 8400 (A n)))(h16:(∀n,A n≠0->n∈ns.map (·.nm)))(h17:ss.length<=100)(h18:es.length<=100)(h19:fs.length<=100)(h20:∀H' d' es' fs' ss' sr' sk' x,TkAt a H0 H' t p d' ls lo li es' fs' (mns A ring x) ss' sr' sk'->0<x->(∀d∈ring,sA x ring d.nm<=A d.nm)->(∃d∈ring,x=A d.nm/sA 1 ring d.nm/\sA x ring d.nm=A d.nm)->RgOut ring s0 x ss sr sk ss' sr' sk'->Q .non H'):IspTakeR a vs H Q
noncomputable def spTakeR(a:Ad):Sp:=λvs H Q _=>IspTakeR a vs H Q
theorem iB(T:TX K mg a):MtB P w K mg base CX0 a.Taking "take_ring" 10 ["self","ring"] (spTakeR a):=by
 refine T.m_Taking_take_ring.okA sc_Taking_take_ring λf cdv A outer s H vs Q E hr h=>?_;obtain⟨H0,t,p,d,ls,lo,li,l,es,fs,A,ss,sr,sk,ps,ns,ring,E',s0,rfl,D,hn,ndn,gn,ln,hl,nlx,nl0,nls,rg,pth,lr,hA,bA,sub,lss,les,lfs,k⟩:=h
 refine⟨_,(af (aj (i:=2) sc_Taking_take_ring.nd (az (sentA T) hr aq (aa (aH (pv 0) rfl) (aa (pv 1) (aa (bD (mk1 T) hr T.mg_Fraction aq (aa ab ae)) ae)))))
  (af (aj (i:=3) sc_Taking_take_ring.nd (az (iP T) hr aq (aa (aH (pv 0) rfl) (aa (pv 2) ae))))
  (af (bG (pv 0) (az (ok_less T) hr aq (aa (aH (pv 0) rfl) (aa (pv 2) (aa (pv 3) ae)))) rfl)
  (af (aj (i:=4) sc_Taking_take_ring.nd (b7 T.fr (b7 T.fr (bD (mk1 T) hr T.mg_Fraction aq (aa ab ae)) (eR T) hr aq (aa (az (ok_gain_of T) hr aq (aa (aH (pv 0) rfl) (aa (pv 1) ae))) ae)) (gm T) hr aq (aa (pv 3) ae)))
  (aE (aN (au cT (di T.fr (pv 4) (dj T) hr aq) ab) (ah (aT (gi ki kC kD bJ (aH (pv 0) rfl) (aa (aU (aa (pv 1) (aa (aR ae) (aa (aR ae) (aa (pv 3) ae))))) ae)))) aA)
  (ah (aT (cJ (CX:=CX0) (pv 0) hr aq (aa (aH (cJ (CX:=CX0) (aH (pv 0) rfl) hr aq (aa (al aM (pv 1) ab) ae)) rfl) (aa (pv 1) (aa (pv 4) ae))))))))))),?_⟩
 walk_at"q"
 obtain⟨dx,ho⟩:=D.ob;have gE:∀d∈ring,GnE E' d:=λd hd=>(gn d (rg.sub d hd)).1;have ndr:(ring.map (·.nm)).Nodup:=bo ndn rg.sub rg.nd;have S:WkS 40 ring:=⟨λd hd=>(gn d (rg.sub d hd)).2,by lia,by decide,lr,ndr⟩;have O:OnNet K a H p l ps ns ring:=⟨hn.mono D.sm,ndn,SqL.of hl,rg.sub,pth.chain,by lia⟩;have bU:∀n,Bd 800 (sA 1 ring n):=λn=>(S.sA Bd.one n).mono (by decide);have uP:∀d∈ring,0<sA 1 ring d.nm:=λd hd=>(sA_gq (m:=ring.length) ndr gE (by lia) hd).1;refine⟨_,rfl,t,_,dx,_,_,rfl,ho,T.cl_Taking,T.na_Taking_on,fsT_on _ _ _ _ _,_,rfl,1,1,rfl,by decide,sm1,λo H1 no s1 fo=>?_⟩;rw[show Rat.divInt 1 1=1 from rfl]at fo;refine⟨p,l,o,ps,ns,ring,1,40,0,rfl,O.mono s1,fo,S,Bd.one,by decide,λr H2 nr s2 pr=>?_⟩;have s12:=s1.trans s2;have D2:=D.mono s12;obtain⟨kve,us,he,te,ndu,lu,iu⟩:=unitP gE ndr pr;obtain⟨kvd,ks,hd,td,ndk,lk,ik⟩:=id D2.pl
 have une:us≠[]:=λz=>by
  obtain⟨y,hy⟩:=List.exists_mem_of_ne_nil _ rg.ne
  have:=(iu y.nm).mpr (jL.mpr ⟨y,hy,rfl⟩)
  rw[z]at this
  cases this
 have dne:d≠r:=by
  obtain⟨kv0,_,h0,_⟩:=id (D.mono s1).pl;exact ar h0 nr
 have inu:∀n,n∈us->∃y∈ring,y.nm=n:=λn hn=>jL.mp ((iu n).mp hn);refine⟨_,rfl,t,_,dx,_,_,rfl,s12 _ _ ho,T.cl_Taking,T.na_Taking_rest,fsT_d _ _ _ _ _,_,rfl,d,r,kvd,kve,ks,us,A,sA 1 ring,rfl,hd,td,he,te,ndu,une,by lia,λn hn=>?_,dne,λq H3 x s3 fx hx1 hx2=>?_⟩
 ·obtain⟨y,hy,rfl⟩:=inu n hn
  have:=uP y hy
  exact⟨(ik _).mpr (hA y hy).1,(bA _).2.smr (by decide),(bU _).smr (by decide),by grind,(hA y hy).2.1.smr (by decide)⟩
 have s13:=s12.trans s3;obtain⟨n0,hn0,en0⟩:=hx1;obtain⟨y0,hy0,rfl⟩:=inu n0 hn0;obtain⟨b1,b2,b3⟩:RBd ring x:=by rw[<-en0];exact(hA y0 hy0).2
 have dv:∀d∈ring,A d.nm/sA 1 ring d.nm*sA 1 ring d.nm=A d.nm:=λd hd=>kX (by have:=uP d hd;grind)
 have x0:0<x:=by
  rw[<-en0,kH];exact cK (by have:=(hA y0 hy0).1;have:=(bA y0.nm).1;grind) (gC (uP y0 hy0))
 have hmin:∀d∈ring,sA x ring d.nm<=A d.nm:=λy hy=>by
  have h1:=hx2 _ ((iu _).mpr (jL.mpr ⟨y,hy,rfl⟩));have h2:=lC h1 (kI (uP y hy));rw[dv y hy]at h2;rw[eM];exact h2
 have hat:∃d∈ring,x=A d.nm/sA 1 ring d.nm/\sA x ring d.nm=A d.nm:=⟨y0,hy0,en0.symm,by rw[eM,<-en0];exact dv y0 hy0⟩;have D3:=D2.mono s3;refine⟨_,rfl,t,_,dx,_,_,rfl,s13 _ _ ho,T.cl_Taking,T.na_Taking_rest,fsT_d _ _ _ _ _,_,rfl,_,rfl,d,r,q,A,sA 1 ring,24,6,x,rfl,D3.pl,pr.mono s3,by decide,by decide,fx,b1.mono (by decide),λn=>⟨(bA n).2.mono (by decide),(bU n).mono (by decide),(b2 n).mono (by decide)⟩,λr' H4 nr' s4 pl4=>?_⟩;have s14:=s13.trans s4;have ho4:=s14 _ _ ho
 have ef:(λn=>A n-x*sA 1 ring n)=mns A ring x:=funext λn=>by
  unfold mns;rw[<-eM]
 rw[ef]at pl4
 have pl5:PlanA a H4 r' (mns A ring x) 24:=by
  obtain⟨kv5,ks5,h51,h52,h53,_,h55⟩:=pl4;refine⟨kv5,ks5,h51,h52,h53,?_,h55⟩
  have:=ce h53 (ys:=ns.map (·.nm)) λn hn=>?_
  ·rw[jF]at this
   lia
  ·have:=(h55 n).mp hn
   by_cases c:n∈ring.map (·.nm)
   ·obtain⟨y,hy,rfl⟩:=jL.mp c;exact jL.mpr ⟨y,rg.sub y hy,rfl⟩
   ·refine sub n λz=>this ?_;unfold mns;rw[g8 c,z];decide+kernel
 have D5:=(D.mono s14).setd ho4 ((D.sm.trans s13).free nr') pl5;have kp:Mv [ls,lo,li] H4 (upd H4 t (.ins a.Taking dx (fsT p r' ls lo li))):=.put ho4 iX;have fx5:=kp.fr (D.mono s14).ls3 (fx.mono s4);have hl5:=kp _ _ (s14 _ _ hl) nlx Plain.lst;have ho5:upd H4 t (.ins a.Taking dx (fsT p r' ls lo li)) t=some (.ins a.Taking dx (fsT p r' ls lo li)):=ag;refine⟨_,rfl,t,a.Taking,dx,_,rfl,ho4,T.cl_Taking,T.na_Taking_rest,by show 5<1000;decide,?_⟩;rw[fsT_put];generalize upd H4 t (.ins a.Taking dx (fsT p r' ls lo li))=H5 at D5 kp fx5 hl5 ho5⊢;have O5:OnNet K a H5 p l ps ns ring:=⟨hn.mono D5.sm,ndn,SqL.of hl5,rg.sub,pth.chain,by lia⟩;refine⟨1,1,rfl,by decide,sm1,λo2 H6 no2 s6 fo2=>?_⟩;rw[show Rat.divInt 1 1=1 from rfl]at fo2;refine⟨o2,_,rfl,fo2,_,rfl,t,_,dx,_,_,rfl,s6 _ _ ho5,T.cl_Taking,T.na_Taking_on,fsT_on _ _ _ _ _,_,rfl,p,l,ps,ns,ring,40,rfl,O5.mono s6,S.b,by decide,by lia,λg H7 s7 fg=>?_⟩;refine⟨o2,g,_,_,rfl,fo2.mono s7,fg,Bd.one.s9,S.g.s9,True.intro,λy H8 ny s8 fy=>?_⟩;have s58:=s6.trans (s7.trans s8);refine⟨y,_,rfl,fy,_,rfl,y,q,_,_,rfl,fy,fx5.mono s58,(Bd.one.sub S.g).s9,b1.s9,True.intro,λev H9 nev s9 fev=>?_⟩;have s59:=s58.trans s9;have D9:=D5.mono s59;have fx9:=fx5.mono s59;have hl9:=s59 _ _ hl5;have ho9:=s59 _ _ ho5;clear fy fg fo2 fo s58 s59;refine bM (λσ' H'=>∃ss',σ'=[some (.ref t),some (.ref l),some (.ref r),some (.ref q),some (.ref ev)]/\TkAt a H0 H' t p r' ls lo li es fs (mns A ring x) ss' sr sk/\H' l=some (.lst (nmV ring))/\FrAt a.Fraction H' ev ((1-aB ring)*x)/\((aB ring=1/\∃ad,ss'=ss++[⟨ring,[],[],x,ad⟩])∨(aB ring≠1/\ss'=ss))) ?_ ?_
 ·walk_at"rd"
  by_cases c:(1-aB ring)*x=0
  case neg=>
   refine cL (jY λz=>c (sgn_zero.mp (V.int.inj z))) ?_;exact⟨ss,rfl,D9,hl9,fev,.inr ⟨λz=>c (by rw[z];grind),rfl⟩⟩
  have g1:aB ring=1:=by
   rcases Rat.mul_eq_zero.mp c with z|z
   ·grind
   ·grind
  refine iteC (j6 (kA V.int (sgn_zero.mpr c))) ?_;obtain⟨ts,hs9,rs9⟩:=id D9.st;refine⟨_,rfl,t,_,dx,_,_,rfl,ho9,T.cl_Taking,T.na_Taking_strands,fsT_s _ _ _ _ _,?_⟩;refine⟨.inl ⟨rfl,_,SqL.of hs9⟩,?_⟩;refine⟨_,rfl,by decide,λl2 nl2=>?_⟩;obtain⟨H10,zq,s10,h10⟩:=uG (o:=.lst []) nl2;rw[zq];refine⟨by decide,λl3 nl3=>?_⟩;obtain⟨H11,zq,s11,h11⟩:=uG (o:=.lst []) nl3;rw[zq];refine⟨_,rfl,(show 4<=PySem.sizeLine by decide),λu nu=>?_⟩;obtain⟨H12,zq,s12',hu⟩:=uG (o:=.tup [.ref l,.ref l2,.ref l3,.ref q]) nu;rw[zq];have s912:=s10.trans (s11.trans s12');have D12:=D9.mono s912
  have n2:¬l2∈[ls,lo,li]:=λz=>by
   obtain⟨zs,e⟩:=D9.ls3 _ z;rw[nl2]at e
   cases e
  have n3:¬l3∈[ls,lo,li]:=λz=>by
   obtain⟨zs,e⟩:=(D9.mono s10).ls3 _ z;rw[nl3]at e
   cases e
  have hs12:=s912 _ _ hs9;have d12:=ar hl9 nl2;have d13:=ar (s10 _ _ hl9) nl3;have d23:=ar h10 nl3
  have D13:=D12.app hs12 (s:=⟨ring,[],[],x,[l,l2,l3]⟩) ⟨u,l,l2,l3,q,rfl,hu,s912 _ _ hl9,s11.trans s12' _ _ h10,s12' _ _ h11,nlx,n2,n3,fx9.mono s912,rfl⟩ (by simp[d12,d13,d23]) (λb hb=>by
   simp only[j3,j9,or_false]at hb;rcases hb with rfl|rfl|rfl
   ·exact⟨nl0,nls⟩
   ·exact⟨D9.sm.free nl2,D9.ads nl2⟩
   ·exact⟨(D9.mono s10).sm.free nl3,(D9.mono s10).ads nl3⟩)
  have lts:ts.length<=100:=by rw[rs9.1];exact lss
  refine⟨ls,_,_,rfl,rfl,hs12,ay (by lia),?_⟩;refine⟨_,rfl,D13,?_,(Mv.app (X:=[ls,lo,li]) (by simp)).fr D12.ls3 (fev.mono s912),.inl ⟨g1,_,rfl⟩⟩;rw[ai λz=>nlx (by rw[z];simp)];exact s912 _ _ hl9
 rintro zU hzU σ' H13⟨ss',rfl,D13,hl13,fe13,alt⟩;obtain⟨dx13,ho13⟩:=D13.ob;obtain⟨y1,e1⟩:∃y1,ring[0]?=some y1:=by cases hring:ring with|nil=>exact absurd hring rg.ne|cons z zs=>exact⟨z,rfl⟩
 have hy1:=rg.sub y1 (jI e1);have ys:y1.st=s0:=pth.head y1 (by rw[List.head?_eq_getElem?];exact e1);have hn13:=hn.mono D13.sm;obtain⟨dxn,dw,dy,hp,_,_⟩:=id hn13;have noc:=hX dw dy (m:="way") (by decide+kernel) (by decide+kernel);have i0:(nmV ring)[0]?=some (.str y1.nm):=by unfold nmV;rw[jK,e1];rfl
 subst hzU;refine⟨_,rfl,t,a.Taking,dx13,_,7,["self","place","ring","come"],spAddE a,rfl,ho13,i6 _ _ _ _ _ (by decide+kernel),T.cl_Taking,by decide,fM T,?_⟩;refine⟨_,rfl,t,_,dx13,_,_,rfl,ho13,T.cl_Taking,T.na_Taking_on,fsT_on _ _ _ _ _,p,a.Net,dxn,_,1,["self","name"],d9 a,rfl,hp,noc,T.cl_Net,by decide,c9 T,?_⟩;refine⟨_,rfl,l,_,_,_,rfl,rfl,SqL.of hl13,atI_nat (j:=0) i0,p,ps,ns,y1,rfl,hn13,ndn,hy1,λv hx=>?_⟩;obtain⟨p1,vh,vc,qx,rfl,W,hkd⟩:=id hx;obtain⟨dx1,fs1,ho1,h51,_⟩:=id W.ob;have c1:=bV T y1.kd;refine⟨p1,_,dx1,fs1,_,rfl,ho1,c1.cl,c1.n2,h51.st,_,rfl,_,rfl,?_⟩;rw[ys];refine⟨t,dx13,p,r',ls,lo,li,l,ev,s0,(1-aB ring)*x,_,_,rfl,ho13,fe13,b3.s9,D13.so,D13.si,by rw[jF];exact les,by rw[jF];exact lfs,λc e H14 ne=>?_,λc e H14 ne=>?_,λc=>?_⟩
 ·have g1:1<aB ring:=Rat.not_le.mp λz=>by
   have:=eZ (show 0<=1-aB ring by grind) (kI x0)
   grind
  obtain⟨g2,rfl⟩:=alt.resolve_left λz=>by rw[z.1]at g1;exact absurd g1 (by decide+kernel)
  rw[show-((1-aB ring)*x)=(aB ring-1)*x by grind]at ne;exact k _ r' _ _ _ _ _ x (D13.addS ne hl13 nlx) x0 hmin hat (.inr (.inl ⟨g1,rfl,rfl,rfl⟩))
 ·have g1:aB ring<1:=Rat.not_le.mp λz=>by
   have:=eZ (show 0<=aB ring-1 by grind) (kI x0)
   grind
  obtain⟨g2,rfl⟩:=alt.resolve_left λz=>by rw[z.1]at g1;exact absurd g1 (by decide+kernel)
  exact k _ r' _ _ _ _ _ x (D13.addK ne hl13 nlx) x0 hmin hat (.inr (.inr ⟨g1,rfl,rfl,rfl⟩))
 ·have g1:aB ring=1:=by
   rcases Rat.mul_eq_zero.mp c with z|z
   ·grind
   ·grind
  obtain⟨g2,ad,rfl⟩:=alt.resolve_right λz=>z.1 g1;exact k _ r' _ _ _ _ _ x D13 x0 hmin hat (.inl ⟨g1,⟨ad,rfl⟩,rfl,rfl⟩)
end
end G
namespace G
open PySem L2
section
theorem TkAt.eS{i:Nat}(h:TkAt a H0 H t p d ls lo li es fs A ss sr sk)(hi:es[i]?=some e)(hx:sr[i]?=some (s,r)):∃dxe lre qe,H e=some (.ins a.End dxe (fsE s.1 lre qe))/\H lre=some (.lst (nmV s.2))/\¬lre∈[ls,lo,li]/\FrAt a.Fraction H qe r:=by
 obtain⟨e',dx',lr',q',z,z1,z2,z3,z4⟩:=h.ro.2 i (.ref e) (s,r) (by rw[jK,hi];rfl) hx
 cases z;exact⟨dx',lr',q',z1,z2,z3,z4⟩
theorem TkAt.eK{i:Nat}(h:TkAt a H0 H t p d ls lo li es fs A ss sr sk)(hi:fs[i]?=some e)(hx:sk[i]?=some (s,r)):∃dxe lre qe,H e=some (.ins a.End dxe (fsE s.1 lre qe))/\H lre=some (.lst (nmV s.2))/\¬lre∈[ls,lo,li]/\FrAt a.Fraction H qe r:=by
 obtain⟨e',dx',lr',q',z,z1,z2,z3,z4⟩:=h.ri.2 i (.ref e) (s,r) (by rw[jK,hi];rfl) hx
 cases z;exact⟨dx',lr',q',z1,z2,z3,z4⟩
noncomputable def PB(l:List WD)(x:Rat):Prop:=Bd 8400 x/\(∀n,Bd 8400 (x*sA 1 l n))/\Bd 8400 (x*aB l)
inductive IspTakeP(a:Ad)(vs:List V)(H:Hp)(Q:VK):Prop
 |mk(H0:Hp)(t p d ls lo li l e f:Addr)(es fs:List Addr)(A:Str->Rat)(ss:List SD)(sr sk:List EN)(ps:List (Str×Rat))(ns path:List WD)(i j E:Nat)(k1 k2:Str×List WD)(r1 r2:Rat)(h1:vs=[.ref t,.ref e,.ref l,.ref f])(h2:TkAt a H0 H t p d ls lo li es fs A ss sr sk)(h3:NetAt a H0 p ps ns)(h4:(ns.map (·.nm)).Nodup)(h5:(∀d∈ns,GnE E d/\SmR d.x/\Bd 40 (aD d.kd d.x)))(h6:ns.length<=24)(h7:H l=some (.lst (nmV path)))(h8:¬l∈[ls,lo,li])(h9:H0 l=none)(h10:¬l∈ss.flatMap (·.ad))(h11:(∀x∈path,x∈ns))(h12:(path.map (·.nm)).Nodup)(h13:Chain path)(h14:path.length<=6)(h15:(∀d∈path,A d.nm≠0/\PB path (A d.nm/sA 1 path d.nm)))(h16:(∀n,0<=A n/\Bd 8400 (A n)))(h17:(∀n,A n≠0->n∈ns.map (·.nm)))(h18:ss.length<=100)(h19:es[i]?=some e)(h20:sr[i]?=some (k1,r1))(h21:fs[j]?=some f)(h22:sk[j]?=some (k2,r2))(h23:0<r1)(h24:0<r2)(h25:PB path r1)(h26:Bd 8400 r2)(h27:PB path (r2/aB path))(h28:∀H' d' x ad,TkAt a H0 H' t p d' ls lo li es fs (mns A path x) (ss++[⟨k1.2,path,k2.2,x,ad⟩]) (sr.set i (k1,r1-x)) (sk.set j (k2,r2-x*aB path))->0<x->x<=r1->x*aB path<=r2->(∀d∈path,sA x path d.nm<=A d.nm)->(x=r1∨x*aB path=r2∨∃d∈path,sA x path d.nm=A d.nm)->(x=r1∨x=r2/aB path∨∃d∈path,x=A d.nm/sA 1 path d.nm)->Q .non H'):IspTakeP a vs H Q
noncomputable def spTakeP(a:Ad):Sp:=λvs H Q _=>IspTakeP a vs H Q
theorem iC(T:TX K mg a):MtB P w K mg base CX0 a.Taking "take_path" 10 ["self","source","path","sink"] (spTakeP a):=by
 refine T.m_Taking_take_path.okA sc_Taking_take_path λf cdv A outer s H vs Q E hr h=>?_;obtain⟨H0,t,p,d,ls,lo,li,l,e,f,es,fs,A,ss,sr,sk,ps,ns,path,i,j,E',k1,k2,r1,r2,rfl,D,hn,ndn,gn,ln,hl,nlx,nl0,nls,psub,ndr,pch,lr,hA,bA,sub,lss,hi,hx,hj,hy,p1,p2,b1,b2,b3,k⟩:=h
 refine⟨_,(af (aj (i:=4) sc_Taking_take_path.nd (az (sentA T) hr aq (aa (aH (pv 0) rfl) (aa (pv 2) (aa (bD (mk1 T) hr T.mg_Fraction aq (aa ab ae)) ae)))))
  (af (aj (i:=5) sc_Taking_take_path.nd (az (ok_gain_of T) hr aq (aa (aH (pv 0) rfl) (aa (pv 2) ae))))
  (af (aj (i:=6) sc_Taking_take_path.nd (az (ok_least T) hr aq (aa (aR (aa (aH (pv 1) rfl) (aa (b7 T.fr (aH (pv 3) rfl) (ok_over T) hr aq (aa (pv 5) ae)) ae))) ae)))
  (aE (aN (au (g9 hr.units0) (pv 2) (aR ae)) (ah (aj (i:=6) sc_Taking_take_path.nd (az (ok_least T) hr aq (aa (aR (aa (pv 6) (aa (az (iP T) hr aq (aa (aH (pv 0) rfl) (aa (pv 4) ae))) ae))) ae)))) aA)
  (af (bG (pv 0) (az (ok_less T) hr aq (aa (aH (pv 0) rfl) (aa (pv 4) (aa (pv 6) ae)))) rfl)
  (af (bG (pv 1) (b7 T.fr (aH (pv 1) rfl) (eR T) hr aq (aa (pv 6) ae)) rfl)
  (af (bG (pv 3) (b7 T.fr (aH (pv 3) rfl) (eR T) hr aq (aa (b7 T.fr (pv 6) (gm T) hr aq (aa (pv 5) ae)) ae)) rfl)
  (ah (aT (gi ki kC kD bJ (aH (pv 0) rfl) (aa (aU (aa (bj gG (by rfl) T.z_list kK (aa (aH (pv 1) rfl) ae)) (aa (pv 2) (aa (bj gG (by rfl) T.z_list kK (aa (aH (pv 3) rfl) ae)) (aa (pv 6) ae))))) ae))))))))))),?_⟩
 walk_at"q"
 obtain⟨dx,ho⟩:=D.ob;have gE:∀d∈path,GnE E' d:=λd hd=>(gn d (psub d hd)).1;have S:WkS 40 path:=⟨λd hd=>(gn d (psub d hd)).2,by lia,by decide,lr,ndr⟩;have O:OnNet K a H p l ps ns path:=⟨hn.mono D.sm,ndn,SqL.of hl,psub,pch,by lia⟩;have bU:∀n,Bd 800 (sA 1 path n):=λn=>(S.sA Bd.one n).mono (by decide);have uP:∀d∈path,0<sA 1 path d.nm:=λd hd=>(sA_gq (m:=path.length) ndr gE (by lia) hd).1;have gp:0<aB path:=(jA gE).1;refine⟨_,rfl,t,_,dx,_,_,rfl,ho,T.cl_Taking,T.na_Taking_on,fsT_on _ _ _ _ _,_,rfl,1,1,rfl,by decide,sm1,λo H1 no s1' fo=>?_⟩;rw[show Rat.divInt 1 1=1 from rfl]at fo;refine⟨p,l,o,ps,ns,path,1,40,0,rfl,O.mono s1',fo,S,Bd.one,by decide,λr H2 nr s2' pr=>?_⟩;have s12:=s1'.trans s2';have D2:=D.mono s12;obtain⟨kve,us,he,te,ndu,lu,iu⟩:=unitP gE ndr pr;refine⟨_,rfl,t,_,dx,_,_,rfl,s12 _ _ ho,T.cl_Taking,T.na_Taking_on,fsT_on _ _ _ _ _,_,rfl,p,l,ps,ns,path,40,rfl,O.mono s12,S.b,by decide,by lia,λg H3 s3 fg=>?_⟩;have s13:=s12.trans s3;have D3:=D2.mono s3;obtain⟨dxe,lre,qe,hee,hlre,nlre,fqe⟩:=D3.eS hi hx;obtain⟨dxf,lrf,qf,hef,hlrf,nlrf,fqf⟩:=D3.eK hj hy;refine⟨_,rfl,e,_,dxe,_,_,rfl,hee,T.cl_End,T.na_End_rest,fsE_q _ _ _,?_⟩;refine⟨_,rfl,f,_,dxf,_,_,rfl,hef,T.cl_End,T.na_End_rest,fsE_q _ _ _,qf,r2,rfl,fqf,_,rfl,qf,g,_,_,rfl,fqf,fg,b2.s9,S.g.s9,by grind,λqo H4 nqo s4 fo4=>?_⟩;refine⟨(show 2<=PySem.sizeLine by decide),λlm nlm=>?_⟩;obtain⟨H5,zq,s5,h5⟩:=uG (o:=.lst [.ref qe,.ref qo]) nlm;rw[zq];have s35:=s4.trans s5;have rw5:RowAt (FrIs a) H5 [.ref qe,.ref qo] [r1,r2/aB path]:=RowAt.snoc (RowAt.snoc RowAt.nil ⟨qe,rfl,fqe.mono s35⟩) ⟨qo,rfl,fo4.mono s5⟩;refine⟨lm,_,[r1,r2/aB path],rfl,SqL.of h5,rw5,by simp,λx hx=>?_,λqm m fm hm all=>?_⟩
 ·simp only[j3,j9,or_false]at hx;rcases hx with rfl|rfl
  ·exact b1.1.s9
  ·exact b3.1.s9
 have m1:m<=r1:=all r1 (by simp);have m2:m<=r2/aB path:=all _ (by simp);have m3:m=r1∨m=r2/aB path:=by simpa using hm
 clear hm all;have PBm:PB path m:=by rcases m3 with rfl|rfl;exact b1;exact b3
 have inu:∀n,n∈us->∃y∈path,y.nm=n:=λn hn=>jL.mp ((iu n).mp hn);have s15:=s13.trans s35;have s25:=s3.trans s35;refine bM (λσ' H'=>∃qa am,σ'=[some (.ref t),some (.ref e),some (.ref l),some (.ref f),some (.ref r),some (.ref g),some (.ref qa)]/\Same H5 H'/\FrAt a.Fraction H' qa am/\am<=m/\(∀d∈path,am<=A d.nm/sA 1 path d.nm)/\(am=m∨∃d∈path,am=A d.nm/sA 1 path d.nm)) ?_ ?_
 ·refine⟨_,rfl,by decide,λe0 ne0=>?_⟩;obtain⟨H6,zq,s6,h6⟩:=uG (o:=.lst []) ne0;rw[zq];have s16:=s15.trans s6;have hl6:=s16 _ _ hl;by_cases pne:path=[]
  ·rw[show nmV path=[]by rw[pne];rfl]at hl6;exact⟨l,e0,_,rfl,rfl,SqL.of hl6,SqL.of h6,_,rfl,iteF ⟨qm,m,rfl,s6,fm.mono s6,Rat.le_refl,λd hd=>absurd hd (by rw[pne];exact j9),.inl rfl⟩⟩
  have D6:=D.mono s16;obtain⟨yw,hyw⟩:=List.exists_mem_of_ne_nil _ pne
  obtain⟨v0,vr,ev0⟩:∃v0 vr,nmV path=v0::vr:=by
   cases hpp:path with
   |nil=>exact absurd hpp pne
   |cons z zs=>exact⟨_,_,rfl⟩
  rw[ev0]at hl6;refine⟨l,e0,_,rfl,rfl,SqL.of hl6,SqL.of h6,_,rfl,iteT ?_⟩;obtain⟨kvd,ks,hd,td,ndk,lk,ik⟩:=id D6.pl
  have une:us≠[]:=λz=>by
   have:=(iu yw.nm).mpr (jL.mpr ⟨yw,hyw,rfl⟩)
   rw[z]at this
   cases this
  have dne:d≠r:=by
   obtain⟨kv0,_,h0,_⟩:=id (D.mono s1').pl;exact ar h0 nr
  have s26:=s25.trans s6;refine⟨_,rfl,_,rfl,t,_,dx,_,_,rfl,s16 _ _ ho,T.cl_Taking,T.na_Taking_rest,fsT_d _ _ _ _ _,_,rfl,d,r,kvd,kve,ks,us,A,sA 1 path,rfl,hd,td,s26 _ _ he,te.mono (λv x z=>z.mono s26),ndu,une,by lia,λn hn=>?_,dne,λq H7 x s7 fx hx1 hx2=>?_⟩
  ·obtain⟨y,hy,rfl⟩:=inu n hn
   have:=uP y hy
   exact⟨(ik _).mpr (hA y hy).1,(bA _).2.smr (by decide),(bU _).smr (by decide),by grind,(hA y hy).2.1.smr (by decide)⟩
  obtain⟨n0,hn0,en0⟩:=hx1;obtain⟨y0,hy0,rfl⟩:=inu n0 hn0;refine⟨(show 2<=PySem.sizeLine by decide),λlq nlq=>?_⟩;obtain⟨H8,zq,s8,h8⟩:=uG (o:=.lst [.ref qm,.ref q]) nlq;rw[zq];have rw8:RowAt (FrIs a) H8 [.ref qm,.ref q] [m,x]:=RowAt.snoc (RowAt.snoc RowAt.nil ⟨qm,rfl,fm.mono (s6.trans (s7.trans s8))⟩) ⟨q,rfl,fx.mono s8⟩;refine⟨lq,_,[m,x],rfl,SqL.of h8,rw8,by simp,λz hz=>?_,λqa am fam hm all=>?_⟩
  ·simp only[j3,j9,or_false]at hz;rcases hz with rfl|rfl
   ·exact PBm.1.s9
   ·rw[<-en0];exact(hA y0 hy0).2.1.s9
  have a2:am<=x:=all x (by simp);have a3:am=m∨am=x:=by simpa using hm
  refine⟨qa,am,rfl,s6.trans (s7.trans s8),fam,all m (by simp),λy hy=>Rat.le_trans a2 (hx2 _ ((iu _).mpr (jL.mpr ⟨y,hy,rfl⟩))),a3.imp id λz=>⟨y0,hy0,by rw[z,<-en0]⟩⟩
 rintro zU hzU σ' H8⟨qa,am,rfl,s58,fam,a1,a2,a3⟩;have dv:∀d∈path,A d.nm/sA 1 path d.nm*sA 1 path d.nm=A d.nm:=λd hd=>kX (by have:=uP d hd;grind)
 have ham:am=r1∨am=r2/aB path∨∃d∈path,am=A d.nm/sA 1 path d.nm:=by
  rcases a3 with z|z
  ·rw[z];exact m3.elim .inl λz=>.inr (.inl z)
  ·exact .inr (.inr z)
 have PBa:PB path am:=by
  rcases ham with rfl|rfl|⟨y,hy,rfl⟩
  ·exact b1
  ·exact b3
  ·exact(hA y hy).2
 have am0:0<am:=by
  rcases ham with rfl|rfl|⟨y,hy,rfl⟩
  ·exact p1
  ·rw[kH];exact cK p2 (gC gp)
  ·rw[kH];exact cK (by have:=(hA y hy).1;have:=(bA y.nm).1;grind) (gC (uP y hy))
 have hmin:∀d∈path,sA am path d.nm<=A d.nm:=λy hy=>by
  have h2:=lC (a2 y hy) (kI (uP y hy));rw[dv y hy]at h2;rw[eM];exact h2
 have gd:r2/aB path*aB path=r2:=kX (by grind)
 have hat:am=r1∨am*aB path=r2∨∃d∈path,sA am path d.nm=A d.nm:=by
  rcases ham with z|z|⟨y,hy,z⟩
  ·exact .inl z
  ·exact .inr (.inl (by rw[z];exact gd))
  ·exact .inr (.inr ⟨y,hy,by rw[eM,z];exact dv y hy⟩)
 have am1:am<=r1:=Rat.le_trans a1 m1
 have am2:am*aB path<=r2:=by
  have:=lC (Rat.le_trans a1 m2) (kI gp)
  rw[gd]at this;exact this
 have s18:=s15.trans s58;have s28:=s25.trans s58;have D8:=D.mono s18;subst hzU;refine⟨_,rfl,t,_,dx,_,_,rfl,s18 _ _ ho,T.cl_Taking,T.na_Taking_rest,fsT_d _ _ _ _ _,_,rfl,_,rfl,d,r,qa,A,sA 1 path,24,6,am,rfl,D8.pl,pr.mono s28,by decide,by decide,fam,PBa.1.mono (by decide),λn=>⟨(bA n).2.mono (by decide),(bU n).mono (by decide),(PBa.2.1 n).mono (by decide)⟩,λr' H9 nr' s9 pl9=>?_⟩;have s19:=s18.trans s9;have ho9:=s19 _ _ ho
 have ef:(λn=>A n-am*sA 1 path n)=mns A path am:=funext λn=>by
  unfold mns;rw[<-eM]
 rw[ef]at pl9
 have pl10:PlanA a H9 r' (mns A path am) 24:=by
  obtain⟨kv5,ks5,h51,h52,h53,_,h55⟩:=pl9;refine⟨kv5,ks5,h51,h52,h53,?_,h55⟩
  have:=ce h53 (ys:=ns.map (·.nm)) λn hn=>?_
  ·rw[jF]at this
   lia
  ·have:=(h55 n).mp hn
   by_cases c:n∈path.map (·.nm)
   ·obtain⟨y,hy,rfl⟩:=jL.mp c;exact jL.mpr ⟨y,psub y hy,rfl⟩
   ·refine sub n λz=>this ?_;unfold mns;rw[g8 c,z];decide+kernel
 have D10:=(D.mono s19).setd ho9 ((D.sm.trans s18).free nr') pl10;have kp:Mv [ls,lo,li] H9 (upd H9 t (.ins a.Taking dx (fsT p r' ls lo li))):=.put ho9 iX;have fam10:=kp.fr (D.mono s19).ls3 (fam.mono s9);have fg10:=kp.fr (D.mono s19).ls3 (fg.mono (s35.trans (s58.trans s9)));have hl10:=kp _ _ (s19 _ _ hl) nlx Plain.lst;refine⟨_,rfl,t,a.Taking,dx,_,rfl,ho9,T.cl_Taking,T.na_Taking_rest,by show 5<1000;decide,?_⟩;rw[fsT_put];generalize upd H9 t (.ins a.Taking dx (fsT p r' ls lo li))=H10 at D10 kp fam10 fg10 hl10⊢;obtain⟨dx1,lr1,q1,he1,_,_,fq1⟩:=D10.eS hi hx;refine⟨_,rfl,e,_,dx1,_,_,rfl,he1,T.cl_End,T.na_End_rest,fsE_q _ _ _,q1,r1,rfl,fq1,_,rfl,q1,qa,_,_,rfl,fq1,fam10,b1.1.s9,PBa.1.s9,True.intro,λqn H11 nqn s11 fn=>?_⟩;have D11:=D10.mono s11;have D12:=D11.setS hi hx (s11 _ _ he1) fn;have kp2:Mv [ls,lo,li] H11 (upd H11 e (.ins a.End dx1 (fsE k1.1 lr1 qn))):=.put (s11 _ _ he1) eU;have fam12:=kp2.fr D11.ls3 (fam10.mono s11);have fg12:=kp2.fr D11.ls3 (fg10.mono s11);have hl12:=kp2 _ _ (s11 _ _ hl10) nlx Plain.lst;refine⟨_,rfl,e,a.End,dx1,_,rfl,s11 _ _ he1,T.cl_End,T.na_End_rest,by show 3<1000;decide,?_⟩;rw[fsE_put];generalize upd H11 e (.ins a.End dx1 (fsE k1.1 lr1 qn))=H12 at D12 kp2 fam12 fg12 hl12⊢;obtain⟨dx2,lr2,q2,he2,_,_,fq2⟩:=D12.eK hj hy;refine⟨_,rfl,f,_,dx2,_,_,rfl,he2,T.cl_End,T.na_End_rest,fsE_q _ _ _,q2,r2,rfl,fq2,_,rfl,qa,am,rfl,fam12,_,rfl,qa,g,_,_,rfl,fam12,fg12,PBa.1.s9,S.g.s9,True.intro,λqt H13 nqt s13' ft=>?_⟩;refine⟨q2,qt,_,_,rfl,fq2.mono s13',ft,b2.s9,PBa.2.2.s9,True.intro,λqz H14 nqz s14 fz=>?_⟩;have s24:=s13'.trans s14;have D14:=D12.mono s24;have D15:=D14.setK hj hy (s24 _ _ he2) fz;have kp3:Mv [ls,lo,li] H14 (upd H14 f (.ins a.End dx2 (fsE k2.1 lr2 qz))):=.put (s24 _ _ he2) eU;have fam15:=kp3.fr D14.ls3 (fam12.mono s24);have hl15:=kp3 _ _ (s24 _ _ hl12) nlx Plain.lst;refine⟨_,rfl,f,a.End,dx2,_,rfl,s24 _ _ he2,T.cl_End,T.na_End_rest,by show 3<1000;decide,?_⟩;rw[fsE_put];generalize upd H14 f (.ins a.End dx2 (fsE k2.1 lr2 qz))=H15 at D15 kp3 fam15 hl15⊢;obtain⟨dx15,ho15⟩:=D15.ob;obtain⟨ts,hs15,rs15⟩:=id D15.st;refine⟨_,rfl,t,_,dx15,_,_,rfl,ho15,T.cl_Taking,T.na_Taking_strands,fsT_s _ _ _ _ _,?_⟩;refine⟨.inl ⟨rfl,_,SqL.of hs15⟩,?_⟩;obtain⟨dxE,lrE,qE,heE,hlE,_,_⟩:=D15.eS (s:=k1) (r:=r1-am) hi (List.getElem?_set_self (jG.mp hx).1);obtain⟨dxF,lrF,qF,heF,hlF,_,_⟩:=D15.eK (s:=k2) (r:=r2-am*aB path) hj (List.getElem?_set_self (jG.mp hy).1);refine⟨_,rfl,e,_,dxE,_,_,rfl,heE,T.cl_End,T.na_End_ring,fsE_r _ _ _,lrE,_,rfl,.inl (SqL.of hlE),λl2 nl2=>?_⟩;obtain⟨H16,zq,s16',h16⟩:=uG (o:=.lst (nmV k1.2)) nl2;rw[zq];refine⟨_,rfl,_,rfl,f,_,dxF,_,_,rfl,s16' _ _ heF,T.cl_End,T.na_End_ring,fsE_r _ _ _,lrF,_,rfl,.inl (SqL.of (s16' _ _ hlF)),λl3 nl3=>?_⟩;obtain⟨H17,zq,s17,h17⟩:=uG (o:=.lst (nmV k2.2)) nl3;rw[zq];refine⟨_,rfl,(show 4<=PySem.sizeLine by decide),λu nu=>?_⟩;obtain⟨H18,zq,su,hu⟩:=uG (o:=.tup [.ref l2,.ref l,.ref l3,.ref qa]) nu;rw[zq];have s58':=s16'.trans (s17.trans su)
 have n2:¬l2∈[ls,lo,li]:=λz=>by
  obtain⟨zs,e⟩:=D15.ls3 _ z;rw[nl2]at e
  cases e
 have n3:¬l3∈[ls,lo,li]:=λz=>by
  obtain⟨zs,e⟩:=(D15.mono s16').ls3 _ z;rw[nl3]at e
  cases e
 have lts:ts.length<=100:=by rw[rs15.1];exact lss
 have hs18:=s58' _ _ hs15;have d12:=ar hl15 nl2;have d13:=ar (s16' _ _ hl15) nl3;have d23:=ar h16 nl3
 have D19:=(D15.mono s58').app hs18 (s:=⟨k1.2,path,k2.2,am,[l2,l,l3]⟩) ⟨u,l2,l,l3,qa,rfl,hu,s17.trans su _ _ h16,s58' _ _ hl15,su _ _ h17,n2,nlx,n3,fam15.mono s58',rfl⟩ (by simp[d12.symm,d13,d23]) (λb hb=>by
  simp only[j3,j9,or_false]at hb;rcases hb with rfl|rfl|rfl
  ·exact⟨D15.sm.free nl2,D15.ads nl2⟩
  ·exact⟨nl0,nls⟩
  ·exact⟨(D15.mono s16').sm.free nl3,(D15.mono s16').ads nl3⟩)
 exact⟨ls,_,_,rfl,rfl,hs18,ay (by lia),k _ r' am _ D19 am0 am1 am2 hmin hat ham⟩
end
end G
namespace G
open PySem L2
section
structure RoadW(A:Str->Rat)(ns:List WD)(p:Str)(l:List WD)(q:Str):Prop where
 sub:∀x∈l,x∈ns/\A x.nm≠0
 path:PthW p l q
theorem RoadW.nil:RoadW A ns p [] p:=⟨λx h=>absurd h j9,rfl⟩
theorem RoadW.snoc(h:RoadW A ns p l q)(hx:x∈ns)(h0:A x.nm≠0)(e:x.st=q):RoadW A ns p (l++[x]) x.go:=⟨λy hy=>by
 rcases jP.mp hy with z|z
 ·exact h.sub y z
 ·rw[jN.mp z];exact⟨hx,h0⟩,h.path.snoc e⟩
theorem RoadW.on(h:RoadW A ns p l q)(nn:∀n,0<=A n)(ne:∀d∈ns,d.st≠d.go)(g1:∀d∈ns,0<aD d.kd d.x)(h1:l=[]->aZ A ns q<0)(h2:aZ A ns q<=0):∃d∈ns,d.st=q/\A d.nm≠0:=by
 refine goes_on nn ne g1 ?_
 cases e:l.getLast? with
 |none=>
  rw[List.getLast?_eq_none_iff]at e;exact .inl (h1 e)
 |some x=>
  have hx:=h.sub x (List.mem_of_getLast? e);exact .inr ⟨h2,x,hx.1,h.path.last x e,hx.2⟩
theorem RoadW.places(h:RoadW A ns p l q)(ac:Acyc ws)(sub:∀d∈ns,A d.nm≠0->d∈ws):(p::l.map (·.go)).Nodup:=by
 obtain⟨rk,hr⟩:=ac;exact(h.path.down (rk:=rk) λx hx=>hr x (sub x (h.sub x hx).1 (h.sub x hx).2)).2
theorem starts_of:∀{p q:Str},PthW p l q->∀x∈l,x.st∈p::l.map (·.go):=by
 induction l with
 |nil=>exactλ_ x hx=>absurd hx j9
 |cons y r ih=>
  intro p q h x hx;rcases j3.mp hx with rfl|z
  ·rw[h.1];exact j4
  ·exact jW _ (ih h.2 x z)
theorem RoadW.starts{ws:List WD}:∀{l:List WD}{p q:Str},PthW p l q->(p::l.map (·.go)).Nodup->(l.map (·.st)).Nodup
 |[],_,_,_,_=>lJ
 |x::r,p,q,h,nd=>by
  obtain⟨n1,n2⟩:=kM.mp nd;refine kM.mpr ⟨λz=>n1 ?_,RoadW.starts (ws:=ws) h.2 n2⟩;obtain⟨y,hy,e⟩:=jL.mp z;have e:y.st=p:=e.trans h.1;rw[<-e];exact starts_of h.2 y hy
end
end G
namespace G
open PySem L2
section
theorem nm_inj{ws:List WD}(nd:(ws.map (·.nm)).Nodup)(hx:x∈ws)(hy:y∈ws)(e:x.nm=y.nm):x=y:=by
 obtain⟨i,hi⟩:=kh.mp hx;obtain⟨j,hj⟩:=kh.mp hy;have g1:(ws.map (·.nm))[i]?=some y.nm:=by rw[jK,hi,kU,e]
 have g2:(ws.map (·.nm))[j]?=some y.nm:=by rw[jK,hj];rfl
 have ij:=(kR (by rw[jF];exact(jG.mp hi).1) nd).mp (g1.trans g2.symm);subst ij;rw[hi]at hj;exact kg hj
theorem wsOf_in(hin:∀n∈ks,n∈ns.map (·.nm))(h:x∈cZ ns ks):x∈ns/\x.nm∈ks:=by
 obtain⟨n,hn,rfl⟩:=jL.mp h;obtain⟨h1,h2⟩:=byN_in (hin n hn);exact⟨h1,by rw[h2];exact hn⟩
theorem in_wsOf(nd:(ns.map (·.nm)).Nodup)(h:x∈ns)(hk:x.nm∈ks):x∈cZ ns ks:=by
 obtain⟨h1,h2⟩:=byN_in (ds:=ns) (jL.mpr ⟨x,h,rfl⟩);exact jL.mpr ⟨x.nm,hk,nm_inj nd h1 h h2⟩
theorem RoadW.goal{ps:List (Str×Rat)}(h:RoadW A ns p l q)(io:∀d∈ns,d.st∈ps.map (·.1)/\d.go∈ps.map (·.1))(hp:p∈ps.map (·.1)):q∈ps.map (·.1):=by
 cases e:l.getLast? with
 |none=>
  rw[List.getLast?_eq_none_iff]at e;subst e
  have:p=q:=h.path
  rw[<-this];exact hp
 |some x=>
  rw[<-h.path.last x e];exact(io x (h.sub x (List.mem_of_getLast? e)).1).2
inductive IspRoad(a:Ad)(vs:List V)(H:Hp)(Q:VK):Prop
 |mk(H0:Hp)(t p d ls lo li e:Addr)(es fs:List Addr)(A:Str->Rat)(ss:List SD)(sr sk:List EN)(ps:List (Str×Rat))(ns ws:List WD)(i E:Nat)(k1:Str×List WD)(r1:Rat)(h1:vs=[.ref t,.ref e])(h2:TkAt a H0 H t p d ls lo li es fs A ss sr sk)(h3:NetAt a H0 p ps ns)(h4:(ns.map (·.nm)).Nodup)(h5:(∀d∈ns,GnE E d/\SmR d.x/\Bd 40 (aD d.kd d.x)))(h6:ns.length<=24)(h7:(∀d∈ns,d.st≠d.go))(h8:(∀d∈ns,d.st∈ps.map (·.1)/\d.go∈ps.map (·.1)))(h9:ps.length<=6)(h10:(∀n,0<=A n/\Bd 8400 (A n)))(h11:(∀n,A n≠0->n∈ns.map (·.nm)))(h12:ss.length<=100)(h13:Acyc ws)(h14:(∀d∈ns,A d.nm≠0->d∈ws))(h15:k1.1∈ps.map (·.1))(h16:es[i]?=some e)(h17:sr[i]?=some (k1,r1))(h18:0<r1)(h19:(∀x∈sr,0<=x.2))(h20:(∀x∈sk,0<=x.2/\Bd 8400 x.2))(h21:(∀path q,RoadW A ns k1.1 path q->(path.map (·.nm)).Nodup->path.length<ps.length->PB path r1/\(∀d∈path,PB path (A d.nm/sA 1 path d.nm))/\∀x∈sk,PB path (x.2/aB path)))(h22:(∀s∈ps.map (·.1),aZ A ns s=dF sk s-dF sr s))(h23:∀H' d' x path j k2 r2 ad,TkAt a H0 H' t p d' ls lo li es fs (mns A path x) (ss++[⟨k1.2,path,k2.2,x,ad⟩]) (sr.set i (k1,r1-x)) (sk.set j (k2,r2-x*aB path))->sk[j]?=some (k2,r2)->RoadW A ns k1.1 path k2.1->0<x->x<=r1->x*aB path<=r2->(∀d∈path,sA x path d.nm<=A d.nm)->(x=r1∨x*aB path=r2∨∃d∈path,sA x path d.nm=A d.nm)->(x=r1∨x=r2/aB path∨∃d∈path,x=A d.nm/sA 1 path d.nm)->Q .non H'):IspRoad a vs H Q
noncomputable def spRoad(a:Ad):Sp:=λvs H Q _=>IspRoad a vs H Q
theorem iA(T:TX K mg a):MtB P w K mg base CX0 a.Taking "take_road" 11 ["self","source"] (spRoad a):=by
 refine T.m_Taking_take_road.okA sc_Taking_take_road λf cdv A outer s H vs Q E hr h=>?_;obtain⟨H0,t,p,d,ls,lo,li,e,es,fs,A,ss,sr,sk,ps,ns,ws,i,E',k1,r1,rfl,D,hn,ndn,gn,ln,ne,io,lp,bA,sub,lss,ac,acs,hs1,hi,hx,p1,bs,bk,sz,bal,k⟩:=h
 refine⟨_,(aE (aj (i:=2) sc_Taking_take_road.nd (az (hJ T) hr aq (aa (pe_thaw (eP (xs:=["name"]) (rest:=["self"]) rfl (dO (aH (pv 0) rfl))
  (λpins fp C' s' H'=>(aw (i:=0) (show(["name","self"]:List Str).Nodup by decide+kernel))) (λpins fp C' s' H'=>cA)
  (λpins fp C' s' H'=>(pe_mtDK (CX:=CX0) (P:=P) (w:=w) (K:=K) (mg:=mg) (base:=base) rfl rfl rfl rfl rfl (pe_fldK (K:=K) rfl (pv 1) rfl) hr aq (aa (pv 0) ae)))
  (Clos.many (ys:=["self"]) rfl ⟨rfl,True.intro⟩ rfl (by decide+kernel)) (Reads.many (ys:=["self"]) (js:=[0]) ⟨⟨rfl,rfl,rfl⟩,True.intro⟩))) ae)))
  (af (aj (i:=3) sc_Taking_take_road.nd (aR ae))
  (af (aj (i:=4) sc_Taking_take_road.nd (aH (pv 1) rfl))
  (aE (gc jR (au op_isN (cJ (CX:=CX0) (pv 0) hr aq (aa (pv 4) ae)) pe_non) (af (aT (gi ki kC kD bJ (pv 3) (aa (aH (aV (aJ hr) (pv 2) (pv 4) (λ_ _=>rfl)) rfl) ae)))
  (ah (aj (i:=4) sc_Taking_take_road.nd (aH (aV (aJ hr) (pv 2) (pv 4) (λ_ _=>rfl)) rfl)))))
  (ah (aT (cJ (CX:=CX0) (pv 0) hr aq (aa (pv 1) (aa (pv 3) (aa (cJ (CX:=CX0) (pv 0) hr aq (aa (pv 4) ae)) ae)))))))))),?_⟩
 walk_at"q"
 generalize hk9:iy _ _=k9
 revert k9
 refine fP λk9 hk9=>?_;obtain⟨dx,ho⟩:=D.ob;obtain⟨kvs,ks,hd,tb,ndk,lks,ik⟩:=id D.pl;have hin:∀n∈ks,n∈ns.map (·.nm):=λn hn=>sub n ((ik n).mp hn);have off:NetOff a H p d ps ns:=⟨H0,hn,D.sm,D.nd⟩;subst hk9;refine bM (λσ' H'=>∃on kv,σ'=[some (.ref t),some (.ref e),some (.ref on),none,none]/\Same H H'/\H' on=some (.dK kv)/\Tab (WayIs a) H' kv (a9 ((cZ ns ks).map (·.st))) (fOn (cZ ns ks))) ?_ ?_
 ·refine⟨d,.dK kvs,hd,(by intro o z e;cases e),_,rfl,t,_,dx,_,_,rfl,ho,T.cl_Taking,T.na_Taking_rest,fsT_d _ _ _ _ _,d,kvs,rfl,hd,λo l nl=>?_⟩;have ndl:d≠l:=λz=>by rw[z,ag]at nl;cases nl
  have nl':H l=none:=by rw[ai ndl.symm]at nl;exact nl
  have ntd:t≠d:=aG ho hd (by intro z;cases z)
  refine compG_dict (a:=d) (o:=o) (kvs:=kvs) (λi H2=>i<=ks.length/\H2 d=some (.frz o (.dK kvs))/\(∀b ob,H b=some ob->b≠d->H2 b=some ob)/\∃ts,H2 l=some (.lst ts)/\RowAt (WayIs a) H2 ts (cZ ns (ks.take i)))
   ⟨jU _,by rw[ai ndl,ag],(λb ob e ne=>by rw[ai (ar e nl'),ai ne];exact e),[],ag,RowAt.nil⟩ ((by rintro i H2⟨_,h,_⟩;exact h)) ?_ ?_
  ·rintro i kv H2 hkv⟨_,hf,k2,ts,hl2,hv⟩;obtain⟨n,en,e1,ev,_⟩:=tb.at_ ndk hkv;have hi:i<ks.length:=(jG.mp en).1;have ekv:kV kv.1=.str n:=by rw[e1];rfl
   rw[ekv];have hn2:=(off.but k2).at_;obtain⟨dxn,dw,dy,hp,_,_⟩:=id hn2;have noc:=hX dw dy (m:="way") (by decide+kernel) (by decide+kernel);obtain⟨bi1,bi2⟩:=byN_in (hin n (jI en));refine g1 ⟨⟨[_],rfl,rfl⟩,yes ?_⟩;refine⟨_,rfl,t,_,dx,_,_,rfl,k2 _ _ ho ntd,T.cl_Taking,T.na_Taking_on,fsT_on _ _ _ _ _,p,a.Net,dxn,_,1,["self","name"],d9 a,rfl,hp,noc,T.cl_Net,by decide,c9 T,_,rfl,p,ps,ns,byN ns n,by rw[bi2];rfl,hn2,ndn,bi1,λv hx=>?_⟩;have lts:ts.length=i:=by rw[hv.1];unfold cZ;rw[jF,jT];lia
   refine⟨_,hl2,ay (by lia),dD (by rw[tb.len];exact hi) ⟨hi,by rw[ai ndl];exact hf,(λb ob e ne=>by rw[ai (ar e nl')];exact k2 _ _ e ne),_,ag,?_⟩⟩;unfold cZ;rw[jS,en,j0,jM];exact RowAt.snoc (hv.mono λv x z=>z.lst hl2) (hx.lst hl2)
  ·rintro H2⟨_,hf,k2,ts,hl2,hv⟩;rw[tb.len,jQ]at hv
   have sa:Same H (upd H2 d (.dK kvs)):=λb ob e=>by
    by_cases hb:b=d
    ·subst hb;rw[ag,<-hd,e]
    ·rw[ai hb];exact k2 _ _ e hb
   have lws:(cZ ns ks).length=ks.length:=by unfold cZ;rw[jF]
   refine⟨o,hf,l,ts,cZ ns ks,rfl,SqL.of (show upd H2 d (.dK kvs) l=some (.lst ts) by rw[ai ndl.symm];exact hl2),hv.mono λv x z=>z.keep λb C dx' fs' _ e=>?_,by lia,λon Hb kv non sb hon tbn=>⟨on,kv,rfl,sa.trans sb,hon,tbn⟩⟩;rw[ai λz=>by rw[z,hf]at e;cases e];exact e
 rintro zU hzU σ' H1⟨on,kv,rfl,s1',hon,tbn⟩;have D1:=D.mono s1';obtain⟨rk,hrk⟩:=id ac;have nn:∀n,0<=A n:=λn=>(bA n).1;have gg:∀d∈ns,0<aD d.kd d.x:=λd hd=>(gn d hd).1.ps;subst hzU;generalize hk9:iy _ _=k9
 revert k9
 refine fP λk9 hk9=>?_;refine⟨by decide,λl nl=>?_⟩;obtain⟨H2,zq,s2',hl2⟩:=uG (o:=.lst []) nl;rw[zq];have s12:=s1'.trans s2';have D2:=D.mono s12;obtain⟨dxe,lre,qe,hee,_,_,_⟩:=D2.eS hi hx;refine⟨_,rfl,e,_,dxe,_,_,rfl,hee,T.cl_End,T.na_End_place,fsE_s _ _ _,?_⟩
 have nlx:¬l∈[ls,lo,li]:=λz=>by
  obtain⟨zs,e⟩:=D1.ls3 _ z;rw[nl]at e
  cases e
 subst hk9;refine bM (λσ' H'=>∃(path:List WD)(q:Str)(f:Addr)(r:Rat)(j:Nat),σ'=[some (.ref t),some (.ref e),some (.ref on),some (.ref l),some (.str q)]/\Same H1 H'/\H' l=some (.lst (nmV path))/\RoadW A ns k1.1 path q/\fs[j]?=some f/\(∃rg,sk[j]?=some ((q,rg),r))/\0<r) ?_ ?_
 ·refine⟨λm σ H'=>∃path q,m=rk q/\σ=[some (.ref t),some (.ref e),some (.ref on),some (.ref l),some (.str q)]/\Same H1 H'/\H' l=some (.lst (nmV path))/\RoadW A ns k1.1 path q,⟨_,[],k1.1,rfl,rfl,s2',hl2,RoadW.nil⟩,?_⟩;rintro m σ H3⟨path,q,rfl,rfl,s3,hl3,rd⟩;have D3:=D1.mono s3;obtain⟨dx3,ho3⟩:=D3.ob;refine⟨_,rfl,t,a.Taking,dx3,_,2,["self","place"],spSink a,rfl,ho3,i6 _ _ _ _ _ (by decide+kernel),T.cl_Taking,by decide,fL T,_,rfl,H0,t,p,d,ls,lo,li,es,fs,A,ss,sr,sk,q,rfl,D3,λj f rg r hj hy hp=>?_,λno=>?_⟩
  ·exact⟨rfl,_,rfl,cL (jY λz=>by cases z) ⟨path,q,f,r,j,rfl,s3,hl3,rd,hj,⟨rg,hy⟩,hp⟩⟩
  refine⟨rfl,_,rfl,iteC (j6 rfl) ?_⟩;have qin:=rd.goal io hs1
  have sk0:dF sk q=0:=(gF (s:=q) λx hx=>(bk x hx).1).2.2 λx hx e=>by
   have:=no x hx e
   have:=(bk _ hx).1
   grind
  have srq:=gF (s:=q) bs
  have sum2:aZ A ns q<=0:=by
   rw[bal q qin,sk0]
   have:=srq.1
   grind
  have sum1:path=[]->aZ A ns q<0:=λz=>by
   subst z;have z:k1.1=q:=rd.path;rw[bal q qin,sk0]
   have:=srq.2.1 (k1,r1) (jI hx) z
   grind
  obtain⟨d0,hd0,es0,ea0⟩:=rd.on nn ne gg sum1 sum2;have qst:q∈(cZ ns ks).map (·.st):=jL.mpr ⟨d0,in_wsOf ndn hd0 ((ik _).mpr ea0),es0⟩;have kin:=fOn_at qst;obtain⟨v,ev,wi⟩:=(tbn.mono λv x z=>z.mono s3).vals q (mem_keysOf.mpr qst);generalize fOn (cZ ns ks) q=x at kin wi;obtain⟨xm,xs⟩:=onw_some kin;obtain⟨xn,xk⟩:=wsOf_in hin xm;have xa:A x.nm≠0:=(ik _).mp xk;have rd2:=rd.snoc xn xa xs
  have lt:rk x.go<rk q:=by
   rw[<-xs];exact hrk x (acs x xn xa)
  have lpa:path.length<=100:=by
   have:=ce (rd.places ac acs) (ys:=ps.map (·.1)) λy hy=>by
    rcases j3.mp hy with rfl|z
    ·exact hs1
    ·obtain⟨w',hw',rfl⟩:=jL.mp z;exact(io w' (rd.sub w' hw').1).2
   rw[kz,jF,jF]at this
   lia
  obtain⟨p1,vh,vc,qx,rfl,W,hkd⟩:=id wi;obtain⟨dx1,fs1,ho1,h51,_⟩:=id W.ob;have c1:=bV T x.kd;have hon3:=s3 _ _ hon;refine⟨λσ' H'=>σ'=[some (.ref t),some (.ref e),some (.ref on),some (.ref l),some (.str x.go)]/\Same H1 H'/\H' l=some (.lst (nmV (path++[x]))),(by rintro σ' H'⟨e1,e2,e3⟩;exact⟨rk x.go,lt,path++[x],x.go,rfl,e1,e2,e3,rd2⟩),?_⟩;refine⟨_,rfl,.inl ⟨rfl,_,SqL.of hl3⟩,?_⟩;refine⟨_,rfl,_,rfl,on,.ref p1,rfl,.inl ⟨kv,Sum.inr q,.inl hon3,rfl,ev.symm⟩,p1,_,dx1,fs1,_,rfl,ho1,c1.cl,c1.n1,h51.nm,?_⟩;refine⟨l,_,_,rfl,rfl,hl3,ay (by unfold nmV;rw[jF];lia),?_⟩;have nol:∀{b:Addr}{ob:HO},H3 b=some ob->(∀zs,ob≠.lst zs)->upd H3 l (.lst (nmV path++[.str x.nm])) b=some ob:=λ{b}{ob}z nz=>by rw[ai (aG z hl3 (nz _))];exact z
  refine⟨_,rfl,_,rfl,on,.ref p1,rfl,.inl ⟨kv,Sum.inr q,.inl (nol hon3 λzs z=>by cases z),rfl,ev.symm⟩,p1,_,dx1,fs1,_,rfl,nol ho1 (λzs z=>by cases z),c1.cl,c1.n3,h51.go,rfl,aF nl s3,?_⟩;rw[ag];unfold nmV;rw[jM];rfl
 rintro zU hzU σ' H3⟨path,q,f,r,j,rfl,s3,hl3,rd,hj,⟨rg,hy⟩,hp⟩;have D3:=D1.mono s3;obtain⟨dx3,ho3⟩:=D3.ob;subst hzU;refine⟨_,rfl,t,a.Taking,dx3,_,10,["self","source","path","sink"],spTakeP a,rfl,ho3,i6 _ _ _ _ _ (by decide+kernel),T.cl_Taking,by decide,iC T,_,rfl,_,rfl,?_⟩;refine⟨_,rfl,t,a.Taking,dx3,_,2,["self","place"],spSink a,rfl,ho3,i6 _ _ _ _ _ (by decide+kernel),T.cl_Taking,by decide,fL T,_,rfl,H0,t,p,d,ls,lo,li,es,fs,A,ss,sr,sk,q,rfl,D3,λj f rg r hj hy hp=>?_,λno=>absurd hp (no _ (jI hy) rfl)⟩;have ndp:=rd.places ac acs
 have lpa:path.length<ps.length:=by
  have:=ce ndp (ys:=ps.map (·.1)) λy hy=>by
   rcases j3.mp hy with rfl|z
   ·exact hs1
   ·obtain⟨w',hw',rfl⟩:=jL.mp z;exact(io w' (rd.sub w' hw').1).2
  rw[kz,jF,jF]at this
  lia
 have psub:∀x∈path,x∈ns:=λx hx=>(rd.sub x hx).1;have ndr:=bo ndn psub (RoadW.starts (ws:=ns) rd.path ndp);obtain⟨z1,z2,z3⟩:=sz path q rd ndr lpa;exact⟨H0,t,p,d,ls,lo,li,l,e,f,es,fs,A,ss,sr,sk,ps,ns,path,i,j,E',k1,(q,rg),r1,r,rfl,D3,hn,ndn,gn,ln,hl3,nlx,D1.sm.free nl,D1.ads nl,psub,ndr,rd.path.chain,by lia,λx hx=>⟨(rd.sub x hx).2,z2 x hx⟩,bA,sub,lss,hi,hx,hj,hy,p1,hp,z1,(bk _ (jI hy)).2,z3 _ (jI hy),λH' d' x ad D' x0 x1 x2 x3 x4 x5=>k H' d' x path j (q,rg) r ad D' hy rd x0 x1 x2 x3 x4 x5⟩
end
end G
namespace G
open PySem L2
section
theorem ffO:ff x y≠(("on":Str),v)::r:=λz=>absurd (kA (λl=>(l.map Prod.fst)[0]?) z) (by show¬some ("top":Str)=some ("on":Str);decide+kernel)
theorem PlanA.upT(h:PlanA a H d A m)(ht:H t=some (.ins C dx ((("on":Str),v)::r))):PlanA a (upd H t o) d A m:=by
 obtain⟨kvs,ks,h1,h2,h3⟩:=h;refine⟨kvs,ks,by rw[ai (aG h1 ht (by intro z;cases z))];exact h1,h2.mono λv x⟨q,e,dq,f⟩=>⟨q,e,dq,?_⟩,h3⟩;rw[ai (aG f ht λz=>by injection z with _ _ z;exact ffO z)];exact f
noncomputable def fi(F:Str->Rat)(l:List Str):List EN:=(l.filter λs=>decide (F s<0)).map λs=>((s,[]),-F s)
noncomputable def fj(F:Str->Rat)(l:List Str):List EN:=(l.filter λs=>decide (0<F s)).map λs=>((s,[]),F s)
theorem srcs_snoc(F:Str->Rat)(l:List Str)(s:Str):fi F (l++[s])=fi F l++(if F s<0 then[((s,[]),-F s)]else[]):=by
 unfold fi;rw[l7,jM];by_cases h:F s<0
 ·rw[if_pos h,kS (by exact j6 h)];rfl
 ·rw[if_neg h,lj (by simpa using h)];rfl
theorem snks_snoc(F:Str->Rat)(l:List Str)(s:Str):fj F (l++[s])=fj F l++(if 0<F s then[((s,[]),F s)]else[]):=by
 unfold fj;rw[l7,jM];by_cases h:0<F s
 ·rw[if_pos h,kS (by exact j6 h)];rfl
 ·rw[if_neg h,lj (by simpa using h)];rfl
theorem srcs_le(F:Str->Rat)(l:List Str):(fi F l).length<=l.length:=by
 unfold fi;rw[jF];exact lB _ _
theorem snks_le(F:Str->Rat)(l:List Str):(fj F l).length<=l.length:=by
 unfold fj;rw[jF];exact lB _ _
inductive IspTakI(a:Ad)(vs:List V)(H:Hp)(Q:VK):Prop
 |mk(H0:Hp)(t dx p d:Addr)(ps:List (Str×Rat))(ns:List WD)(kvs:List (Key×V))(ks:List Str)(f:Str->Rat)(h1:vs=[.ref t,.ref p,.ref d])(h2:H t=some (.ins a.Taking dx []))(h3:Same H0 H)(h4:H0 t=none)(h5:NetOff a H0 p d ps ns)(h6:(ns.map (·.nm)).Nodup)(h7:H0 d=some (.dK kvs))(h8:Tab (FrIs a) H0 kvs ks f)(h9:ks.Nodup)(h10:ks.length<=24)(h11:(∀n∈ks,n∈ns.map (·.nm)))(h12:SumOk (aS ks f) ps ns)(h13:ps.length<=12)(h14:∀H' d' ls lo li es fs,TkAt a H0 H' t p d' ls lo li es fs (aS ks f) [] (fi (aZ (aS ks f) ns) (ps.map (·.1))) (fj (aZ (aS ks f) ns) (ps.map (·.1)))->Q .non H'):IspTakI a vs H Q
noncomputable def spTakI(a:Ad):Sp:=λvs H Q _=>IspTakI a vs H Q
theorem mk_Taking(T:TX K mg a):MkB P w K mg base CX0 a.Taking 11 ["self","net","plan"] [] (spTakI a):=by
 refine T.i_Taking.okA sc_Taking_init (λf cdv A outer s H vs Q E hr h=>?_) (λvs H Q E h=>?_) _ (by simp)
 rotate_left
 ·obtain⟨_,_,_,_,_,_,_,_,_,_,rfl,_⟩:=h;rfl
 ·obtain⟨H0,t,dx,p,d,ps,ns,kvs,ks,f,rfl,ht,sm,nt,off,ndn,hd,tb,ndk,lks,hin,ok,lps,k⟩:=h
  refine⟨_,(af (bG (pv 0) (pv 1) rfl)
   (af (bG (pv 0) (az (cg T) hr aq (aa (pv 2) ae)) rfl)
   (af (bG (pv 0) (aR ae) rfl)
   (af (bG (pv 0) (aR ae) rfl)
   (af (bG (pv 0) (aR ae) rfl)
   (ah (aQ jR rfl (eO (az (ok_sums T) hr aq (aa (pv 1) (aa (pv 2) ae)))) (gB (n:=2) rfl (bu (aw (i:=3) sc_Taking_init.nd) (bu (aw (i:=4) sc_Taking_init.nd) dP))) (ah (aT (cJ (CX:=CX0) (pv 0) hr aq (aa (pv 3) (aa (aR ae) (aa (pv 4) ae))))))))))))),?_⟩
  walk_at"q"
  refine⟨_,rfl,_,rfl,t,a.Taking,dx,[],rfl,ht,T.cl_Taking,T.na_Taking_on,by decide,?_⟩;have sm1:Same H0 (upd H t (.ins a.Taking dx (bh "on" (.ref p) []))):=aF nt sm;have ht1:upd H t (.ins a.Taking dx (bh "on" (.ref p) [])) t=some (.ins a.Taking dx [(("on":Str),V.ref p)]):=ag;generalize upd H t (.ins a.Taking dx (bh "on" (.ref p) []))=H1 at sm1 ht1⊢;refine⟨_,rfl,d,kvs,ks,f,rfl,sm1 _ _ hd,tb.mono (λv x z=>z.mono sm1),ndk,by lia,λd' H2 kvd nd' s2 hd' td'=>?_⟩
  have pl2:PlanA a H2 d' (aS ks f) 24:=by
   refine⟨kvd,_,hd',td'.congr' λn hn=>?_,jb ndk,jV (jc _ _) lks,λn=>?_⟩
   ·unfold aS;rw[if_pos (mem_some0.mp hn).1]
   ·rw[mem_some0];unfold aS;by_cases h:n∈ks
    ·rw[if_pos h];exact⟨λz=>z.2,λz=>⟨h,z⟩⟩
    ·rw[if_neg h];exact⟨λz=>absurd z.1 h,λz=>absurd rfl z⟩
  have sm2:=sm1.trans s2;have ht2:=s2 _ _ ht1;have nd0:H0 d'=none:=sm1.free nd';refine⟨_,rfl,t,a.Taking,dx,_,rfl,ht2,T.cl_Taking,T.na_Taking_rest,by show 1<1000;decide,?_⟩
  have e2:bh "rest" (.ref d') [(("on":Str),V.ref p)]=[(("on":Str),V.ref p),(("rest":Str),V.ref d')]:=by
   rw[bX (by decide+kernel)];rfl
  rw[e2];have pl3:=pl2.upT (o:=.ins a.Taking dx [(("on":Str),V.ref p),(("rest":Str),V.ref d')]) ht2;have sm3:Same H0 (upd H2 t (.ins a.Taking dx [(("on":Str),V.ref p),(("rest":Str),V.ref d')])):=aF nt sm2;have ht3:upd H2 t (.ins a.Taking dx [(("on":Str),V.ref p),(("rest":Str),V.ref d')]) t=some (.ins a.Taking dx [(("on":Str),V.ref p),(("rest":Str),V.ref d')]):=ag;generalize upd H2 t (.ins a.Taking dx [(("on":Str),V.ref p),(("rest":Str),V.ref d')])=H3 at pl3 sm3 ht3⊢;refine⟨by decide,λls nls=>?_⟩;obtain⟨H4,zq,s4,h4⟩:=uG (o:=.lst []) nls;rw[zq];have ht4:=s4 _ _ ht3;refine⟨_,rfl,t,a.Taking,dx,_,rfl,ht4,T.cl_Taking,T.na_Taking_strands,by show 2<1000;decide,?_⟩
  have e3:bh "strands" (.ref ls) [(("on":Str),V.ref p),(("rest":Str),V.ref d')]=[(("on":Str),V.ref p),(("rest":Str),V.ref d'),(("strands":Str),V.ref ls)]:=by
   rw[bX (by decide+kernel),bX (by decide+kernel)];rfl
  rw[e3];have pl5:=(pl3.mono s4).upT (o:=.ins a.Taking dx [(("on":Str),V.ref p),(("rest":Str),V.ref d'),(("strands":Str),V.ref ls)]) ht4;have sm5:Same H0 (upd H4 t (.ins a.Taking dx [(("on":Str),V.ref p),(("rest":Str),V.ref d'),(("strands":Str),V.ref ls)])):=aF nt (sm3.trans s4);have ht5:upd H4 t (.ins a.Taking dx [(("on":Str),V.ref p),(("rest":Str),V.ref d'),(("strands":Str),V.ref ls)]) t=some (.ins a.Taking dx [(("on":Str),V.ref p),(("rest":Str),V.ref d'),(("strands":Str),V.ref ls)]):=ag
  have h5:upd H4 t (.ins a.Taking dx [(("on":Str),V.ref p),(("rest":Str),V.ref d'),(("strands":Str),V.ref ls)]) ls=some (.lst []):=by
   rw[ai (aG h4 ht4 (by intro z;cases z))];exact h4
  generalize upd H4 t (.ins a.Taking dx [(("on":Str),V.ref p),(("rest":Str),V.ref d'),(("strands":Str),V.ref ls)])=H5 at pl5 sm5 ht5 h5⊢;refine⟨by decide,λlo nlo=>?_⟩;obtain⟨H6,zq,s6,h6⟩:=uG (o:=.lst []) nlo;rw[zq];have ht6:=s6 _ _ ht5;refine⟨_,rfl,t,a.Taking,dx,_,rfl,ht6,T.cl_Taking,T.na_Taking_sources,by show 3<1000;decide,?_⟩
  have e4:bh "sources" (.ref lo) [(("on":Str),V.ref p),(("rest":Str),V.ref d'),(("strands":Str),V.ref ls)]=[(("on":Str),V.ref p),(("rest":Str),V.ref d'),(("strands":Str),V.ref ls),(("sources":Str),V.ref lo)]:=by
   rw[bX (by decide+kernel),bX (by decide+kernel),bX (by decide+kernel)];rfl
  rw[e4];have pl7:=(pl5.mono s6).upT (o:=.ins a.Taking dx [(("on":Str),V.ref p),(("rest":Str),V.ref d'),(("strands":Str),V.ref ls),(("sources":Str),V.ref lo)]) ht6;have sm7:Same H0 (upd H6 t (.ins a.Taking dx [(("on":Str),V.ref p),(("rest":Str),V.ref d'),(("strands":Str),V.ref ls),(("sources":Str),V.ref lo)])):=aF nt (sm5.trans s6);have ht7:upd H6 t (.ins a.Taking dx [(("on":Str),V.ref p),(("rest":Str),V.ref d'),(("strands":Str),V.ref ls),(("sources":Str),V.ref lo)]) t=some (.ins a.Taking dx [(("on":Str),V.ref p),(("rest":Str),V.ref d'),(("strands":Str),V.ref ls),(("sources":Str),V.ref lo)]):=ag
  have h7:upd H6 t (.ins a.Taking dx [(("on":Str),V.ref p),(("rest":Str),V.ref d'),(("strands":Str),V.ref ls),(("sources":Str),V.ref lo)]) ls=some (.lst []):=by
   rw[ai (aG (s6 _ _ h5) ht6 (by intro z;cases z))];exact s6 _ _ h5
  have h7o:upd H6 t (.ins a.Taking dx [(("on":Str),V.ref p),(("rest":Str),V.ref d'),(("strands":Str),V.ref ls),(("sources":Str),V.ref lo)]) lo=some (.lst []):=by
   rw[ai (aG h6 ht6 (by intro z;cases z))];exact h6
  generalize upd H6 t (.ins a.Taking dx [(("on":Str),V.ref p),(("rest":Str),V.ref d'),(("strands":Str),V.ref ls),(("sources":Str),V.ref lo)])=H7 at pl7 sm7 ht7 h7 h7o⊢;refine⟨by decide,λli nli=>?_⟩;obtain⟨H8,zq,s8,h8⟩:=uG (o:=.lst []) nli;rw[zq];have ht8:=s8 _ _ ht7;refine⟨_,rfl,t,a.Taking,dx,_,rfl,ht8,T.cl_Taking,T.na_Taking_sinks,by show 4<1000;decide,?_⟩
  have e5:bh "sinks" (.ref li) [(("on":Str),V.ref p),(("rest":Str),V.ref d'),(("strands":Str),V.ref ls),(("sources":Str),V.ref lo)]=fsT p d' ls lo li:=by
   rw[bX (by decide+kernel),bX (by decide+kernel),bX (by decide+kernel),bX (by decide+kernel)];rfl
  rw[e5];have pl9:=(pl7.mono s8).upT (o:=.ins a.Taking dx (fsT p d' ls lo li)) ht8;have sm9:Same H0 (upd H8 t (.ins a.Taking dx (fsT p d' ls lo li))):=aF nt (sm7.trans s8);have ht9:upd H8 t (.ins a.Taking dx (fsT p d' ls lo li)) t=some (.ins a.Taking dx (fsT p d' ls lo li)):=ag
  have nl:∀{b:Addr}{zs:List V},H8 b=some (.lst zs)->upd H8 t (.ins a.Taking dx (fsT p d' ls lo li)) b=some (.lst zs):=λ{b}{zs}z=>by
   rw[ai (aG z ht8 (by intro z;cases z))];exact z
  have h9:=nl (s8 _ _ h7);have h9o:=nl (s8 _ _ h7o);have h9i:=nl h8;clear nl;generalize upd H8 t (.ins a.Taking dx (fsT p d' ls lo li))=H9 at pl9 sm9 ht9 h9 h9o h9i⊢;have nls0:H0 ls=none:=sm3.free nls;have nlo0:H0 lo=none:=sm5.free nlo;have nli0:H0 li=none:=sm7.free nli;have D9:TkAt a H0 H9 t p d' ls lo li [] [] (aS ks f) [] [] []:=⟨sm9,nt,nls0,nd0,λe he=>(by cases he),lJ,⟨dx,ht9⟩,pl9,⟨[],h9,RowAt.nil⟩,h9o,h9i,RowAt.nil,RowAt.nil,(ar h5 nlo).symm,(ar h7 nli).symm,ar h7o nli,nlo0,nli0,lJ,λl hl=>(by cases hl)⟩;clear pl9 ht9 h9 h9o h9i;refine⟨_,rfl,_,rfl,p,d,ps,ns,kvs,ks,f,rfl,off.mono sm9,ndn,sm9 _ _ hd,tb.mono (λv x z=>z.mono sm9),ndk,hin,ok,λr H10 kvr nr s10 hr10 tr=>?_⟩;have D10:=D9.mono s10;generalize hF:aZ (aS ks f) ns=F at tr k
  have bF:∀s,SmR (F s):=λs=>by
   have:=ok.sf ns.length s
   rw[jQ,hF]at this;exact this
  refine⟨r,kvr,rfl,hr10,λo=>?_⟩
  refine dX (a:=r) (o:=o) (kvs:=kvr) (λi σ H2=>i<=ps.length/\∃z3 z4 es fs,σ=[some (.ref t),some (.ref p),some (.ref d),z3,z4]/\H2 r=some (.frz o (.dK kvr))/\Tab (FrIs a) H2 kvr (ps.map (·.1)) F/\TkAt a H0 H2 t p d' ls lo li es fs (aS ks f) [] (fi F ((ps.map (·.1)).take i)) (fj F ((ps.map (·.1)).take i)))
   ⟨jU _,_,_,[],[],rfl,ag,?_,?_⟩ ((by rintro i σ H2 _⟨_,_,_,_,_,_,h,_⟩;exact h)) ?_ ?_
  ·exact tr.mono λv x⟨q,e,dq,g⟩=>⟨q,e,dq,by rw[ai (aG g hr10 (by intro z;cases z))];exact g⟩
  ·exact D9.mono (aF nr s10)
  ·rintro i kv u σ H2 hkv nu⟨_,z3,z4,es,fs,rfl,hf,tb2,D⟩;obtain⟨n,e0,e1,ev,q,eq,fq⟩:=tb2.at_ ok.np hkv
   have hi:i<ps.length:=by
    have:=(jG.mp e0).1
    rw[jF]at this;exact this
   have ekv:kV kv.1=.str n:=by rw[e1];rfl
   rw[ekv,eq];obtain⟨H3,zq,s3,hu⟩:=uG (o:=.tup [.str n,.ref q]) nu;rw[zq];have D3:=D.mono s3;obtain⟨dxt,ho3⟩:=D3.ob;refine⟨u,[.str n,.ref q],rfl,SqT.of hu,rfl,.str n,[.ref q],rfl,⟨.ref q,[],rfl,⟨rfl,?_⟩⟩⟩;refine⟨_,rfl,t,a.Taking,dxt,_,7,["self","place","ring","come"],spAddE a,rfl,ho3,i6 _ _ _ _ _ (by decide+kernel),T.cl_Taking,by decide,fM T,_,rfl,by decide,λlr nlr=>?_⟩;obtain⟨H4,zq,s4,h4⟩:=uG (o:=.lst []) nlr;rw[zq];have s24:=s3.trans s4;have D4:=D3.mono s4
   have nlx:¬lr∈[ls,lo,li]:=λz=>by
    obtain⟨zs,e⟩:=D3.ls3 _ z;rw[nlr]at e
    cases e
   have tk:(ps.map (·.1)).take (i+1)=(ps.map (·.1)).take i++[n]:=by rw[jS,e0];rfl
   have l1:es.length<=100:=by
    have h1:=D.ro.1;have h2:=srcs_le F ((ps.map (·.1)).take i);rw[jF]at h1;rw[jT]at h2
    lia
   have l2:fs.length<=100:=by
    have h1:=D.ri.1;have h2:=snks_le F ((ps.map (·.1)).take i);rw[jF]at h1;rw[jT]at h2
    lia
   have kT:∀{H':Hp}{l:Addr}{zs ys:List V},Same H4 H'->H' l=some (.lst zs)->upd H' l (.lst ys) r=some (.frz o (.dK kvr))/\Tab (FrIs a) (upd H' l (.lst ys)) kvr (ps.map (·.1)) F:=λ{H' l zs ys}s' hl=>by
    have s':=s24.trans s';refine⟨by rw[ai (aG (s' _ _ hf) hl (by intro z;cases z))];exact s' _ _ hf,tb2.mono λv x⟨q,e,dq,g⟩=>⟨q,e,dq,?_⟩⟩;rw[ai (aG (s' _ _ g) hl (by intro z;cases z))];exact s' _ _ g
   refine⟨_,rfl,t,dxt,p,d',ls,lo,li,lr,q,n,F n,_,_,rfl,s4 _ _ ho3,fq.mono s24,bF n,D4.so,D4.si,by rw[jF];exact l1,by rw[jF];exact l2,λc e H' ne=>?_,λc e H' ne=>?_,λc=>?_⟩
   ·obtain⟨k1,k2⟩:=kT (l:=lo) (ys:=es.map .ref++[.ref e]) ne.2.1 (ne.2.1 _ _ D4.so);refine⟨hi,_,_,es++[e],fs,rfl,k1,k2,?_⟩;rw[tk,srcs_snoc,snks_snoc,if_pos c,if_neg (by grind),ly];exact D4.addS (rg:=[]) ne h4 nlx
   ·obtain⟨k1,k2⟩:=kT (l:=li) (ys:=fs.map .ref++[.ref e]) ne.2.1 (ne.2.1 _ _ D4.si);refine⟨hi,_,_,es,fs++[e],rfl,k1,k2,?_⟩;rw[tk,srcs_snoc,snks_snoc,if_pos c,if_neg (by grind),ly];exact D4.addK (rg:=[]) ne h4 nlx
   ·refine⟨hi,_,_,es,fs,rfl,s24 _ _ hf,tb2.mono λv x z=>z.mono s24,?_⟩;rw[tk,srcs_snoc,snks_snoc,if_neg (by rw[c];decide+kernel),if_neg (by rw[c];decide+kernel),ly,ly];exact D4
  ·rintro σ H2⟨_,z3,z4,es,fs,rfl,hf,tb2,D⟩;rw[tr.len,jQ]at D;exact k H2 d' ls lo li es fs D
end
end G
namespace G
open PySem L2
section
noncomputable def df(g:Rat):Rat:=if 1<g then g-1 else 1-g
theorem df_ps(h:g≠1):0<df g:=by
 unfold df
 split<;>grind
noncomputable def enA(l:List WD)(x:Rat)(n:Str):Rat:=if l=[]then 0 else x/df (aB l)*sA 1 l n
theorem enA_sub(l:List WD)(x y:Rat)(n:Str):enA l (x-y) n=enA l x n-enA l y n:=by
 unfold enA
 split
 ·grind
 ·rw[kH,kH,kH];grind
theorem enA_zero(l:List WD)(n:Str):enA l 0 n=0:=by
 unfold enA
 split
 ·rfl
 ·rw[kH];grind
noncomputable def enT(es:List EN)(n:Str):Rat:=es.foldr (λe r=>enA e.1.2 e.2 n+r) 0
theorem cV(e:EN)(es:List EN)(n:Str):enT (e::es) n=enA e.1.2 e.2 n+enT es n:=rfl
theorem enT_snoc(e:EN)(n:Str):∀es:List EN,enT (es++[e]) n=enT es n+enA e.1.2 e.2 n
 |[]=>by rw[List.nil_append,cV];show _+(0:Rat)=(0:Rat)+_;grind
 |d::r=>by rw[List.cons_append,cV,cV,enT_snoc e n r];grind
theorem enT_set:∀{es:List EN}{i:Nat},es[i]?=some (k,r)->enT (es.set i (k,r-x)) n=enT es n-enA k.2 x n
 |[],_,h=>by cases h
 |e::es,0,h=>by
  cases h;rw[List.set_cons_zero,cV,cV];show enA k.2 (r-x) n+enT es n=enA k.2 r n+enT es n-_;rw[enA_sub];grind
 |e::es,i+1,h=>by
  rw[List.set_cons_succ,cV,cV,enT_set (es:=es) (i:=i) (by simpa using h)];grind
theorem enT_none:∀{es:List EN},(∀e∈es,e.2=0)->enT es n=0
 |[],_=>rfl
 |e::es,h=>by
  rw[cV,h e j4,enA_zero,enT_none λy hy=>h y (jW _ hy),Rat.add_zero]
theorem enT_first:∀{es:List EN},(∀e∈es,e.1.2=[])->enT es n=0
 |[],_=>rfl
 |e::es,h=>by
  rw[cV,enT_first λy hy=>h y (jW _ hy)];unfold enA;rw[if_pos (h e j4),Rat.add_zero]
noncomputable def sdA(d:SD)(n:Str):Rat:=(if d.rg≠[]/\aB d.rg=1 then sA d.am d.rg n else enA d.rg d.am n)+sA d.am d.pa n+enA d.tl (d.am*aB d.pa) n
noncomputable def totA(ss:List SD)(n:Str):Rat:=ss.foldl (λr d=>r+sdA d n) 0
theorem totA_snoc(ss:List SD)(d:SD)(n:Str):totA (ss++[d]) n=totA ss n+sdA d n:=by unfold totA;rw[lL];rfl
structure NsOk(E:Nat)(ps:List (Str×Rat))(ns:List WD):Prop where
 np:(ps.map (·.1)).Nodup
 lp:ps.length<=4
 nd:(ns.map (·.nm)).Nodup
 ln:ns.length<=12
 e0:0<E
 eb:E<=2^28
 g1:∀d∈ns,GnE E d/\SmR d.x/\Bd 40 (aD d.kd d.x)
 ne:∀d∈ns,d.st≠d.go
 io:∀d∈ns,d.st∈ps.map (·.1)/\d.go∈ps.map (·.1)
structure RgM(ns:List WD)(m:Bool)(p:Str)(l:List WD):Prop where
 rg:RingW ns l
 pt:PthW p l p
 ln:l.length<=4
 gn:if m=true then 1<aB l else aB l<1
noncomputable def EndO(A0:Str->Rat)(ns:List WD)(m:Bool)(k:Str×List WD):Prop:=k.2=[]/\(if m=true then aZ A0 ns k.1<0 else 0<aZ A0 ns k.1)∨RgM ns m k.1 k.2
structure StOk(A0:Str->Rat)(ps:List (Str×Rat))(ns:List WD)(s:SD):Prop where
 am:0<s.am
 bd:Bd 8400 s.am
 or:s.pa=[]/\s.tl=[]/\RingW ns s.rg/\s.rg.length<=4/\aB s.rg=1∨∃p q,PthW p s.pa q/\(p::s.pa.map (·.go)).Nodup/\(∀x∈s.pa,x∈ns)/\s.pa.length<=3/\EndO A0 ns true (p,s.rg)/\EndO A0 ns false (q,s.tl)
structure SzQ(D m:Nat)(x:Rat):Prop where
 nn:0<=x
 gq:Gq D x
 le:x<=((2^m:Nat):Rat)
structure TkI(A0:Str->Rat)(E D0:Nat)(ps:List (Str×Rat))(ns:List WD)(A:Str->Rat)(ss:List SD)(sr sk:List EN)(c:Nat):Prop where
 nn:∀n,SzQ (D0*E^(7*c)) 100 (A n)
 sub:∀n,A n≠0->n∈ns.map (·.nm)
 am:∀n,A0 n=A n+totA ss n+enT sr n+enT sk n
 bal:∀s∈ps.map (·.1),aZ A ns s=dF sk s-dF sr s
 bs:∀x∈sr,SzQ (D0*E^(7*c)) 300 x.2/\x.1.1∈ps.map (·.1)/\EndO A0 ns true x.1
 bk:∀x∈sk,SzQ (D0*E^(7*c)) 300 x.2/\x.1.1∈ps.map (·.1)/\EndO A0 ns false x.1
 ct:ss.length+nzc (λd:WD=>A d.nm) ns+nzc (·.2) sr+nzc (·.2) sk<=nzc (λd:WD=>A0 d.nm) ns+nzc (aZ A0 ns) (ps.map (·.1))
 pot:c+2*nzc (λd:WD=>A d.nm) ns+nzc (·.2) sr+nzc (·.2) sk<=28
 each:∀s∈ss,StOk A0 ps ns s
 ln:sr.length+sk.length<=8+c
structure ApD(A0:Str->Rat)(ps:List (Str×Rat))(ns:List WD)(ss:List SD):Prop where
 am:∀n,A0 n=totA ss n
 ct:ss.length<=nzc (λd:WD=>A0 d.nm) ns+nzc (aZ A0 ns) (ps.map (·.1))
 each:∀s∈ss,StOk A0 ps ns s
theorem fN(p:α->Rat)(l:List α):nzc p l<=l.length:=lB _ _
theorem srcs_cons(F:Str->Rat)(x:Str)(l:List Str):fi F (x::l)=(if F x<0 then[((x,[]),-F x)]else[])++fi F l:=by
 unfold fi;by_cases h:F x<0
 ·rw[if_pos h,kS (by exact j6 h)];rfl
 ·rw[if_neg h,lj (by simpa using h)];rfl
theorem snks_cons(F:Str->Rat)(x:Str)(l:List Str):fj F (x::l)=(if 0<F x then[((x,[]),F x)]else[])++fj F l:=by
 unfold fj;by_cases h:0<F x
 ·rw[if_pos h,kS (by exact j6 h)];rfl
 ·rw[if_neg h,lj (by simpa using h)];rfl
theorem ends_first:∀{l:List Str},l.Nodup->(¬s∈l->dF (fi F l) s=0/\dF (fj F l) s=0)/\(s∈l->dF (fj F l) s-dF (fi F l) s=F s)
 |[],_=>⟨λ_=>⟨rfl,rfl⟩,λh=>absurd h j9⟩
 |x::l,nd=>by
  obtain⟨n1,n2⟩:=kM.mp nd;obtain⟨h1,h2⟩:=ends_first (F:=F) (s:=s) n2
  have e1:dF (fi F (x::l)) s=(if x=s/\F x<0 then-F x else 0)+dF (fi F l) s:=by
   rw[srcs_cons];by_cases c:F x<0
   ·rw[if_pos c];show(if x=s then-F x else 0)+dF (fi F l) s=_;by_cases c2:x=s
    ·rw[if_pos c2,if_pos ⟨c2,c⟩]
    ·rw[if_neg c2,if_neg λz=>c2 z.1]
   ·rw[if_neg c,if_neg λz=>c z.2,List.nil_append];grind
  have e2:dF (fj F (x::l)) s=(if x=s/\0<F x then F x else 0)+dF (fj F l) s:=by
   rw[snks_cons];by_cases c:0<F x
   ·rw[if_pos c];show(if x=s then F x else 0)+dF (fj F l) s=_;by_cases c2:x=s
    ·rw[if_pos c2,if_pos ⟨c2,c⟩]
    ·rw[if_neg c2,if_neg λz=>c2 z.1]
   ·rw[if_neg c,if_neg λz=>c z.2,List.nil_append];grind
  rw[e1,e2];refine⟨λh=>?_,λh=>?_⟩
  ·obtain⟨g1,g2⟩:=h1 λz=>h (jW _ z);have nx:¬x=s:=λz=>h (by rw[z];exact j4);rw[g1,g2,if_neg λz=>nx z.1,if_neg λz=>nx z.1];exact⟨by grind,by grind⟩
  ·by_cases c:x=s
   ·subst c;obtain⟨g1,g2⟩:=h1 n1;rw[g1,g2];by_cases c1:F x<0
    ·rw[if_neg (c:=x=x/\0<F x) λz=>absurd z.2 (by grind),if_pos ⟨rfl,c1⟩];grind
    ·rw[if_neg (c:=x=x/\F x<0) λz=>c1 z.2];by_cases c2:0<F x
     ·rw[if_pos ⟨rfl,c2⟩];grind
     ·rw[if_neg λz=>c2 z.2];grind
   ·rw[if_neg λz=>c z.1,if_neg λz=>c z.1]
    have:=h2 ((j3.mp h).resolve_left λz=>c z.symm)
    grind
theorem nzc_first(F:Str->Rat):∀l:List Str,nzc (·.2) (fi F l)+nzc (·.2) (fj F l)<=nzc F l
 |[]=>jJ _
 |x::l=>by
  have ih:=nzc_first F l
  have e1:nzc (·.2) (fi F (x::l))<=(if F x<0 then 1 else 0)+nzc (·.2) (fi F l):=by
   rw[srcs_cons];by_cases c:F x<0
   ·rw[if_pos c,if_pos c];show nzc (λx:EN=>x.2) ((((x,[]),-F x):EN)::fi F l)<=_;rw[bQ]
    split<;>omega
   ·rw[if_neg c,if_neg c,List.nil_append];omega
  have e2:nzc (·.2) (fj F (x::l))<=(if 0<F x then 1 else 0)+nzc (·.2) (fj F l):=by
   rw[snks_cons];by_cases c:0<F x
   ·rw[if_pos c,if_pos c];show nzc (λx:EN=>x.2) ((((x,[]),F x):EN)::fj F l)<=_;rw[bQ]
    split<;>omega
   ·rw[if_neg c,if_neg c,List.nil_append];omega
  rw[bQ]
  have:(if F x<0 then 1 else 0)+(if 0<F x then 1 else 0)<=(if F x=0 then 0 else 1):=by
   by_cases c1:F x<0
   ·rw[if_pos c1,if_neg (by grind),if_neg (by grind)];exact jJ _
   ·rw[if_neg c1];by_cases c2:0<F x
    ·rw[if_pos c2,if_neg (by grind)];exact jJ _
    ·rw[if_neg c2];omega
  omega
theorem gain_le{d:WD}(b:Bd B (aD d.kd d.x))(h:0<aD d.kd d.x):aD d.kd d.x<=((2^B:Nat):Rat)/\(aD d.kd d.x)⁻¹<=((2^B:Nat):Rat):=by
 have up:∀{x:Rat}{C:Nat},x.num.natAbs<=C->0<x->x<=(C:Rat):=λ{x C}b h=>by
  have e:x*(x.den:Rat)=(x.num:Rat):=by
   have h1:=Rat.num_divInt_den x;rw[lA]at h1;have dp:(0:Rat)<((x.den:Int):Rat):=by exact_mod_cast x.den_pos
   have key:∀n d y:Rat,0<d->n/d=y->y*d=n:=λn d y hd e=>by rw[<-e];exact kX (by grind)
   exact key _ _ _ dp h1
  have d1:(1:Rat)<=(x.den:Rat):=by exact_mod_cast x.den_pos
  have n1:(x.num:Rat)<=(C:Rat):=by
   have:x.num<=(C:Int):=by lia
   exact_mod_cast this
  have:=Rat.mul_le_mul_of_nonneg_left d1 (kI h)
  grind
 exact⟨up b.1 h,up b.inv.1 (gC h)⟩
theorem going_le(hb:∀d∈l,0<aD d.kd d.x/\Bd B (aD d.kd d.x)):0<going 1 l/\going 1 l<=((2^(B*l.length):Nat):Rat)/\(going 1 l)⁻¹<=((2^(B*l.length):Nat):Rat):=by
 revert hb
 refine cu (P:=λl=>(∀d∈l,0<aD d.kd d.x/\Bd B (aD d.kd d.x))->0<going 1 l/\going 1 l<=((2^(B*l.length):Nat):Rat)/\(going 1 l)⁻¹<=((2^(B*l.length):Nat):Rat)) (λ_=>⟨by decide+kernel,by show(1:Rat)<=((2^(B*0):Nat):Rat);rw[Nat.mul_zero];decide+kernel,by show(1:Rat)⁻¹<=((2^(B*0):Nat):Rat);rw[Nat.mul_zero];decide+kernel⟩) (λus u ih h=>?_) l;obtain⟨h1,h2,h3⟩:=ih λd hd=>h d (jX _ hd);obtain⟨u1,u2⟩:=h u (by simp);obtain⟨u3,u4⟩:=gain_le u2 u1
 have e:((2^(B*(us++[u]).length):Nat):Rat)=((2^(B*us.length):Nat):Rat)*((2^B:Nat):Rat):=by
  rw[jO,kr,Nat.mul_add,Nat.mul_one,lN,Rat.natCast_mul]
 have mm:∀{x y c d:Rat},0<x->0<y->x<=c->y<=d->x*y<=c*d:=λ{x y c d}hx hy hc hd=>Rat.le_trans (lC hc (kI hy)) (Rat.mul_le_mul_of_nonneg_left hd (by grind));rw[iZ,e];refine⟨cK h1 u1,mm h1 u1 h2 u3,?_⟩
 have ei:(going 1 us*aD u.kd u.x)⁻¹=(going 1 us)⁻¹*(aD u.kd u.x)⁻¹:=by
  have a1:=j7 _ (show going 1 us≠0 by grind);have a2:=j7 _ (show aD u.kd u.x≠0 by grind);have a3:=j7 _ (show going 1 us*aD u.kd u.x≠0 by have:=cK h1 u1;grind);grind
 rw[ei];exact mm (gC h1) (gC u1) h3 u4
theorem SzQ.mul(h:SzQ D m x)(k:SzQ E n y):SzQ (D*E) (m+n) (x*y):=by
 refine⟨eZ h.nn k.nn,h.gq.mul k.gq,?_⟩;rw[lN,Rat.natCast_mul];exact Rat.le_trans (lC h.le k.nn) (Rat.mul_le_mul_of_nonneg_left k.le (by have:=h.nn;have:=h.le;grind))
theorem SzQ.mono(h:SzQ D m x)(d:D∣E)(l:m<=n):SzQ E n x:=⟨h.nn,h.gq.mono d,Rat.le_trans h.le (by have:=kG (show 0<2 by decide) l;exact_mod_cast this)⟩
theorem SzQ.up(h:SzQ (D*E^i) m x)(d:i<=j)(l:m<=n):SzQ (D*E^j) n x:=h.mono (Nat.mul_dvd_mul_left _ (Nat.pow_dvd_pow E d)) l
theorem SzQ.zero:SzQ D m 0:=⟨Rat.le_refl,Gq.zero,by exact_mod_cast jU _⟩
theorem SzQ.bd(h:SzQ D m x)(d0:0<D)(dn:D<=2^n):Bd (m+n) x:=h.gq.bd h.nn h.le d0 dn
theorem jz(hg:∀d∈l,GnE E d/\SmR d.x/\Bd B (aD d.kd d.x))(hm:l.length<=m):SzQ (E^m) (B*m) (going 1 l)/\SzQ (E^m) (B*m) (going 1 l)⁻¹:=by
 obtain⟨h1,h2,h3⟩:=jA (E:=E) (l:=l) λd hd=>(hg d hd).1;obtain⟨_,h4,h5⟩:=going_le (l:=l) λd hd=>⟨(hg d hd).1.ps,(hg d hd).2.2⟩;have le:((2^(B*l.length):Nat):Rat)<=((2^(B*m):Nat):Rat):=by have:=kG (show 0<2 by decide) (show B*l.length<=B*m from Nat.mul_le_mul_left _ hm);exact_mod_cast this
 exact⟨⟨kI h1,h2.up hm,Rat.le_trans h4 le⟩,⟨kI (gC h1),h3.up hm,Rat.le_trans h5 le⟩⟩
theorem sA_sz(nd:(l.map (·.nm)).Nodup)(hg:∀d∈l,GnE E d/\SmR d.x/\Bd B (aD d.kd d.x))(hm:l.length<=m+1):(∀n,SzQ (E^m) (B*m) (sA 1 l n))/\∀d∈l,SzQ (E^m) (B*m) (sA 1 l d.nm)⁻¹:=by
 have key:∀d∈l,SzQ (E^m) (B*m) (sA 1 l d.nm)/\SzQ (E^m) (B*m) (sA 1 l d.nm)⁻¹:=λd hd=>by
  obtain⟨i,hi,e⟩:=sA_pre nd hd;rw[e];exact jz (λd hd=>hg d (kZ hd)) (by rw[jT];lia)
 refine⟨λn=>?_,λd hd=>(key d hd).2⟩;by_cases c:n∈l.map (·.nm)
 ·obtain⟨d,hd,rfl⟩:=jL.mp c;exact(key d hd).1
 ·rw[g8 c];exact SzQ.zero
theorem dk_le(e0:0<E)(eb:E<=2^28)(d0:0<D0)(db:D0<=2^2000)(hc:c<=28)(hj:j<=7):0<D0*E^(7*c+j)/\D0*E^(7*c+j)<=2^7700:=by
 refine⟨Nat.mul_pos d0 (Nat.pow_pos e0),?_⟩;have h1:E^(7*c+j)<=(2^28)^(7*c+j):=Nat.pow_le_pow_left eb _;rw[<-Nat.pow_mul]at h1;have h2:2^(28*(7*c+j))<=2^5700:=kG (by decide) (by lia);have h3:(2:Nat)^7700=2^2000*2^5700:=by rw[<-lN]
 rw[h3];exact lO db (jV h1 h2)
theorem SzQ.mulE(h:SzQ (D*E^i) m x)(k:SzQ (E^j) n y):SzQ (D*E^(i+j)) (m+n) (x*y):=by
 have:=h.mul k
 rw[Nat.mul_assoc,<-lN]at this;exact this
theorem SzQ.less(h:SzQ D m x)(k:Gq D y)(y0:0<=y)(l:y<=x):SzQ D m (x-y):=⟨by grind,h.gq.sub k,by have:=h.le;grind⟩
theorem SzQ.bd2(h:SzQ D m x)(k:SzQ D m y)(d0:0<D)(dn:D<=2^n):Bd (m+n) (x-y):=by
 rcases Rat.le_total (a:=y) (b:=x)with l|l
 ·exact(h.less k.gq k.nn l).bd d0 dn
 ·rw[show x-y=-(y-x)by grind];exact((k.less h.gq h.nn l).bd d0 dn).neg
theorem sumF_sz(e0:0<E)(hA:∀n,SzQ D m (A n)):∀ns:List WD,(∀d∈ns,d.st≠d.go)->(∀d∈ns,GnE E d/\SmR d.x/\Bd 40 (aD d.kd d.x))->Gq (D*E) (aZ A ns s)/\aZ A ns s<=((ns.length*2^(m+40):Nat):Rat)/\-((ns.length*2^(m+40):Nat):Rat)<=aZ A ns s:=by
 refine cu (λ_ _=>⟨Gq.zero,by rw[show(([]:List WD).length*2^(m+40):Nat)=0 from Nat.zero_mul _];exact Rat.le_refl,by rw[show(([]:List WD).length*2^(m+40):Nat)=0 from Nat.zero_mul _];show-(0:Rat)<=0;decide+kernel⟩) λus d ih ne g1=>?_;have dm:d∈us++[d]:=by simp
 obtain⟨h1,h2,h3⟩:=ih (λz hz=>ne z (jX _ hz)) λz hz=>g1 z (jX _ hz);obtain⟨gE,_,gb⟩:=g1 d dm;have hd:=hA d.nm;have gs:SzQ E 40 (aD d.kd d.x):=⟨kI gE.ps,gE.g,(gain_le gb gE.ps).1⟩;have yg:=hd.mul gs;have y1:SzQ (D*E) (m+40) (A d.nm):=hd.mono (Nat.dvd_mul_right _ _) (by lia)
 have hc:Gq (D*E) (con d (A d.nm) s)/\con d (A d.nm) s<=((2^(m+40):Nat):Rat)/\-((2^(m+40):Nat):Rat)<=con d (A d.nm) s:=by
  have q0:(0:Rat)<=((2^(m+40):Nat):Rat):=by exact_mod_cast jU _
  unfold con
  split
  ·have:=yg.nn
   have:=yg.le
   exact⟨yg.gq,yg.le,by grind⟩
  ·split
   ·have:=y1.nn
    have:=y1.le
    exact⟨y1.gq.neg,by grind,by grind⟩
   ·exact⟨Gq.zero,q0,by grind⟩
 rw[dS,dt (ne d dm),jO,kr,Nat.add_mul,Nat.one_mul,Rat.natCast_add];exact⟨h1.add hc.1,by have:=hc.2.1;grind,by have:=hc.2.2;grind⟩
theorem hU(p:α->Rat)(x:α):∀l:List α,nzc p (l++[x])<=nzc p l+1
 |[]=>by rw[List.nil_append,bQ];split<;>omega
 |y::l=>by
  have:=hU p x l
  rw[List.cons_append,bQ,bQ];omega
theorem TkI.first(O:NsOk E ps ns)(nn:∀n,SzQ D 100 (A0 n))(sub:∀n,A0 n≠0->n∈ns.map (·.nm)):TkI A0 E (D*E) ps ns A0 [] (fi (aZ A0 ns) (ps.map (·.1))) (fj (aZ A0 ns) (ps.map (·.1))) 0:=by
 have e1:D*E*E^(7*0)=D*E:=by rw[Nat.mul_zero,Nat.pow_zero,Nat.mul_one]
 have hF:=λs=>sumF_sz (s:=s) O.e0 nn ns O.ne O.g1
 have le:∀{x:Rat},x<=((ns.length*2^(100+40):Nat):Rat)->x<=((2^300:Nat):Rat):=λ{x}h=>by
  have l1:=Nat.mul_le_mul_right (2^(100+40)) O.ln;have l2:12*2^(100+40)<=2^300:=by decide+kernel
  exact Rat.le_trans h (Rat.natCast_le_natCast.mpr (jV l1 l2))
 have n1:=nzc_first (aZ A0 ns) (ps.map (·.1));have n2:=fN (aZ A0 ns) (ps.map (·.1));have n3:=fN (λd:WD=>A0 d.nm) ns;have n4:=O.lp;have n5:=O.ln;rw[jF]at n2
 have nil1:∀x∈fi (aZ A0 ns) (ps.map (·.1)),x.1.2=[]:=λx hx=>by
  obtain⟨s,_,rfl⟩:=jL.mp hx;rfl
 have nil2:∀x∈fj (aZ A0 ns) (ps.map (·.1)),x.1.2=[]:=λx hx=>by
  obtain⟨s,_,rfl⟩:=jL.mp hx;rfl
 refine⟨λn=>by rw[e1];exact(nn n).mono (Nat.dvd_mul_right _ _) (jJ _),sub,λn=>?_,λs hs=>((ends_first O.np).2 hs).symm,λx hx=>?_,λx hx=>?_,by rw[List.length_nil];lia,by lia,λs hs=>absurd hs j9,?_⟩
 ·rw[enT_first nil1,enT_first nil2];show A0 n=A0 n+0+0+0;grind
 ·obtain⟨s,hs,rfl⟩:=jL.mp hx;obtain⟨h1,h2⟩:=lT.mp hs;have h2:=lX h2;obtain⟨f1,_,f3⟩:=hF s;rw[e1];exact⟨⟨by show(0:Rat)<=-aZ A0 ns s;grind,f1.neg,le (by show-aZ A0 ns s<=_;grind)⟩,h1,.inl ⟨rfl,by rw[if_pos rfl];exact h2⟩⟩
 ·obtain⟨s,hs,rfl⟩:=jL.mp hx;obtain⟨h1,h2⟩:=lT.mp hs;have h2:=lX h2;obtain⟨f1,f2,_⟩:=hF s;rw[e1];exact⟨⟨by show(0:Rat)<=aZ A0 ns s;grind,f1,le f2⟩,h1,.inl ⟨rfl,by rw[if_neg (by decide)];exact h2⟩⟩
 ·have h1:=srcs_le (aZ A0 ns) (ps.map (·.1));have h2:=snks_le (aZ A0 ns) (ps.map (·.1));rw[jF]at h1 h2
  lia
theorem mns_le(nn:∀n,0<=A n)(hmin:∀d∈l,sA x l d.nm<=A d.nm)(x0:∀n,0<=sA x l n)(n:Str):0<=mns A l x n/\(mns A l x n≠0->A n≠0)/\sA x l n<=A n:=by
 have h1:=nn n;have h2:=x0 n;unfold mns;by_cases c:n∈l.map (·.nm)
 ·obtain⟨d,hd,rfl⟩:=jL.mp c
  have:=hmin d hd
  exact⟨by grind,λz q=>z (by grind),this⟩
 ·rw[g8 c];exact⟨by grind,λz q=>z (by rw[q];grind),h1⟩
section
variable{A0 A:Str->Rat}{E D0 c:Nat}{ps:List (Str×Rat)}{ns:List WD}{ss:List SD}{sr sk:List EN}
theorem TkI.cc(h:TkI A0 E D0 ps ns A ss sr sk c):c<=28:=by have:=h.pot;lia
theorem TkI.wk(h:TkI A0 E D0 ps ns A ss sr sk c)(O:NsOk E ps ns)(sub:∀d∈l,d∈ns)(nd:(l.map (·.nm)).Nodup)(ll:l.length<=4)(hd:d∈l):SzQ (D0*E^(7*c+3)) 220 (A d.nm/sA 1 l d.nm):=by
 have hg:∀d∈l,GnE E d/\SmR d.x/\Bd 40 (aD d.kd d.x):=λd hd=>O.g1 d (sub d hd);rw[kH];exact(h.nn d.nm).mulE ((sA_sz (m:=3) nd hg (by omega)).2 d hd)
theorem SzQ.sa(h:SzQ (D*E^i) m y)(O:NsOk E ps ns)(sub:∀d∈l,d∈ns)(nd:(l.map (·.nm)).Nodup)(ll:l.length<=4)(n:Str):SzQ (D*E^(i+3)) (m+120) (y*sA 1 l n):=h.mulE ((sA_sz (m:=3) nd (λd hd=>O.g1 d (sub d hd)) (by omega)).1 n)
theorem SzQ.gp(h:SzQ (D*E^i) m y)(O:NsOk E ps ns)(sub:∀d∈l,d∈ns)(ll:l.length<=j):SzQ (D*E^(i+j)) (m+40*j) (y*aB l):=h.mulE (jz (λd hd=>O.g1 d (sub d hd)) ll).1
theorem SzQ.b8(h:SzQ (D*E^i) m y)(O:NsOk E ps ns)(d0:0<D)(db:D<=2^2000)(hi:i<=203)(hm:m<=700):Bd 8400 y:=by
 obtain⟨q1,q2⟩:=dk_le (c:=28) (j:=7) O.e0 O.eb d0 db (by decide) (by decide);exact((h.up hi (jJ _)).bd q1 q2).mono (by lia)
theorem TkI.rbd(h:TkI A0 E D0 ps ns A ss sr sk c)(O:NsOk E ps ns)(d0:0<D0)(db:D0<=2^2000)(rg:RingW ns l)(ll:l.length<=4)(hd:d∈l):RBd l (A d.nm/sA 1 l d.nm):=by
 have nd:=bo O.nd rg.sub rg.nd;have y:=h.wk O rg.sub nd ll hd;have hc:=h.cc;refine⟨y.b8 O d0 db (by lia) (by decide),λn=>(y.sa O rg.sub nd ll n).b8 O d0 db (by lia) (by decide),?_⟩;rw[show(1-aB l)*(A d.nm/sA 1 l d.nm)=A d.nm/sA 1 l d.nm-A d.nm/sA 1 l d.nm*aB l by grind];obtain⟨q1,q2⟩:=dk_le (c:=28) (j:=7) O.e0 O.eb d0 db (by decide) (by decide);exact((y.up (j:=203) (n:=380) (by lia) (by decide)).bd2 ((y.gp (j:=4) O rg.sub ll).up (j:=203) (n:=380) (by lia) (by decide)) q1 q2).mono (by decide)
theorem sA_nn(O:NsOk E ps ns)(sub:∀d∈l,d∈ns)(nd:(l.map (·.nm)).Nodup)(x0:0<=x)(n:Str):0<=sA x l n:=by
 rw[eM];exact eZ x0 ((sA_sz (m:=l.length) nd (λd hd=>O.g1 d (sub d hd)) (by lia)).1 n).nn
theorem sA_one_head(nd:((d::r).map (·.nm)).Nodup):sA x (d::r) d.nm=x:=by
 rw[ii,if_pos rfl,g8 (kM.mp nd).1,Rat.add_zero]
theorem TkI.ring(h:TkI A0 E D0 ps ns A ss sr sk c)(O:NsOk E ps ns)(d0:0<D0)(db:D0<=2^2000){ring:List WD}(rg:RingW ns ring)(pth:PthW s0 ring s0)(lr:ring.length<=4)(x0:0<x)(hmin:∀d∈ring,sA x ring d.nm<=A d.nm)(hat:∃d∈ring,x=A d.nm/sA 1 ring d.nm/\sA x ring d.nm=A d.nm)(out:RgOut ring s0 x ss sr sk ss' sr' sk'):TkI A0 E D0 ps ns (mns A ring x) ss' sr' sk' (c+1)/\nzc (λd:WD=>mns A ring x d.nm) ns<nzc (λd:WD=>A d.nm) ns:=by
 have nn:∀n,0<=A n:=λn=>(h.nn n).nn;have ndr:=bo O.nd rg.sub rg.nd;have hc:=h.cc;obtain⟨d0',hd0,ex,e0⟩:=hat;have sx:=h.wk O rg.sub ndr lr hd0;rw[<-ex]at sx;have snn:=sA_nn (x:=x) O rg.sub ndr (kI x0);have ml:=mns_le nn hmin snn;have uP:∀d∈ring,0<sA 1 ring d.nm:=λd hd=>(sA_gq (E:=E) (m:=ring.length) ndr (λd hd=>(O.g1 d (rg.sub d hd)).1) (by lia) hd).1
 have a0:A d0'.nm≠0:=by
  have:=cK x0 (uP d0' hd0)
  rw[<-eM,e0]at this;grind
 have gp:aB ring=going 1 ring:=rfl;have gx:going x ring=x*aB ring:=iw x ring;have sf:∀s,aZ (mns A ring x) ns s=aZ A ns s-ja s0 s0 x (x*aB ring) s:=λs=>by rw[sumF_walk O.ne O.nd ring A s0 x pth rg.sub,gx]
 have lt:nzc (λd:WD=>mns A ring x d.nm) ns<nzc (λd:WD=>A d.nm) ns:=nzc_lt (λd _=>(ml d.nm).2.1) ⟨d0',rg.sub d0' hd0,a0,by show mns A ring x d0'.nm=0;unfold mns;rw[e0];grind⟩;have up:∀{i m n:Nat}{y:Rat},SzQ (D0*E^(7*c+i)) m y->i<=7->m<=n->SzQ (D0*E^(7*(c+1))) n y:=λ{i m n y}q hi hm=>q.up (by lia) hm
 have x1:SzQ (D0*E^(7*c+3)) 100 x:=by
  refine⟨kI x0,sx.gq,?_⟩
  obtain⟨y1,r,er⟩:∃y1 r,ring=y1::r:=by
   cases hr:ring with
   |nil=>exact absurd hr rg.ne
   |cons z zs=>exact⟨z,zs,rfl⟩
  have h1:=hmin y1 (by rw[er];exact j4);rw[er]at h1 ndr;rw[sA_one_head ndr]at h1;exact Rat.le_trans h1 (h.nn _).le
 have xg:=x1.gp (j:=4) O rg.sub lr
 have hs0:s0∈ps.map (·.1):=by
  obtain⟨y1,r,er⟩:∃y1 r,ring=y1::r:=by
   cases hr:ring with
   |nil=>exact absurd hr rg.ne
   |cons z zs=>exact⟨z,zs,rfl⟩
  rw[er]at pth;rw[<-pth.1];exact(O.io y1 (rg.sub y1 (by rw[er];exact j4))).1
 have hA':∀n,SzQ (D0*E^(7*(c+1))) 100 (mns A ring x n):=λn=>by
  have q1:Gq (D0*E^(7*(c+1))) (sA x ring n):=by
   rw[eM];exact(up (i:=6) (n:=340) (sx.sa O rg.sub ndr lr n) (by decide) (by decide)).gq
  exact(up (i:=0) (h.nn n) (by decide) (jJ _)).less q1 (snn n) (ml n).2.2
 have bs:∀y∈sr,SzQ (D0*E^(7*(c+1))) 300 y.2/\y.1.1∈ps.map (·.1)/\EndO A0 ns true y.1:=λy hy=>⟨up (i:=0) (h.bs y hy).1 (by decide) (jJ _),(h.bs y hy).2⟩;have bk:∀y∈sk,SzQ (D0*E^(7*(c+1))) 300 y.2/\y.1.1∈ps.map (·.1)/\EndO A0 ns false y.1:=λy hy=>⟨up (i:=0) (h.bk y hy).1 (by decide) (jJ _),(h.bk y hy).2⟩;have sub':∀n,mns A ring x n≠0->n∈ns.map (·.nm):=λn hn=>h.sub n ((ml n).2.1 hn);have ct:=h.ct;have pot:=h.pot;have ln:=h.ln
 have en1:∀{y:Rat}{n:Str},aB ring≠1->y=df (aB ring)*x->enA ring y n=sA x ring n:=λ{y n}g1 e=>by
  have q:=df_ps g1;unfold enA;rw[if_neg rg.ne,eM x,e,kH]
  have:=j7 _ (show df (aB ring)≠0 by grind)
  grind
 rcases out with⟨g1,⟨ad,rfl⟩,rfl,rfl⟩|⟨g1,rfl,rfl,rfl⟩|⟨g1,rfl,rfl,rfl⟩
 ·refine⟨⟨hA',sub',λn=>?_,λs hs=>?_,bs,bk,?_,by lia,λs hs=>?_,by lia⟩,lt⟩
  ·rw[totA_snoc,h.am n];unfold sdA mns;rw[if_pos ⟨rg.ne,g1⟩,sA_nil];unfold enA;rw[if_pos rfl];grind
  ·rw[sf,h.bal s hs,g1];unfold ja;grind
  ·rw[jO,kr]
   lia
  ·rcases jP.mp hs with z|z
   ·exact h.each s z
   ·rw[jN.mp z];exact⟨x0,x1.b8 O d0 db (by lia) (by decide),.inl ⟨rfl,rfl,rg,lr,g1⟩⟩
 ·have ne1:aB ring≠1:=λz=>by rw[z]at g1;exact absurd g1 (by decide+kernel)
  have n1:=hU (λe:EN=>e.2) ((s0,ring),(aB ring-1)*x) sr;refine⟨⟨hA',sub',λn=>?_,λs hs=>?_,λy hy=>?_,bk,by lia,by lia,h.each,by rw[jO,kr];lia⟩,lt⟩
  ·rw[enT_snoc,h.am n];show _=_+_+(_+enA ring ((aB ring-1)*x) n)+_;rw[en1 ne1 (by unfold df;rw[if_pos g1])];unfold mns;grind
  ·rw[sf,h.bal s hs,endS_snoc];unfold ja;show _=_-(_+if s0=s then(aB ring-1)*x else 0);by_cases q:s=s0
   ·rw[if_pos q,if_pos q,if_pos q.symm];grind
   ·rw[if_neg q,if_neg q,if_neg λz=>q z.symm];grind
  ·rcases jP.mp hy with z|z
   ·exact bs y z
   ·rw[jN.mp z];refine⟨?_,hs0,.inr ⟨rg,pth,lr,by rw[if_pos rfl];exact g1⟩⟩;show SzQ _ _ ((aB ring-1)*x);rw[show(aB ring-1)*x=x*aB ring-x by grind];have xx:=eZ (kI x0) (show 0<=aB ring-1 by grind);exact(up (i:=7) xg (jJ _) (by decide)).less (up (i:=3) (n:=100) x1 (by decide) (jJ _)).gq (kI x0) (by grind)
 ·have ne1:aB ring≠1:=λz=>by rw[z]at g1;exact absurd g1 (by decide+kernel)
  have n1:=hU (λe:EN=>e.2) ((s0,ring),(1-aB ring)*x) sk;refine⟨⟨hA',sub',λn=>?_,λs hs=>?_,bs,λy hy=>?_,by lia,by lia,h.each,by rw[jO,kr];lia⟩,lt⟩
  ·rw[enT_snoc,h.am n];show _=_+_+_+(_+enA ring ((1-aB ring)*x) n);rw[en1 ne1 (by unfold df;rw[if_neg (by grind)])];unfold mns;grind
  ·rw[sf,h.bal s hs,endS_snoc];unfold ja;show _=(_+if s0=s then(1-aB ring)*x else 0)-_;by_cases q:s=s0
   ·rw[if_pos q,if_pos q,if_pos q.symm];grind
   ·rw[if_neg q,if_neg q,if_neg λz=>q z.symm];grind
  ·rcases jP.mp hy with z|z
   ·exact bk y z
   ·rw[jN.mp z];refine⟨?_,hs0,.inr ⟨rg,pth,lr,by rw[if_neg (by decide)];exact g1⟩⟩;show SzQ _ _ ((1-aB ring)*x);rw[show(1-aB ring)*x=x-x*aB ring by grind];have xx:=eZ (kI x0) (show 0<=1-aB ring by grind);exact(up (i:=3) (n:=300) x1 (by decide) (by decide)).less (up (i:=7) xg (jJ _) (show 100+40*4<=300 by decide)).gq xg.nn (by grind)
theorem SzQ.pb(h:SzQ (D0*E^i) m y)(O:NsOk E ps ns)(d0:0<D0)(db:D0<=2^2000)(sub:∀d∈path,d∈ns)(nd:(path.map (·.nm)).Nodup)(ll:path.length<=3)(hi:i+3<=203)(hm:m<=560):PB path y:=⟨h.b8 O d0 db (by lia) (by lia),λn=>(h.sa O sub nd (by lia) n).b8 O d0 db hi (by lia),(h.gp (j:=3) O sub ll).b8 O d0 db hi (by lia)⟩
theorem TkI.over(h:TkI A0 E D0 ps ns A ss sr sk c)(O:NsOk E ps ns)(sub:∀d∈path,d∈ns)(ll:path.length<=3)(hy:y∈sk):SzQ (D0*E^(7*c+3)) 420 (y.2/aB path):=by
 rw[kH];exact(h.bk y hy).1.mulE (jz (m:=3) (λd hd=>O.g1 d (sub d hd)) ll).2
theorem TkI.szP(h:TkI A0 E D0 ps ns A ss sr sk c)(O:NsOk E ps ns)(d0:0<D0)(db:D0<=2^2000)(sub:∀d∈path,d∈ns)(nd:(path.map (·.nm)).Nodup)(ll:path.length<=3):(∀y∈sr,PB path y.2)/\(∀d∈path,PB path (A d.nm/sA 1 path d.nm))/\∀y∈sk,PB path (y.2/aB path):=by
 have hc:=h.cc;exact⟨λy hy=>(h.bs y hy).1.pb O d0 db sub nd ll (by lia) (by decide),λd hd=>(h.wk O sub nd (by lia) hd).pb O d0 db sub nd ll (by lia) (by decide),λy hy=>(h.over O sub ll hy).pb O d0 db sub nd ll (by lia) (by decide)⟩
theorem TkI.road(h:TkI A0 E D0 ps ns A ss sr sk c)(O:NsOk E ps ns)(d0:0<D0)(db:D0<=2^2000)(rd:RoadW A ns k1.1 path k2.1)(ndp:(k1.1::path.map (·.go)).Nodup)(lr:path.length<=3)(x0:0<x)(x1:x<=r1)(x2:x*aB path<=r2)(hmin:∀d∈path,sA x path d.nm<=A d.nm)(hat:x=r1∨x*aB path=r2∨∃d∈path,sA x path d.nm=A d.nm)(ham:x=r1∨x=r2/aB path∨∃d∈path,x=A d.nm/sA 1 path d.nm)(hi:sr[i]?=some (k1,r1))(hj:sk[j]?=some (k2,r2)):TkI A0 E D0 ps ns (mns A path x) (ss++[⟨k1.2,path,k2.2,x,ad⟩]) (sr.set i (k1,r1-x)) (sk.set j (k2,r2-x*aB path)) (c+1)/\nzc (λd:WD=>mns A path x d.nm) ns+nzc (·.2) (sr.set i (k1,r1-x))+nzc (·.2) (sk.set j (k2,r2-x*aB path))<nzc (λd:WD=>A d.nm) ns+nzc (·.2) sr+nzc (·.2) sk:=by
 have nn:∀n,0<=A n:=λn=>(h.nn n).nn;have psub:∀x∈path,x∈ns:=λx hx=>(rd.sub x hx).1;have ndr:=bo O.nd psub (RoadW.starts (ws:=ns) rd.path ndp);have hs1:=h.bs _ (jI hi);have hs2:=h.bk _ (jI hj);have hc:=h.cc;have snn:=sA_nn (x:=x) O psub ndr (kI x0);have ml:=mns_le nn hmin snn;have gp:0<aB path:=(jA (E:=E) λd hd=>(O.g1 d (psub d hd)).1).1;have xg0:=cK x0 gp;have up:∀{i m n:Nat}{y:Rat},SzQ (D0*E^(7*c+i)) m y->i<=7->m<=n->SzQ (D0*E^(7*(c+1))) n y:=λ{i m n y}q hi hm=>q.up (by lia) hm
 have sx:SzQ (D0*E^(7*c+3)) 420 x:=by
  rcases ham with e|e|⟨d,hd,e⟩
  ·rw[e];exact hs1.1.up (by lia) (by decide)
  ·rw[e];exact h.over O psub lr (jI hj)
  ·rw[e];exact(h.wk O psub ndr (by lia) hd).up (jJ _) (by decide)
 have sf:∀s,aZ (mns A path x) ns s=aZ A ns s-ja k1.1 k2.1 x (x*aB path) s:=λs=>by rw[sumF_walk O.ne O.nd path A k1.1 x rd.path psub,iw]
 have le:nzc (λd:WD=>mns A path x d.nm) ns<=nzc (λd:WD=>A d.nm) ns:=nzc_le λd _=>(ml d.nm).2.1;have z1:=nzc_set (x:=x) hi (λe=>by rw[e]at x1;grind);have z2:=nzc_set (x:=x*aB path) hj (λe=>by rw[e]at x2;grind)
 have lt:nzc (λd:WD=>mns A path x d.nm) ns+nzc (·.2) (sr.set i (k1,r1-x))+nzc (·.2) (sk.set j (k2,r2-x*aB path))<nzc (λd:WD=>A d.nm) ns+nzc (·.2) sr+nzc (·.2) sk:=by
  rcases hat with e|e|⟨d,hd,e⟩
  ·rw[if_pos ⟨by rw[<-e];grind,e.symm⟩]at z1
   have:nzc (·.2) (sk.set j (k2,r2-x*aB path))<=nzc (·.2) sk:=by lia
   lia
  ·rw[if_pos ⟨by rw[<-e];grind,e.symm⟩]at z2
   have:nzc (·.2) (sr.set i (k1,r1-x))<=nzc (·.2) sr:=by lia
   lia
  ·have:nzc (λd:WD=>mns A path x d.nm) ns<nzc (λd:WD=>A d.nm) ns:=nzc_lt (λd _=>(ml d.nm).2.1) ⟨d,psub d hd,(rd.sub d hd).2,by show mns A path x d.nm=0;unfold mns;rw[e];grind⟩
   lia
 have ct:=h.ct;have pot:=h.pot;refine⟨⟨λn=>?_,λn hn=>h.sub n ((ml n).2.1 hn),λn=>?_,λs hs=>?_,λy hy=>?_,λy hy=>?_,?_,by lia,λs hs=>?_,by have:=h.ln;rw[List.length_set,List.length_set];lia⟩,lt⟩
 ·have q1:Gq (D0*E^(7*(c+1))) (sA x path n):=by
   rw[eM];exact(up (i:=6) (n:=540) (sx.sa O psub ndr (by lia) n) (by decide) (by decide)).gq
  exact(up (i:=0) (h.nn n) (by decide) (jJ _)).less q1 (snn n) (ml n).2.2
 ·rw[totA_snoc,enT_set hi,enT_set hj,h.am n]
  have e1:(if k1.2≠[]/\aB k1.2=1 then sA x k1.2 n else enA k1.2 x n)=enA k1.2 x n:=if_neg λz=>by
   rcases hs1.2.2 with⟨q,_⟩|q
   ·exact z.1 q
   ·have q:=q.gn;rw[if_pos rfl]at q;have z:=z.2;have q:1<aB k1.2:=q;rw[z]at q;exact absurd q (by decide+kernel)
  unfold sdA mns;show _=A n-sA x path n+(totA ss n+((if k1.2≠[]/\aB k1.2=1 then sA x k1.2 n else enA k1.2 x n)+sA x path n+enA k2.2 (x*aB path) n))+_+_;rw[e1];grind
 ·rw[sf,endS_set hi,endS_set hj,h.bal s hs];unfold ja;grind
 ·rcases List.mem_or_eq_of_mem_set hy with z|z
  ·exact⟨up (i:=0) (h.bs y z).1 (by decide) (jJ _),(h.bs y z).2⟩
  ·rw[z];exact⟨(up (i:=0) hs1.1 (by decide) (jJ _)).less (up (i:=3) (n:=420) sx (by decide) (jJ _)).gq (kI x0) x1,hs1.2⟩
 ·rcases List.mem_or_eq_of_mem_set hy with z|z
  ·exact⟨up (i:=0) (h.bk y z).1 (by decide) (jJ _),(h.bk y z).2⟩
  ·rw[z];exact⟨(up (i:=0) hs2.1 (by decide) (jJ _)).less (up (i:=6) (n:=540) (sx.gp (j:=3) O psub lr) (by decide) (by decide)).gq (kI xg0) x2,hs2.2⟩
 ·rw[jO,kr]
  lia
 ·rcases jP.mp hs with z|z
  ·exact h.each s z
  ·rw[jN.mp z];exact⟨x0,sx.b8 O d0 db (by lia) (by decide),.inr ⟨k1.1,k2.1,rd.path,ndp,psub,lr,hs1.2.2,hs2.2.2⟩⟩
theorem TkI.done(h:TkI A0 E D0 ps ns A ss sr sk c)(O:NsOk E ps ns)(ac:Acyc ws)(acs:∀d∈ns,A d.nm≠0->d∈ws)(z:∀x∈sr,x.2=0):ApD A0 ps ns ss:=by
 have nn:∀n,0<=A n:=λn=>(h.nn n).nn;have gg:∀d∈ns,0<aD d.kd d.x:=λd hd=>(O.g1 d hd).1.ps
 have e0:∀d∈ns,A d.nm=0:=none_left nn O.ne ac acs λd hd=>by
  rw[h.bal _ (O.io d hd).1,(gF (s:=d.st) λx hx=>(h.bs x hx).1.nn).2.2 λx hx _=>z x hx]
  have:=(gF (s:=d.st) λx hx=>(h.bk x hx).1.nn).1
  grind
 have eA:∀n,A n=0:=λn=>kn λc=>by
  obtain⟨d,hd,rfl⟩:=jL.mp (h.sub n c);exact c (e0 d hd)
 have eF:∀s,aZ A ns s=0:=λs=>by
  have h1:=(no_out nn ns O.ne gg (s:=s) λd hd _=>e0 d hd).1;have h2:=(no_in nn ns O.ne (s:=s) λd hd _=>e0 d hd).1;grind
 have ek:∀x∈sk,x.2=0:=λx hx=>by
  have h1:=h.bal x.1.1 (h.bk x hx).2.1;rw[eF,(gF (s:=x.1.1) λx hx=>(h.bs x hx).1.nn).2.2 λx hx _=>z x hx]at h1;have h2:=(gF (s:=x.1.1) λx hx=>(h.bk x hx).1.nn).2.1 x hx rfl;have h3:=(h.bk x hx).1.nn;grind
 refine⟨λn=>?_,?_,h.each⟩
 ·rw[h.am n,eA n,enT_none z,enT_none ek];grind
 ·have:=h.ct
  lia
end
noncomputable def RgAt(H0:Hp)(ls lo li:Addr)(ns:List WD)(A:Str->Rat)(ss:List SD)(H:Hp)(l:Addr):Prop:=(¬l∈[ls,lo,li]/\H0 l=none/\¬l∈ss.flatMap (·.ad))/\((∃ring s0,H l=some (.lst (nmV ring))/\RingW ns ring/\PthW s0 ring s0/\ring.length<=4/\∀d∈ring,A d.nm≠0)∨(H l=some (.lst [])/\∃ws,Acyc ws/\∀d∈ns,A d.nm≠0->d∈ws))
theorem ring_in_ok(D:TkAt a H0 H t p d ls lo li es fs A ss sr sk)(I:TkI A0 E' D0 ps ns A ss sr sk c)(O:NsOk E' ps ns)(hn:NetAt a H0 p ps ns)(k:∀l H',Same H H'->RgAt H0 ls lo li ns A ss H' l->Q (.ref l) H'):spRingIn a [.ref p,.ref d] H Q E:=by
 obtain⟨kvs,ks,hd,tb,ndk,lk,ik⟩:=id D.pl;have hin:∀n∈ks,n∈ns.map (·.nm):=λn hn=>I.sub n ((ik n).mp hn)
 have nlx:∀l,H l=none->¬l∈[ls,lo,li]/\H0 l=none/\¬l∈ss.flatMap (·.ad):=λl nl=>⟨λz=>(by
  obtain⟨zs,e⟩:=D.ls3 _ z;rw[nl]at e
  cases e),D.sm.free nl,D.ads nl⟩
 have lrg:∀{ring:List WD},RingW (cZ ns ks) ring->ring.length<=4:=λ{ring}rg=>by
  have:=ce rg.nd (ys:=ps.map (·.1)) λy hy=>by
   obtain⟨x,hx,rfl⟩:=jL.mp hy;exact(O.io x (wsOf_in hin (rg.sub x hx)).1).1
  rw[jF,jF]at this
  have:=O.lp
  lia
 refine⟨p,d,ps,ns,kvs,ks,A,rfl,⟨H0,hn,D.sm,D.nd⟩,O.nd,hd,tb,ndk,hin,lk,λl H' ring nl s' hl rg=>(by obtain⟨s0,pt⟩:=rg.rd;exact k l H' s' ⟨nlx l nl,.inl ⟨ring,s0,hl,rg.mono (λx hx=>(wsOf_in hin hx).1),pt,lrg rg,λx hx=>(ik _).mp (wsOf_in hin (rg.sub x hx)).2⟩⟩),λl H' nl s' hl ac=>k l H' s' ⟨nlx l nl,.inr ⟨hl,_,ac,λx hx h0=>in_wsOf O.nd hx ((ik _).mpr h0)⟩⟩⟩
theorem StIs.one{ls lo li:Addr}(h:StIs a [ls,lo,li] H v s):StIs a [ls] H v s:=by
 obtain⟨u,l1,l2,l3,q,z,h1,h2,h3,h4,n1,n2,n3,h5,h6⟩:=h;have o:∀{l:Addr},¬l∈[ls,lo,li]->¬l∈[ls]:=λn z=>n (by rw[jN.mp z];exact j4);exact⟨u,l1,l2,l3,q,z,h1,h2,h3,h4,o n1,o n2,o n3,h5,h6⟩
inductive IspApart(a:Ad)(vs:List V)(H:Hp)(Q:VK):Prop
 |mk(p d:Addr)(ps:List (Str×Rat))(ns:List WD)(kvs:List (Key×V))(ks:List Str)(f:Str->Rat)(E D:Nat)(h1:vs=[.ref p,.ref d])(h2:NetOff a H p d ps ns)(h3:NsOk E ps ns)(h4:H d=some (.dK kvs))(h5:Tab (FrIs a) H kvs ks f)(h6:ks.Nodup)(h7:(∀n∈ks,n∈ns.map (·.nm)))(h8:(∀n∈ks,SzQ D 100 (f n)))(h9:0<D)(h10:D*E<=2^2000)(h11:SumOk (aS ks f) ps ns)(h12:∀l H' ts ss,H l=none->Same H H'->H' l=some (.lst ts)->RowAt (StIs a [l]) H' ts ss->(ss.flatMap (·.ad)).Nodup->(∀b∈ss.flatMap (·.ad),H b=none)->ApD (aS ks f) ps ns ss->Q (.ref l) H'):IspApart a vs H Q
noncomputable def spApart(a:Ad):Sp:=λvs H Q _=>IspApart a vs H Q
theorem ok_taken_apart(T:TX K mg a):FnB P w K mg base CX0 "taken_apart" 13 ["net","plan"] (spApart a):=by
 refine T.d_taken_apart.okA sc_taken_apart λf cdv A outer s H vs Q E hr h=>?_;obtain⟨p,d,ps,ns,kvs,ks,f,E',DD,rfl,off,O,hd,tb,ndk,hin,hf,hD0,hDE,ok,k⟩:=h
 refine⟨_,(af (aT (az (ok_refuse_unfit T) hr aq (aa (pv 0) (aa (pv 1) ae))))
  (af (aj (i:=2) sc_taken_apart.nd (pe_mk (mk_Taking T) hr T.mg_Taking aq (aa (pv 0) (aa (pv 1) ae))))
  (aE (aj (i:=3) sc_taken_apart.nd (az (ok_ring_in T) hr aq (aa (pv 0) (aa (aH (pv 2) rfl) ae))))
  (aE (gc jR (au (g9 hr.units0) (pv 3) (aR ae)) (af (aT (cJ (CX:=CX0) (pv 2) hr aq (aa (pv 3) ae)))
  (ah (aj (i:=3) sc_taken_apart.nd (az (ok_ring_in T) hr aq (aa (pv 0) (aa (aH (pv 2) rfl) ae)))))))
  (af (aQ jR rfl (a5 (aH (pv 2) rfl)) (aw (i:=4) sc_taken_apart.nd) (ah (gc jR (au iO (di T.fr (aH (pv 4) rfl) (dj T) hr aq) ab) (ah (aT (cJ (CX:=CX0) (pv 2) hr aq (aa (pv 4) ae)))))))
  (ah (ax (aH (pv 2) rfl)))))))),?_⟩
 walk_at"q"
 have lks:ks.length<=24:=by
  have:=ce ndk (ys:=ns.map (·.nm)) hin
  rw[jF]at this
  have:=O.ln
  lia
 have d0:0<DD*E':=Nat.mul_pos hD0 O.e0;refine⟨_,rfl,_,rfl,p,d,ps,ns,kvs,ks,f,rfl,off,O.nd,hd,tb,ndk,λn hn=>⟨hin n hn,Rat.num_nonneg.mpr (hf n hn).nn⟩,λH1 s1=>?_⟩;have off1:=off.mono s1;have hn:=off1.at_;refine⟨_,rfl,_,rfl,?_⟩;intro t dx h1 h2 _;have s2:Same H1 (upd (upd H1 dx (.own t)) t (.ins a.Taking dx [])):=fU (C:=a.Taking) h1 h2 λb o e n=>e;have ht2:upd (upd H1 dx (.own t)) t (.ins a.Taking dx []) t=some (.ins a.Taking dx []):=ag;generalize upd (upd H1 dx (.own t)) t (.ins a.Taking dx [])=H2 at s2 ht2⊢;refine⟨H1,t,dx,p,d,ps,ns,kvs,ks,f,rfl,ht2,s2,h1,off1,O.nd,s1 _ _ hd,tb.mono (λv x z=>z.mono s1),ndk,lks,hin,ok,by have:=O.lp;lia,λH3 d3 ls lo li es fs D3=>⟨rfl,?_⟩⟩
 have nnA:∀n,SzQ DD 100 (aS ks f n):=λn=>by
  unfold aS
  split
  ·rename_i h;exact hf n h
  ·exact SzQ.zero
 have subA:∀n,aS ks f n≠0->n∈ns.map (·.nm):=λn h=>hin n (kn λc=>h (if_neg c));have I3:=TkI.first O nnA subA
 generalize aS ks f=A0 at D3 I3 k;generalize fi (aZ A0 ns) (ps.map (·.1))=sr0 at D3 I3;generalize fj (aZ A0 ns) (ps.map (·.1))=sk0 at D3 I3
 have szs:∀{H':Hp}{d':Addr}{es fs:List Addr}{A:Str->Rat}{ss:List SD}{sr sk:List EN}{c:Nat},TkAt a H1 H' t p d' ls lo li es fs A ss sr sk->TkI A0 E' (DD*E') ps ns A ss sr sk c->(∀n,0<=A n/\Bd 8400 (A n))/\ss.length<=100/\es.length<=100/\fs.length<=100:=λ{H' d' es fs A ss sr sk c}D I=>by
  have hc:=I.cc;have h1:=I.ct;have h2:=fN (λd:WD=>A0 d.nm) ns;have h3:=fN (aZ A0 ns) (ps.map (·.1));have h4:=O.ln;have h5:=O.lp;have h6:=I.ln;have h7:=D.ro.1;have h8:=D.ri.1;rw[jF]at h3 h7 h8;exact⟨λn=>⟨(I.nn n).nn,(I.nn n).b8 O d0 hDE (by lia) (by decide)⟩,by lia,by lia,by lia⟩
 refine bM (λσ' H'=>∃l d' A ss c,σ'=[some (.ref p),some (.ref d),some (.ref t),some (.ref l),none]/\TkAt a H1 H' t p d' ls lo li es fs A ss sr0 sk0/\TkI A0 E' (DD*E') ps ns A ss sr0 sk0 c/\RgAt H1 ls lo li ns A ss H' l) ?_ ?_
 ·obtain⟨dx3,ho3⟩:=D3.ob;refine⟨_,rfl,_,rfl,t,_,dx3,_,_,rfl,ho3,T.cl_Taking,T.na_Taking_rest,fsT_d _ _ _ _ _,?_⟩;exact ring_in_ok (E:=E) D3 I3 O hn λl H' s' rg=>⟨l,d3,A0,[],0,rfl,D3.mono s',I3,rg⟩
 rintro zU hzU σ' H4⟨l4,d4,A4,ss4,c4,rfl,D4,I4,R4⟩;subst hzU;refine bM (λσ' H'=>∃l d' es fs A ss sr sk c ws,σ'=[some (.ref p),some (.ref d),some (.ref t),some (.ref l),none]/\TkAt a H1 H' t p d' ls lo li es fs A ss sr sk/\TkI A0 E' (DD*E') ps ns A ss sr sk c/\Acyc ws/\∀d∈ns,A d.nm≠0->d∈ws) ?_ ?_
 ·refine⟨λm σ H'=>∃l d' es fs A ss sr sk c,m=nzc (λd:WD=>A d.nm) ns/\σ=[some (.ref p),some (.ref d),some (.ref t),some (.ref l),none]/\TkAt a H1 H' t p d' ls lo li es fs A ss sr sk/\TkI A0 E' (DD*E') ps ns A ss sr sk c/\RgAt H1 ls lo li ns A ss H' l,⟨_,l4,d4,es,fs,A4,ss4,sr0,sk0,c4,rfl,rfl,D4,I4,R4⟩,?_⟩;clear D4 I4 R4;rintro m σ H5⟨l5,d5,es5,fs5,A5,ss5,sr5,sk5,c5,rfl,rfl,D5,I5,nlx,R5⟩;refine⟨_,rfl,by decide,λe0 ne0=>?_⟩;obtain⟨H6,zq,s6,h6⟩:=uG (o:=.lst []) ne0;rw[zq];have D6:=D5.mono s6;rcases R5 with⟨ring,s0,hl,rg,pt,lr,hA⟩|⟨hl,ws,ac,acs⟩
  ·obtain⟨v0,vr,ev0⟩:∃v0 vr,nmV ring=v0::vr:=by
    cases hpp:ring with
    |nil=>exact absurd hpp rg.ne
    |cons z zs=>exact⟨_,_,rfl⟩
   have hl6:=s6 _ _ hl;have hl6':=hl6;rw[ev0]at hl6';refine⟨l5,e0,_,rfl,rfl,SqL.of hl6',SqL.of h6,_,rfl,iteT ?_⟩;refine⟨λσ' H'=>∃l d' es fs A ss sr sk c,nzc (λd:WD=>A d.nm) ns<nzc (λd:WD=>A5 d.nm) ns/\σ'=[some (.ref p),some (.ref d),some (.ref t),some (.ref l),none]/\TkAt a H1 H' t p d' ls lo li es fs A ss sr sk/\TkI A0 E' (DD*E') ps ns A ss sr sk c/\RgAt H1 ls lo li ns A ss H' l,(by rintro σ' H'⟨l,d',es,fs,A,ss,sr,sk,c,lt,r⟩;exact⟨_,lt,l,d',es,fs,A,ss,sr,sk,c,rfl,r⟩),?_⟩;obtain⟨dx6,ho6⟩:=D6.ob;obtain⟨bA,lss,les,lfs⟩:=szs D5 I5;refine⟨_,rfl,t,a.Taking,dx6,_,10,["self","ring"],spTakeR a,rfl,ho6,i6 _ _ _ _ _ (by decide+kernel),T.cl_Taking,by decide,iB T,_,rfl,H1,t,p,d5,ls,lo,li,l5,es5,fs5,A5,ss5,sr5,sk5,ps,ns,ring,E',s0,rfl,D6,hn,O.nd,O.g1,by have:=O.ln;lia,hl6,nlx.1,nlx.2.1,nlx.2.2,rg,pt,by lia,λy hy=>⟨hA y hy,I5.rbd O d0 hDE rg lr hy⟩,bA,I5.sub,lss,les,lfs,λH7 d7 es7 fs7 ss7 sr7 sk7 x D7 x0 hmin hat out=>?_⟩;obtain⟨I7,lt⟩:=I5.ring O d0 hDE rg pt lr x0 hmin hat out;obtain⟨dx7,ho7⟩:=D7.ob;refine⟨_,rfl,_,rfl,t,_,dx7,_,_,rfl,ho7,T.cl_Taking,T.na_Taking_rest,fsT_d _ _ _ _ _,?_⟩;exact ring_in_ok (E:=E) D7 I7 O hn λl H' s' rg=>⟨l,d7,es7,fs7,_,_,_,_,_,lt,rfl,D7.mono s',I7,rg⟩
  ·exact⟨l5,e0,_,rfl,rfl,SqL.of (s6 _ _ hl),SqL.of h6,_,rfl,iteF ⟨l5,d5,es5,fs5,A5,ss5,sr5,sk5,c5,ws,rfl,D6,I5,ac,acs⟩⟩
 rintro zU hzU σ' H5⟨l5,d5,es5,fs5,A5,ss5,sr5,sk5,c5,ws,rfl,D5,I5,ac,acs⟩;obtain⟨dx5,ho5⟩:=D5.ob;subst hzU;refine⟨_,rfl,t,_,dx5,_,_,rfl,ho5,T.cl_Taking,T.na_Taking_sources,fsT_o _ _ _ _ _,lo,rfl,⟨_,SqL.of D5.so⟩,?_⟩;refine ba (K:=K) (a:=lo) (xs:=es5.map .ref) (λi σ H'=>∃d' A ss sr sk c z4,σ=[some (.ref p),some (.ref d),some (.ref t),some (.ref l5),z4]/\TkAt a H1 H' t p d' ls lo li es5 fs5 A ss sr sk/\TkI A0 E' (DD*E') ps ns A ss sr sk c/\(∀d∈ns,A d.nm≠0->d∈ws)/\∀x∈sr.take i,x.2=0) ⟨d5,A5,ss5,sr5,sk5,c5,_,rfl,D5,I5,acs,λx hx=>by rw[lP]at hx;cases hx⟩ ((by rintro i σ H' _⟨_,_,_,_,_,_,_,_,D,_⟩;exact SqL.of D.so)) ?_ ?_
 ·rintro i v σ H6 hv⟨d6,A6,ss6,sr6,sk6,c6,z4,rfl,D6,I6,acs6,nul⟩
  obtain⟨e,en,rfl⟩:∃e,es5[i]?=some e/\v=.ref e:=by
   rw[jK]at hv
   cases ef:es5[i]? with
   |none=>rw[ef]at hv;cases hv
   |some e'=>rw[ef]at hv;cases hv;exact⟨e',rfl,rfl⟩
  refine⟨λm σ H'=>∃d' A ss sr sk c,m=nzc (λd:WD=>A d.nm) ns+nzc (·.2) sr+nzc (·.2) sk/\σ=[some (.ref p),some (.ref d),some (.ref t),some (.ref l5),some (.ref e)]/\TkAt a H1 H' t p d' ls lo li es5 fs5 A ss sr sk/\TkI A0 E' (DD*E') ps ns A ss sr sk c/\(∀d∈ns,A d.nm≠0->d∈ws)/\∀x∈sr.take i,x.2=0,⟨_,d6,A6,ss6,sr6,sk6,c6,rfl,rfl,D6,I6,acs6,nul⟩,?_⟩;clear D6 I6 acs6 nul;rintro m σ H7⟨d7,A7,ss7,sr7,sk7,c7,rfl,rfl,D7,I7,acs7,nul⟩;obtain⟨⟨k1,r1⟩,ex,_⟩:=D7.ro.get (i:=i) hv;obtain⟨dxe,lre,qe,hee,_,_,fqe⟩:=D7.eS en ex;obtain⟨b1,b3,b4⟩:=I7.bs _ (jI ex);have br1:=b1.b8 O d0 hDE (by have:=I7.cc;lia) (by decide);refine⟨_,rfl,e,_,dxe,_,_,rfl,hee,T.cl_End,T.na_End_rest,fsE_q _ _ _,?_⟩;walk_at"rd"
  by_cases hp:0<r1
  case neg=>
   refine cL (jY λz=>hp ((iU r1).mp z)) ⟨d7,A7,ss7,sr7,sk7,c7,_,rfl,D7,I7,acs7,λx hx=>?_⟩;rw[jS,ex]at hx;rcases jP.mp hx with z|z
   ·exact nul x z
   ·rw[jN.mp z];have b1:0<=r1:=b1.nn;show r1=0;grind
  refine iteC (j6 ((iU r1).mpr hp)) ?_;refine⟨λσ' H'=>∃d' A ss sr sk c,nzc (λd:WD=>A d.nm) ns+nzc (·.2) sr+nzc (·.2) sk<nzc (λd:WD=>A7 d.nm) ns+nzc (·.2) sr7+nzc (·.2) sk7/\σ'=[some (.ref p),some (.ref d),some (.ref t),some (.ref l5),some (.ref e)]/\TkAt a H1 H' t p d' ls lo li es5 fs5 A ss sr sk/\TkI A0 E' (DD*E') ps ns A ss sr sk c/\(∀d∈ns,A d.nm≠0->d∈ws)/\∀x∈sr.take i,x.2=0,(by rintro σ' H'⟨d',A,ss,sr,sk,c,lt,r⟩;exact⟨_,lt,d',A,ss,sr,sk,c,rfl,r⟩),?_⟩;obtain⟨dx7,ho7⟩:=D7.ob;obtain⟨bA,lss,_,_⟩:=szs D7 I7;refine⟨_,rfl,t,a.Taking,dx7,_,11,["self","source"],spRoad a,rfl,ho7,i6 _ _ _ _ _ (by decide+kernel),T.cl_Taking,by decide,iA T,_,rfl,H1,t,p,d7,ls,lo,li,e,es5,fs5,A7,ss7,sr7,sk7,ps,ns,ws,i,E',k1,r1,rfl,D7,hn,O.nd,O.g1,by have:=O.ln;lia,O.ne,O.io,by have:=O.lp;lia,bA,I7.sub,lss,ac,acs7,b3,en,ex,hp,λx hx=>(I7.bs x hx).1.nn,λx hx=>⟨(I7.bk x hx).1.nn,(I7.bk x hx).1.b8 O d0 hDE (by have:=I7.cc;lia) (by decide)⟩,λpath q rd nd lp=>?_,I7.bal,λH8 d8 x path j k2 r2 ad D8 hy rd x0 x1 x2 x3 x4 x5=>?_⟩
  ·obtain⟨q1,q2,q3⟩:=I7.szP O d0 hDE (path:=path) (λy hy=>(rd.sub y hy).1) nd (by have:=O.lp;lia);exact⟨q1 _ (jI ex),q2,q3⟩
  have ndp:=rd.places ac acs7
  have lpa:path.length<=3:=by
   have:=ce ndp (ys:=ps.map (·.1)) λy hy=>by
    rcases j3.mp hy with rfl|z
    ·exact b3
    ·obtain⟨w',hw',rfl⟩:=jL.mp z;exact(O.io w' (rd.sub w' hw').1).2
   rw[kz,jF,jF]at this
   have:=O.lp
   lia
  obtain⟨I8,lt⟩:=I7.road O d0 hDE (ad:=ad) rd ndp lpa x0 x1 x2 x3 x4 x5 ex hy;have psub:∀x∈path,x∈ns:=λx hx=>(rd.sub x hx).1;refine⟨d8,_,_,_,_,_,lt,rfl,D8,I8,λy hy h0=>acs7 y hy ((mns_le (λn=>(bA n).1) x3 (sA_nn O psub (bo O.nd psub (RoadW.starts (ws:=ns) rd.path ndp)) (kI x0)) y.nm).2.1 h0),λy hy=>nul y ?_⟩;rw[List.take_set_of_le (jJ _)]at hy;exact hy
 ·rintro σ H6⟨d6,A6,ss6,sr6,sk6,c6,z4,rfl,D6,I6,acs6,nul⟩;rw[D6.ro.1,jQ]at nul;obtain⟨dx6,ho6⟩:=D6.ob;obtain⟨ts,hts,rs⟩:=D6.st;exact⟨_,rfl,t,_,dx6,_,_,rfl,ho6,T.cl_Taking,T.na_Taking_strands,fsT_s _ _ _ _ _,k ls H6 ts ss6 (s1.free D6.ns) (s1.trans D6.sm) hts ⟨rs.1,λi t x h1 h2=>(rs.2 i t x h1 h2).one⟩ D6.sd (λb hb=>s1.free (D6.sh b hb)) (I6.done O ac acs6 nul)⟩
end
end G
namespace G
open PySem L2
section
theorem jw(h:n<=1000):n<=sizeLine:=by rw[PySem.sizeLine_eq];lia
theorem one_len:(⟨#[c]⟩:Str).length=1:=rfl
theorem aW(x:Int)(h:0<m):0<=x%m/\x%m<m:=⟨Int.emod_nonneg x (by lia),Int.emod_lt_of_pos x h⟩
inductive IspCellW(K:W.Frag)(vs:List V)(H:Hp)(Q:VK):Prop
 |mk(l:Addr)(ns:List Int)(k:Int)(h1:vs=[.ref l,.int k])(h2:SqL K H l (ns.map V.int))(h3:0<=k)(h4:k<=1000)(h5:∀c:Int,Q (.int c) H):IspCellW K vs H Q
noncomputable def spCellW(K:W.Frag):Sp:=λvs H Q _=>IspCellW K vs H Q
theorem a7(T:TX K mg a):FnB P w K mg base CX0 "_law_cell_at" 1 ["_law_script","_law_k"] (spCellW K):=by
 refine T.d_law_cell_at.okA sc_law_cell_at λf cdv A outer s H vs Q E hr h=>?_;obtain⟨l,ns,i,rfl,hS,i0,i1,k⟩:=h
 refine⟨_,(af (aN (au gQ (pv 1) (aI a6 (by rfl) T.z_len km (aa (pv 0) ae))) (ah (ax (al aM (pv 0) (pv 1)))) aA)
  (af (aN (au cT (aI a6 (by rfl) T.z_len km (aa (pv 0) ae)) ab) (ah (ax ab)) aA)
  (ah (ax (ao aL (ao op_mul (al aM (pv 0) (ao aL (pv 1) (aI a6 (by rfl) T.z_len km (aa (pv 0) ae)))) (ao aO ab (ao op_mul (pv 1) (pv 1)))) ab))))),?_⟩
 walk_at"q"
 have get:∀j:Int,0<=j->j<ns.length->∃c,atI (ns.map V.int) j=some (.int c):=λj h0 h1=>by
  obtain⟨n,rfl⟩:=lV h0;have hn:n<ns.length:=by lia
  exact⟨ns[n],atI_nat (by rw[jK,jH hn];rfl)⟩
 refine⟨_,rfl,_,rfl,_,_,rfl,.inl hS,_,_,rfl,rfl,_,rfl,?_⟩;rw[jF];refine ifB (λhlt=>?_) (λhge=>?_)
 ·obtain⟨c,hc⟩:=get i i0 hlt;exact⟨_,rfl,_,rfl,l,_,_,_,rfl,rfl,hS,hc,k c⟩
 ·refine⟨_,rfl,_,_,rfl,.inl hS,rfl,_,rfl,?_⟩;rw[jF];refine ifV (λh0=>k 0) (λh0=>?_);have hp:(0:Int)<ns.length:=by lia
  obtain⟨e0,e1⟩:=aW i hp;obtain⟨c,hc⟩:=get _ e0 e1;have h1:i*i<=1000*1000:=Int.mul_le_mul i1 i1 i0 (by decide);have h2:0<=i*i:=Int.mul_nonneg i0 i0;refine⟨_,rfl,_,rfl,_,rfl,l,_,rfl,.inl hS,_,_,rfl,rfl,by rw[jF];exact hp,l,_,_,_,rfl,rfl,hS,by rw[jF];exact hc,?_⟩;refine⟨_,rfl,_,rfl,_,_,rfl,rfl,.inl ⟨by lia,by lia⟩,_,_,rfl,rfl,_,_,rfl,rfl,.inr ⟨by lia,by lia⟩,_,_,rfl,rfl,zI1000003,?_⟩;exact k _
structure Names(ns:List Str)(n:Nat):Prop where
 len:ns.length=n
 nd:ns.Nodup
 sm:∀x∈ns,x.length<=200
 ch:∀x∈ns,∃s t:Nat,∀c∈x.cps.toList,c=s∨c=t
inductive IspNames(vs:List V)(H:Hp)(Q:VK):Prop
 |mk(c:Int)(n:Nat)(h1:vs=[.int c,.int n])(h2:n<=37)(h3:∀l H' ns,H l=none->Same H H'->H' l=some (.lst (ns.map V.str))->Names ns n->Q (.ref l) H'):IspNames vs H Q
noncomputable def spNames(K:W.Frag):Sp:=λvs H Q _=>IspNames vs H Q
theorem take_range{f:Nat->Str}(i:Nat):((List.range (i+1)).map f)=((List.range i).map f)++[f i]:=by rw[List.range_succ,jM];rfl
theorem names_of(inj:∀i j,i<n->j<n->f i=f j->i=j)(sm:∀i,i<n->(f i).length<=200)(ch:∀i,i<n->∃s t:Nat,∀c∈(f i).cps.toList,c=s∨c=t):Names ((List.range n).map f) n:=by
 refine⟨by simp,?_,λx hx=>?_,λx hx=>by
  obtain⟨i,hi,rfl⟩:=jL.mp hx;exact ch i (List.mem_range.mp hi)⟩
 ·rw[List.nodup_iff_pairwise_ne,List.pairwise_map];refine(List.nodup_range (n:=n)).imp_of_mem ?_;intro i j hi hj ne e;exact ne (inj i j (List.mem_range.mp hi) (List.mem_range.mp hj) e)
 ·obtain⟨i,hi,rfl⟩:=jL.mp hx;exact sm i (List.mem_range.mp hi)
theorem rep_len(c:Nat)(n:Int):(Txt.mul ⟨#[c]⟩ n).length=n.toNat:=by rw[len_cps,mul_cps,List.length_replicate]
noncomputable def nmA(c:Int)(k:Nat):Str:=Txt.mul ⟨#[sgAt (c/4%37)]⟩ ((0+(k:Int))+1)
noncomputable def nmB(f:Str)(at_ c:Int)(k:Nat):Str:=(Txt.slice f none (some at_)++⟨#[sgAt ((0+(k:Int)+c/7)%37)]⟩)++Txt.slice f (some at_) none
theorem nmA_names(h:n<=37):Names ((List.range n).map (nmA c)) n:=by
 refine names_of (λi j _ _ e=>?_) (λi hi=>?_) λi hi=>⟨sgAt (c/4%37),0,λc' hc=>.inl (by unfold nmA at hc;rw[mul_cps]at hc;exact List.eq_of_mem_replicate hc)⟩
 ·have:=kA Str.length e
  unfold nmA at this;rw[rep_len,rep_len]at this
  lia
 ·unfold nmA;rw[rep_len]
  lia
theorem mem_slice(h:c∈(Txt.slice x l u).cps.toList):c∈x.cps.toList:=by
 unfold Txt.slice at h
 split at h
 ·exact h
 ·obtain⟨i,_,e⟩:=List.mem_filterMap.mp h;exact Array.mem_toList_iff.mpr (Array.mem_of_getElem? e)
theorem nmB_names(h:n<=37)(hf:f.length<=60)(hs:∀c∈f.cps.toList,c=s):Names ((List.range n).map (nmB f at_ c)) n:=by
 refine names_of (λi j hi hj e=>?_) (λi hi=>?_) λi hi=>⟨s,sgAt ((0+(i:Int)+c/7)%37),λc' hc=>?_⟩
 ·have e1:=app_left (app_right e)
  have e2:sgAt ((0+(i:Int)+c/7)%37)=sgAt ((0+(j:Int)+c/7)%37):=by
   have:=kA (λu:Str=>u.cps.toList) e1
   simpa using this
  obtain⟨a1,a2⟩:=aW (0+(i:Int)+c/7) (show(0:Int)<37 by decide);obtain⟨b1,b2⟩:=aW (0+(j:Int)+c/7) (show(0:Int)<37 by decide);have e3:=sgAt_inj _ (by lia) _ (by lia) e2
  lia
 ·unfold nmB;have h1:=Txt.slice_le f none (some at_);have h2:=Txt.slice_le f (some at_) none;rw[PySem.strLen_append,PySem.strLen_append,one_len]
  lia
 ·unfold nmB at hc;rw[cps_app,cps_app,jP,jP]at hc;rcases hc with(hc|hc)|hc
  ·exact .inl (hs _ (mem_slice hc))
  ·exact .inr (by simpa using hc)
  ·exact .inl (hs _ (mem_slice hc))
theorem jt(T:TX K mg a):FnB P w K mg base CX0 "_law_names" 1 ["_law_cell","_law_count"] (spNames K):=by
 refine T.d_law_names.okA sc_law_names λf cdv A outer s H vs Q E hr h=>?_;obtain⟨c,n,rfl,hn,k⟩:=h
 refine⟨_,(af (aj (i:=2) sc_law_names.nd bW)
  (af (aN (au cT (ao aL (pv 0) ab) ab) (ah (ax (eP (xs:=["_law_k"]) (rest:=["_law_cell","_law_signs"]) rfl (bO rfl T.z_range (aa (pv 1) ae))
  (λpins fp C' s' H'=>(aw (i:=0) (show(["_law_k","_law_cell","_law_signs"]:List Str).Nodup by decide+kernel))) (λpins fp C' s' H'=>cA)
  (λpins fp C' s' H'=>(ao op_rep_str (al ix_str (pv 2) (ao aL (ao br (pv 1) ab) ab)) (ao aO (pv 0) ab)))
  (Clos.many (ys:=["_law_signs","_law_cell"]) rfl ⟨rfl,rfl,True.intro⟩ rfl (by decide+kernel)) (Reads.many (ys:=["_law_cell","_law_signs"]) (js:=[0,2]) ⟨⟨rfl,rfl,rfl⟩,⟨rfl,rfl,rfl⟩,True.intro⟩)))) aA)
  (af (aj (i:=3) sc_law_names.nd (ao op_rep_str (al ix_str (pv 2) (ao aL (ao br (pv 0) ab) ab)) (al aM (aR (aa ab (aa ab (aa ab (aa ab ae))))) (ao aL (ao br (pv 0) ab) ab))))
  (af (aj (i:=4) sc_law_names.nd (ao aL (ao br (pv 0) ab) (ao aO (aI call_len_str (by rfl) T.z_len km (aa (pv 3) ae)) ab)))
  (ah (ax (eP (xs:=["_law_k"]) (rest:=["_law_at","_law_cell","_law_fill","_law_signs"]) rfl (bO rfl T.z_range (aa (pv 1) ae))
  (λpins fp C' s' H'=>(aw (i:=0) (show(["_law_k","_law_at","_law_cell","_law_fill","_law_signs"]:List Str).Nodup by decide+kernel))) (λpins fp C' s' H'=>cA)
  (λpins fp C' s' H'=>(ao op_add_str (ao op_add_str (dC sl_str (pv 3) fG (fF (pv 1))) (al ix_str (pv 4) (ao aL (ao aO (pv 0) (ao br (pv 2) ab)) ab))) (dC sl_str (pv 3) (fF (pv 1)) fG)))
  (Clos.many (ys:=["_law_signs","_law_fill","_law_cell","_law_at"]) rfl ⟨rfl,rfl,rfl,rfl,True.intro⟩ rfl (by decide+kernel)) (Reads.many (ys:=["_law_at","_law_cell","_law_fill","_law_signs"]) (js:=[4,0,3,2]) ⟨⟨rfl,rfl,rfl⟩,⟨rfl,rfl,rfl⟩,⟨rfl,rfl,rfl⟩,⟨rfl,rfl,rfl⟩,True.intro⟩)))))))),?_⟩
 walk_at"q"
 obtain⟨p1,p2⟩:=aW (c/4) (show(0:Int)<37 by decide);walk_at"rd"
 refine ifV (λh2=>?_) (λh2=>?_)
 ·refine⟨_,rfl,(n:Int),rfl,by lia,by lia,λl nl=>?_⟩;refine cQ (λi H2=>i<=n/\Same H H2/\H2 l=some (.lst (((List.range i).map (nmA c)).map V.str))) ⟨jU _,aC nl,ag⟩ ?_ ?_
  ·rintro i H2 hi⟨_,s2,h2⟩;refine g1 ⟨⟨[_],rfl,rfl⟩,yes ?_⟩;have hi':i<n:=by simpa using hi
   walk_at"rd"
   refine⟨by rw[PySem.sizeLine_eq];decide,sgAt_some p1 p2,?_⟩;walk_at"rd"
   refine⟨show(0+(i:Int)+1).natAbs<1000 by lia,?_⟩;refine⟨_,h2,ay (by rw[jF,jF,lM];lia),dD (by simpa using hi) ⟨hi',aF nl s2,?_⟩⟩;rw[ag,take_range,jM];rfl
  ·rintro H2⟨_,s2,h2⟩;exact k l H2 _ nl s2 h2 (by simpa using nmA_names (c:=c) hn)
 ·obtain⟨q0,q1⟩:=aW (c/148) (show(0:Int)<4 by decide);walk_at"rd"
  refine⟨by rw[PySem.sizeLine_eq];decide,sgAt_some p1 p2,zL4,λz nz=>?_⟩;obtain⟨H1,zq,sz,hz⟩:=uG (o:=.lst [.int 0,.int 1,.int 3,.int 59]) nz;rw[zq]
  have pick:∃m:Int,atI [V.int 0,.int 1,.int 3,.int 59] (c/148%4)=some (.int m)/\0<=m/\m<=59:=by
   obtain⟨j,hj⟩:=lV q0;rw[hj]at q1⊢
   have:j=0∨j=1∨j=2∨j=3:=by lia
   rcases this with rfl|rfl|rfl|rfl
   ·exact⟨0,rfl,by decide,by decide⟩
   ·exact⟨1,rfl,by decide,by decide⟩
   ·exact⟨3,rfl,by decide,by decide⟩
   ·exact⟨59,rfl,by decide,by decide⟩
  obtain⟨m,hm,m0,m1⟩:=pick;walk_at"rd"
  refine⟨z,_,_,_,rfl,rfl,SqL.of hz,hm,?_⟩;walk_at"rd"
  refine⟨show m.natAbs<1000 by lia,?_⟩;have fl:=rep_len (sgAt (c/4%37)) m;have fc:∀c'∈(Txt.mul ⟨#[sgAt (c/4%37)]⟩ m).cps.toList,c'=sgAt (c/4%37):=λc' hc=>by rw[mul_cps]at hc;exact List.eq_of_mem_replicate hc
  generalize Txt.mul ⟨#[sgAt (c/4%37)]⟩ m=fill at fl fc⊢;have fl2:fill.length<=60:=by lia
  walk_at"rd"
  refine⟨jw (by lia),?_⟩;walk_at"rd"
  refine⟨show(0:Int)<(fill.length:Int)+1 by lia,?_⟩;refine⟨_,rfl,(n:Int),rfl,by lia,by lia,λl nl=>?_⟩;refine cQ (λi H2=>i<=n/\Same H1 H2/\H2 l=some (.lst (((List.range i).map (nmB fill (c/592%((fill.length:Int)+1)) c)).map V.str))) ⟨jU _,aC nl,ag⟩ ?_ ?_
  ·rintro i H2 hi⟨_,s2,h2⟩;refine g1 ⟨⟨[_],rfl,rfl⟩,yes ?_⟩;have hi':i<n:=by simpa using hi
   obtain⟨r1,r2⟩:=aW (0+(i:Int)+c/7) (show(0:Int)<37 by decide);have l1:=Txt.slice_le fill none (some (c/592%((fill.length:Int)+1)));have l2:=Txt.slice_le fill (some (c/592%((fill.length:Int)+1))) none;refine⟨_,rfl,_,rfl,_,rfl,fill,rfl,jw (by lia),?_⟩;walk_at"rd"
   refine⟨by rw[PySem.sizeLine_eq];decide,sgAt_some r1 r2,?_⟩;walk_at"rd"
   refine⟨by rw[one_len];exact jw (by lia),?_⟩;walk_at"rd"
   refine⟨jw (by lia),?_⟩;walk_at"rd"
   refine⟨by rw[PySem.strLen_append,one_len];exact jw (by lia),?_⟩;refine⟨_,h2,ay (by rw[jF,jF,lM];lia),dD (by simpa using hi) ⟨hi',aF nl s2,?_⟩⟩;rw[ag,take_range,jM];rfl
  ·rintro H2⟨_,s2,h2⟩;exact k l H2 _ (sz.free nl) (sz.trans s2) h2 (by simpa using nmB_names (c:=c) hn fl2 fc)
structure G5(t b:Int):Prop where
 t0:1<=t
 t1:t<=5
 b0:1<=b
 b1:b<=5
theorem ok_law_gain(T:TX K mg a):FnB P w K mg base CX0 "_law_gain" 1 ["_law_cell"] (λvs H Q _=>∃c:Int,vs=[.int c]/\∀t b p,G5 t b->H p=none->Q (.ref p) (upd H p (.tup [.int t,.int b]))):=by
 refine T.d_law_gain.okA sc_law_gain (λf cdv A outer s H vs Q E hr h=>?_) (λvs H Q E h=>?_)
 rotate_left
 ·obtain⟨_,rfl,_⟩:=h;rfl
 ·obtain⟨c,rfl,k⟩:=h
  refine⟨_,(af (aN (au cT (ao aL (pv 0) ab) ab) (ah (ax (aU (aa ab (aa ab ae))))) aA)
   (ah (ax (aU (aa (ao aO ab (ao aL (ao br (pv 0) ab) ab)) (aa (ao aO ab (ao aL (ao br (pv 0) ab) ab)) ae)))))),?_⟩
  walk_at"q"
  walk_at"rd"
  refine ifV (λh2=>?_) (λh2=>?_)
  ·exact⟨zL2,λp np=>k 1 1 p ⟨by decide,by decide,by decide,by decide⟩ np⟩
  ·obtain⟨a1,a2⟩:=aW (c/3) (show(0:Int)<5 by decide);obtain⟨b1,b2⟩:=aW (c/15) (show(0:Int)<5 by decide);walk_at"rd"
   exact⟨zL2,λp np=>k _ _ p ⟨by lia,by lia,by lia,by lia⟩ np⟩
structure FB(t b:Int):Prop where
 t0:1<=t
 t1:t<=8
 b0:1<=b
 b1:b<=8
inductive IspFac(vs:List V)(H:Hp)(Q:VK):Prop
 |mk(c:Int)(e:Bool)(h1:vs=[.int c,.bl e])(h2:∀t b p,FB t b->(e=true->t=b)->(e=false->b<t)->H p=none->Q (.ref p) (upd H p (.tup [.int t,.int b]))):IspFac vs H Q
noncomputable def spFac:Sp:=λvs H Q _=>IspFac vs H Q
theorem iQ(T:TX K mg a):FnB P w K mg base CX0 "_law_factor" 1 ["_law_cell","_law_equal"] spFac:=by
 refine T.d_law_factor.okA sc_law_factor λf cdv A outer s H vs Q E hr h=>?_;obtain⟨c,e,rfl,k⟩:=h
 refine⟨_,(af (aN (cI (pv 1)) (ah (ax (aU (aa ab (aa ab ae))))) aA)
  (ah (ax (aU (aa (ao aO (ao aO ab (ao aL (ao br (pv 0) ab) ab)) (ao aL (ao br (pv 0) ab) ab)) (aa (ao aO ab (ao aL (ao br (pv 0) ab) ab)) ae)))))),?_⟩
 walk_at"q"
 refine⟨_,rfl,_,rfl,?_⟩
 cases e with
 |true=>exact iteT ⟨zL2,λp np=>k 1 1 p ⟨by decide,by decide,by decide,by decide⟩ (λ_=>rfl) (λz=>by cases z) np⟩
 |false=>
  obtain⟨a1,a2⟩:=aW (c/5) (show(0:Int)<5 by decide);obtain⟨b1,b2⟩:=aW (c/25) (show(0:Int)<3 by decide);refine iteF ⟨_,rfl,_,_,rfl,rfl,⟨by decide,by decide⟩,_,_,rfl,rfl,zI5,_,_,rfl,rfl,_,rfl,_,_,rfl,rfl,⟨by decide,by decide⟩,_,_,rfl,rfl,zI3,_,_,rfl,rfl,_,rfl,_,_,rfl,rfl,⟨by decide,by decide⟩,_,_,rfl,rfl,zI5,_,_,rfl,rfl,zL2,λp np=>k (2+c/5%5+c/25%3) (1+c/5%5) p ⟨by lia,by lia,by lia,by lia⟩ (λz=>by cases z) (λ_=>by lia) np⟩
structure GB(t b:Int):Prop where
 t0:1<=t
 t1:t<=2^12
 b0:1<=b
 b1:b<=2^12
structure WR where
 nm:Str
 st:Str
 go:Str
 t:Int
 b:Int
 k:Int
noncomputable def WR.d(r:WR):WD:=if r.t=r.b/\r.k=0 then⟨r.nm,r.st,r.go,.way,0⟩else if r.t<=r.b/\r.k=1 then⟨r.nm,r.st,r.go,.lea,Rat.divInt (r.b-r.t) r.b⟩else⟨r.nm,r.st,r.go,.gro,Rat.divInt r.t r.b⟩
theorem WR.d_way{r:WR}(h:r.t=r.b/\r.k=0):r.d=⟨r.nm,r.st,r.go,.way,0⟩:=if_pos h
theorem WR.d_lea{r:WR}(h:¬(r.t=r.b/\r.k=0))(h2:r.t<=r.b/\r.k=1):r.d=⟨r.nm,r.st,r.go,.lea,Rat.divInt (r.b-r.t) r.b⟩:=(if_neg h).trans (if_pos h2)
theorem WR.d_gro{r:WR}(h:¬(r.t=r.b/\r.k=0))(h2:¬(r.t<=r.b/\r.k=1)):r.d=⟨r.nm,r.st,r.go,.gro,Rat.divInt r.t r.b⟩:=(if_neg h).trans (if_neg h2)
theorem WR.d_nm(r:WR):r.d.nm=r.nm:=by unfold WR.d;split<;>(try split)<;>rfl
theorem WR.d_st(r:WR):r.d.st=r.st:=by unfold WR.d;split<;>(try split)<;>rfl
theorem WR.d_go(r:WR):r.d.go=r.go:=by unfold WR.d;split<;>(try split)<;>rfl
theorem jC(h:b≠0):Rat.divInt b b=1:=by
 rw[show(1:Rat)=Rat.divInt 1 1 from rfl,Rat.divInt_eq_divInt_iff h (by decide)]
 lia
theorem WR.d_gain{r:WR}(h:GB r.t r.b):aD r.d.kd r.d.x=Rat.divInt r.t r.b:=by
 have hb:r.b≠0:=by have:=h.b0;lia
 unfold WR.d
 split
 ·rename_i e;rw[e.1,jC hb];rfl
 ·split
  ·show 1-Rat.divInt (r.b-r.t) r.b=_;rw[show(1:Rat)=Rat.divInt r.b r.b from(jC hb).symm,Rat.divInt_sub_divInt _ _ hb hb,Rat.divInt_eq_divInt_iff (Int.mul_ne_zero hb hb) hb];grind
  ·rfl
theorem lt_one(hd:0<d)(h:n<d):Rat.divInt n d<1:=by
 rw[show(1:Rat)=Rat.divInt 1 1 from rfl,lt_div hd (by decide)]
 lia
theorem nn_num(hd:0<d)(h:0<=n):0<=(Rat.divInt n d).num:=Rat.num_nonneg.mpr ((divInt_nn n hd).mpr h)
theorem pos_num(hd:0<d)(h:0<n):0<(Rat.divInt n d).num:=by
 have h1:=nn_num hd (Int.le_of_lt h)
 have h2:(Rat.divInt n d).num≠0:=λe=>by
  have h3:=Rat.num_divInt_den (Rat.divInt n d);rw[e,Rat.zero_divInt]at h3
  have:=(Rat.divInt_eq_divInt_iff (show(1:Int)≠0 by decide) (show d≠0 by lia)).mp (show Rat.divInt 0 1=Rat.divInt n d from by rw[<-h3,Rat.zero_divInt])
  lia
 lia
theorem WR.d_sm{r:WR}(h:GB r.t r.b):SmR r.d.x/\Bd 12 (aD r.d.kd r.d.x)/\r.d.kd≠.sto:=by
 obtain⟨t0,t1,b0,b1⟩:=h;have p1:((2:Int)^12)=((2^12:Nat):Int):=by decide
 refine⟨?_,?_,?_⟩
 ·unfold WR.d
  split
  ·exact⟨Nat.two_pow_pos _,sm1⟩
  ·split
   ·exact(Bd.divInt (n:=12) (by lia) (by lia)).smr (by decide)
   ·exact(Bd.divInt (n:=12) (by lia) (by lia)).smr (by decide)
 ·rw[WR.d_gain ⟨t0,t1,b0,b1⟩];exact Bd.divInt (by lia) (by lia)
 ·unfold WR.d
  split
  ·nofun
  ·split<;>nofun
noncomputable def RowIs(H:Hp)(v:V)(r:WR):Prop:=∃p g,v=.ref p/\H p=some (.tup [.str r.st,.str r.go,.ref g,.int r.k])/\H g=some (.tup [.int r.t,.int r.b])
theorem RowIs.mono(h:RowIs H v r)(s:Same H H'):RowIs H' v r:=by
 obtain⟨p,g,e,h1,h2⟩:=h;exact⟨p,g,e,s _ _ h1,s _ _ h2⟩
inductive IspLawWay(a:Ad)(vs:List V)(H:Hp)(Q:VK):Prop
 |mk(v vh:V)(qc:Addr)(r:WR)(h1:vs=[.str r.nm,v,vh,.ref qc])(h2:RowIs H v r)(h3:GB r.t r.b)(h4:r.st≠r.go)(h5:HiOk a.Fraction H vh)(h6:∀p H',H p=none->Same H H'->WayIs a H' (.ref p) r.d->Q (.ref p) H'):IspLawWay a vs H Q
noncomputable def spLawWay(a:Ad):Sp:=λvs H Q _=>IspLawWay a vs H Q
theorem ok_law_way(T:TX K mg a):FnB P w K mg base CX0 "_law_way" 7 ["_law_name","_law_parts","_law_high","_law_cost_here"] (spLawWay a):=by
 refine T.d_law_way.okA sc_law_way λf cdv A outer s H vs Q E hr h=>?_;obtain⟨v,vh,qc,r,rfl,⟨p,g,rfl,hp,hg⟩,gb,ne,hh,k⟩:=h
 refine⟨_,(af (aj (i:=4) sc_law_way.nd (al av (pv 1) ab))
  (aE (aN (PW.pt (c8 (au cT (al av (pv 4) ab) (al av (pv 4) ab)) (cH (au cT (al av (pv 1) ab) ab)))) (ah (ax (pe_mk (mk_Way T) hr T.mg_Way aq (aa (pv 0) (aa (al av (pv 1) ab) (aa (al av (pv 1) ab) (aa (pv 2) (aa (pv 3) ae)))))))) aA)
  (aE (aN (PW.pt (c8 (au op_le (al av (pv 4) ab) (al av (pv 4) ab)) (cH (au cT (al av (pv 1) ab) ab)))) (ah (ax (pe_mk (mk_Leaking T) hr T.mg_Leaking aq (aa (pv 0) (aa (al av (pv 1) ab) (aa (al av (pv 1) ab) (aa (bD (mk2 T) hr T.mg_Fraction aq (aa (ao cv (al av (pv 4) ab) (al av (pv 4) ab)) (aa (al av (pv 4) ab) ae))) (aa (pv 2) (aa (pv 3) ae))))))))) aA)
  (ah (ax (pe_mk (mk_Growing T) hr T.mg_Growing aq (aa (pv 0) (aa (al av (pv 1) ab) (aa (al av (pv 1) ab) (aa (bD (mk2 T) hr T.mg_Fraction aq (aa (al av (pv 4) ab) (aa (al av (pv 4) ab) ae))) (aa (pv 2) (aa (pv 3) ae)))))))))))),?_⟩
 walk_at"q"
 generalize hk9:iy _ _=k9
 revert k9
 refine fP λk9 hk9=>?_;have SP:SqT K H p _:=SqT.of hp;have SG:SqT K H g _:=SqT.of hg;have a0:atI [V.str r.st,.str r.go,.ref g,.int r.k] 0=some (.str r.st):=rfl;have a1:atI [V.str r.st,.str r.go,.ref g,.int r.k] 1=some (.str r.go):=rfl;have a2:atI [V.str r.st,.str r.go,.ref g,.int r.k] 2=some (.ref g):=rfl;have a3:atI [V.str r.st,.str r.go,.ref g,.int r.k] 3=some (.int r.k):=rfl;have g0:atI [V.int r.t,.int r.b] 0=some (.int r.t):=rfl;have g1:atI [V.int r.t,.int r.b] 1=some (.int r.b):=rfl;obtain⟨t0,t1,b0,b1⟩:=id gb;refine⟨_,rfl,p,_,_,_,rfl,rfl,SP,a2,?_⟩;subst hk9;refine bM (λσ' H'=>σ'=[some (.str r.nm),some (.ref p),some vh,some (.ref qc),some (.ref g)]/\H'=H/\¬(r.t=r.b/\r.k=0)) ?_ ?_
 ·walk_at"rd"
  refine ifV (λe1=>?_) (λe1=>?_)
  ·walk_at"rd"
   refine ifV (λe2=>?_) (λe2=>?_)
   ·refine⟨_,rfl,_,rfl,p,_,_,_,rfl,rfl,SP,a0,_,rfl,p,_,_,_,rfl,rfl,SP,a1,_,rfl,_,rfl,?_⟩;refine mkW (x:=0) T ne hh λq H' vc' q' nq ss W co=>k q H' nq ss (by rw[WR.d_way ⟨e1,e2⟩];exact⟨q,_,_,q',rfl,W,by nofun⟩)
   ·exact⟨rfl,rfl,λz=>e2 z.2⟩
  ·exact⟨rfl,rfl,λz=>e1 z.1⟩
 rintro zU hzU σ' H'⟨rfl,rfl,n1⟩;subst hzU;refine⟨λσ' H''=>σ'=[some (.str r.nm),some (.ref p),some vh,some (.ref qc),some (.ref g)]/\H''=H'/\¬(r.t<=r.b/\r.k=1),?_,?_⟩
 ·walk_at"rd"
  refine ifB (λe1=>?_) (λe1=>?_)
  ·walk_at"rd"
   refine ifV (λe2=>?_) (λe2=>?_)
   ·refine⟨_,rfl,_,rfl,p,_,_,_,rfl,rfl,SP,a0,_,rfl,p,_,_,_,rfl,rfl,SP,a1,?_⟩;walk_at"rd"
    refine⟨by lia,(Sm.of_le (n:=12) (by lia) (by decide)),λq H1 nq s1 f1=>?_⟩;refine⟨_,rfl,_,rfl,?_⟩;refine mkL T ne f1 ⟨nn_num (by lia) (by lia),lt_one (by lia) (by lia),(Bd.divInt (n:=12) (by lia) (by lia)).smr (by decide)⟩ (hh.mono s1) λq2 H2 vc' q' nq2 ss W co=>k q2 H2 (s1.free nq2) (s1.trans ss) (by rw[WR.d_lea n1 ⟨e1,e2⟩];exact⟨q2,_,_,q',rfl,W,by nofun⟩)
   ·exact⟨rfl,rfl,λz=>e2 z.2⟩
  ·exact⟨rfl,rfl,λz=>e1 z.1⟩
 rintro σ' H''⟨rfl,rfl,n2⟩;refine⟨_,rfl,_,rfl,p,_,_,_,rfl,rfl,SP,a0,_,rfl,p,_,_,_,rfl,rfl,SP,a1,?_⟩;walk_at"rd"
 refine⟨by lia,(Sm.of_le (n:=12) (by lia) (by decide)),λq H1 nq s1 f1=>?_⟩;refine⟨_,rfl,_,rfl,?_⟩;refine mkG T ne f1 (pos_num (by lia) (by lia)) (hh.mono s1) λq2 H2 vc' q' nq2 ss W co=>k q2 H2 (s1.free nq2) (s1.trans ss) (by rw[WR.d_gro n1 n2];exact⟨q2,_,_,q',rfl,W,by nofun⟩)
theorem val_at[DecidableEq κ]:∀{kvs:List (κ×V)}{i:Nat}{kv:κ×V},(kvs.map (·.1)).Nodup->kvs[i]?=some kv->bI kvs kv.1=some kv.2
 |[],_,_,_,e=>by simp at e
 |p::r,0,kv,_,e=>by
  simp at e;subst e;exact bZ rfl
 |p::r,i+1,kv,nd,e=>by
  have e:r[i]?=some kv:=by simpa using e
  obtain⟨h1,h2⟩:=kM.mp (show(p.1::r.map (·.1)).Nodup from nd);rw[b5 λz=>h1 (by rw[z];exact jL.mpr ⟨kv,jI e,rfl⟩)];exact val_at h2 e
theorem keys_nd{kvs:List (Key×V)}{rs:List WR}(hk:kvs.map (·.1)=rs.map (λr=>Sum.inr r.nm))(nd:(rs.map (·.nm)).Nodup):(kvs.map (·.1)).Nodup:=by
 rw[hk,show(λr:WR=>(Sum.inr r.nm:Key))=(λn=>(Sum.inr n:Key))∘(λr:WR=>r.nm)from rfl,<-kO];exact nd.map _ (λu v h e=>h (ma e))
noncomputable def RowsAt(H:Hp)(d:Addr)(rs:List WR):Prop:=∃kvs,H d=some (.dK kvs)/\kvs.map (·.1)=rs.map (λr=>Sum.inr r.nm)/\RowAt RowIs H (kvs.map (·.2)) rs
theorem RowsAt.mono(h:RowsAt H d rs)(s:Same H H'):RowsAt H' d rs:=by
 obtain⟨kvs,h1,h2,h3⟩:=h;exact⟨kvs,s _ _ h1,h2,h3.mono λv x z=>z.mono s⟩
structure RGood(sp:List Str)(r:WR):Prop where
 gb:GB r.t r.b
 ne:r.st≠r.go
 i1:r.st∈sp
 i2:r.go∈sp
structure RsOk(sp:List Str)(rs:List WR):Prop where
 nd:(rs.map (·.nm)).Nodup
 len:rs.length<=24
 all:∀r∈rs,RGood sp r
theorem RowIs.put(h:RowIs H v r)(hd:H d=some o)(ho:∀xs,o≠.tup xs):RowIs (upd H d o') v r:=by
 obtain⟨p,g,e,h1,h2⟩:=h;refine⟨p,g,e,?_,?_⟩
 ·rw[ai (aG h1 hd (ho _).symm)];exact h1
 ·rw[ai (aG h2 hd (ho _).symm)];exact h2
theorem dh{sp:List Str}{j:Nat}(h:sp[j]?=some x):atI (sp.map V.str) (j:Int)=some (.str x):=atI_nat (by rw[jK,h];rfl)
theorem ne_idx{sp:List Str}{i j:Nat}(nd:sp.Nodup)(hi:sp[i]?=some x)(hj:sp[j]?=some y)(h:i≠j):x≠y:=λe=>by
 subst e;exact h ((kR (jG.mp hi).1 nd).mp (hi.trans hj.symm))
theorem rows_keys{kvs:List (Key×V)}{rs:List WR}(hk:kvs.map (·.1)=rs.map (λr=>Sum.inr r.nm)):kvs.map (λkv=>kV kv.1)=(rs.map (·.nm)).map V.str:=by
 rw[show(λkv:Key×V=>kV kv.1)=kV∘(·.1)from rfl,<-kO,hk,kO,kO];rfl
inductive IspCost(vs:List V)(H:Hp)(Q:VK):Prop
 |mk(d:Addr)(n:Str)(c:Int)(kvs:List (Key×V))(rs:List WR)(h1:vs=[.str n,.ref d,.int c])(h2:Rd H d (.dK kvs))(h3:kvs.map (·.1)=rs.map (λr=>Sum.inr r.nm))(h4:n∈rs.map (·.nm))(h5:rs.length<=24)(h6:∀(x:Int) H',x.natAbs<=20->Same H H'->Q (.int x) H'):IspCost vs H Q
noncomputable def spCost:Sp:=λvs H Q _=>IspCost vs H Q
theorem ok_law_cost(T:TX K mg a):FnB P w K mg base CX0 "_law_cost" 2 ["_law_name","_law_ways_here","_law_cell"] spCost:=by
 refine T.d_law_cost.okA sc_law_cost λf cdv A outer s H vs Q E hr h=>?_;obtain⟨d,n,c,kvs,rs,rfl,hd,hk,hn,lr,k⟩:=h;refine⟨_,(ah (ax (ao cv (ao aL (ao aL (ao op_mul (pv 2) (ao aO ab (gi ki PySem.F.slot_list_index PySem.F.type_list_index mt_indexT (bj (cX hr.hd) (by rfl) T.z_list kK (aa (pv 1) ae)) (aa (pv 0) ae)))) ab) ab) ab))),?_⟩;walk_at"q"
 refine⟨_,rfl,_,rfl,d,kvs,rfl,hd,λl nl=>?_⟩;rw[rows_keys hk];obtain⟨H1,zq,s1,h1⟩:=uG (o:=.lst ((rs.map (·.nm)).map V.str)) nl;rw[zq]
 have li:(rs.map (·.nm)).idxOf n<24:=by
  have:=List.idxOf_lt_length_of_mem hn
  rw[jF]at this
  lia
 refine⟨.inl ⟨rfl,_,SqL.of h1⟩,_,rfl,l,rs.map (·.nm),n,rfl,rfl,SqL.of h1,hn,?_⟩;generalize(rs.map (·.nm)).idxOf n=j at li⊢;refine⟨_,_,rfl,rfl,_,_,rfl,rfl,.inr ⟨by lia,by lia⟩,_,_,rfl,rfl,zI1000003,_,_,rfl,rfl,zI11,_,_,rfl,rfl,?_⟩;obtain⟨a1,a2⟩:=aW (c*(48271+(j:Int))%1000003) (show(0:Int)<11 by decide);exact k _ H1 (by lia) s1
noncomputable def netW(sp:List Str)(x:Rat):List (Str×Rat):=sp.map λs=>(s,x)
theorem eV(sp:List Str)(x:Rat):(netW sp x).map (·.1)=sp:=by unfold netW;rw[kO];exact List.map_id' sp
inductive IspLawNet(K:W.Frag)(a:Ad)(vs:List V)(H:Hp)(Q:VK):Prop
 |mk(ls d:Addr)(sp:List Str)(rs:List WR)(c:Int)(h1:vs=[.ref ls,.ref d,.int c])(h2:SqL K H ls (sp.map V.str))(h3:sp.Nodup)(h4:sp.length<=12)(h5:RowsAt H d rs)(h6:RsOk sp rs)(h7:∀p H' x,H p=none->Same H H'->NetAt a H' p (netW sp x) (rs.map WR.d)->Q (.ref p) H'):IspLawNet K a vs H Q
noncomputable def spLawNet(K:W.Frag)(a:Ad):Sp:=λvs H Q _=>IspLawNet K a vs H Q
theorem RsOk.net(h:RsOk sp rs)(nd:sp.Nodup)(hl:sp.length<=12):NetOk (netW sp x) (rs.map WR.d):=by
 refine⟨by rw[eV];exact nd,by unfold netW;rw[jF];exact hl,?_,by rw[jF];exact h.len,λd hd=>?_⟩
 ·rw[kO,show((λx:WD=>x.nm)∘WR.d)=(λr:WR=>r.nm)from funext λr=>WR.d_nm r];exact h.nd
 ·obtain⟨r,hr,rfl⟩:=jL.mp hd;rw[eV,WR.d_st,WR.d_go];exact⟨(h.all r hr).i1,(h.all r hr).i2⟩
theorem ok_law_net(T:TX K mg a):FnB P w K mg base CX0 "_law_net" 8 ["_law_spots","_law_ways_here","_law_cell"] (spLawNet K a):=by
 refine T.d_law_net.okA sc_law_net λf cdv A outer s H vs Q E hr h=>?_;obtain⟨ls,d,sp,rs,c,rfl,hS,nd,hl,hR,ok,k⟩:=h
 refine⟨_,(af (aj (i:=3) sc_law_net.nd (aR ae))
  (aE (cB (aQ jR rfl (dO (pv 1)) (aw (i:=4) sc_law_net.nd) (af (aj (i:=5) sc_law_net.nd (al aM (aR (aa pe_non (aa (bD (mk1 T) hr T.mg_Fraction aq (aa ab ae)) (aa (bD (mk1 T) hr T.mg_Fraction aq (aa ab ae)) ae)))) (ao aL (ao aO (pv 2) (aI a6 (by rfl) T.z_len km (aa (pv 3) ae))) ab)))
  (ah (aT (gi ki kC kD bJ (pv 3) (aa (az (ok_law_way T) hr aq (aa (pv 4) (aa (aV (aJ hr) (pv 1) (pv 4) (λ_ _=>rfl)) (aa (pv 5) (aa (bD (mk1 T) hr T.mg_Fraction aq (aa (az (ok_law_cost T) hr aq (aa (pv 4) (aa (pv 1) (aa (pv 2) ae)))) ae)) ae))))) ae)))))))
  (ah (ax (pe_mk (mk_Net T) hr T.mg_Net aq (aa (eP (xs:=["_law_spot"]) (rest:=["_law_cell"]) rfl (a5 (pv 0))
  (λpins fp C' s' H'=>(aw (i:=0) (show(["_law_spot","_law_cell"]:List Str).Nodup by decide+kernel))) (λpins fp C' s' H'=>cA)
  (λpins fp C' s' H'=>(aU (aa (pv 0) (aa (bD (mk1 T) hr T.mg_Fraction aq (aa (ao cv (ao aL (pv 1) ab) ab) ae)) ae))))
  (Clos.many (ys:=["_law_cell"]) rfl ⟨rfl,True.intro⟩ rfl (by decide+kernel)) (Reads.many (ys:=["_law_cell"]) (js:=[2]) ⟨⟨rfl,rfl,rfl⟩,True.intro⟩)) (aa (pv 3) ae))))))),?_⟩
 walk_at"q"
 generalize hk9:iy _ _=k9
 revert k9
 refine fP λk9 hk9=>?_;refine⟨by decide,λl nl=>?_⟩;obtain⟨H1,zq,s1,h1⟩:=uG (o:=.lst []) nl;rw[zq];subst hk9;refine bM (λσ' H'=>∃z4 z5 us,σ'=[some (.ref ls),some (.ref d),some (.int c),some (.ref l),z4,z5]/\Same H H'/\H' l=some (.lst us)/\RowAt (WayIs a) H' us (rs.map WR.d)) ?_ ?_
 ·obtain⟨kvs,hd,hk,hw⟩:=hR.mono s1;have hkl:kvs.length=rs.length:=by have:=kA List.length hk;rwa [jF,jF]at this
  have ndl:d≠l:=aG hd h1 (by intro z;cases z);refine⟨d,.dK kvs,hd,(by intro o z e;cases e),_,rfl,d,kvs,rfl,hd,λo=>?_⟩
  refine e9 (a:=d) (o:=o) (kvs:=kvs) (λi σ H3=>i<=rs.length/\∃z4 z5 us,σ=[some (.ref ls),some (.ref d),some (.int c),some (.ref l),z4,z5]/\H3 d=some (.frz o (.dK kvs))/\(∀b ob,H b=some ob->b≠d->H3 b=some ob)/\H3 l=some (.lst us)/\RowAt (WayIs a) H3 us ((rs.take i).map WR.d))
   ⟨jU _,_,_,[],rfl,ag,(λb ob e ne=>by rw[ai ne];exact s1 _ _ e),by rw[ai ndl.symm];exact h1,RowAt.nil⟩ ((by rintro i σ H3 _⟨_,_,_,_,_,h,_⟩;exact h)) ?_ ?_
  ·rintro i kv σ H3 hkv⟨_,z4,z5,us,rfl,hf,k3,h3,hv3⟩;have hi:i<rs.length:=by rw[<-hkl];exact(jG.mp hkv).1
   obtain⟨r,er⟩:∃r,rs[i]?=some r:=⟨_,jH hi⟩
   have e1:kv.1=Sum.inr r.nm:=by
    have g:=kA (λl=>l[i]?) hk;simp only[jK,hkv,er,kU]at g;exact kg g
   have ekv:kV kv.1=.str r.nm:=by rw[e1];rfl
   rw[ekv];have rg:=ok.all r (jI er)
   have hval:bI kvs (Sum.inr r.nm)=some kv.2:=by
    rw[<-e1];exact val_at (keys_nd hk ok.nd) hkv
   obtain⟨kv0,hd0,hk0,hw0⟩:=id hR
   have hkk:kv0=kvs:=by
    have:=s1 _ _ hd0
    rw[hd]at this
    cases this;rfl
   subst hkk
   have hrow3:RowIs H3 kv.2 r:=by
    obtain⟨p,g,e,x1,x2⟩:=hw0.2 i kv.2 r (by rw[jK,hkv];rfl) er;exact⟨p,g,e,k3 _ _ x1 (aG x1 hd0 (by intro z;cases z)),k3 _ _ x2 (aG x2 hd0 (by intro z;cases z))⟩
   have lus:us.length=i:=by rw[hv3.1,jF,jT];lia
   refine⟨0,1,rfl,by decide,sm1,λq0 H4 n4 s4 f4=>⟨1,1,rfl,by decide,sm1,λq1 H5 n5 s5 f5=>⟨zL3,λlx n6=>?_⟩⟩⟩;obtain⟨H6,zq,s6,h6⟩:=uG (o:=.lst [.non,.ref q0,.ref q1]) n6;rw[zq];have s36:=s4.trans (s5.trans s6);have h36:=s36 _ _ h3;obtain⟨a1,a2⟩:=aW (c+(us.length:Int)) (show(0:Int)<3 by decide)
   obtain⟨vh,hh,eh⟩:∃vh,HiOk a.Fraction H6 vh/\atI [V.non,.ref q0,.ref q1] ((c+(us.length:Int))%3)=some vh:=by
    have h3':(c+(us.length:Int))%3=0∨(c+(us.length:Int))%3=1∨(c+(us.length:Int))%3=2:=by lia
    rcases h3' with e|e|e
    ·exact⟨.non,.inl rfl,by rw[e];rfl⟩
    ·exact⟨.ref q0,.inr ⟨q0,_,rfl,f4.mono (s5.trans s6),by decide+kernel⟩,by rw[e];rfl⟩
    ·exact⟨.ref q1,.inr ⟨q1,_,rfl,f5.mono s6,by decide+kernel⟩,by rw[e];rfl⟩
   refine⟨_,rfl,_,rfl,l,_,rfl,.inl (SqL.of h36),_,_,rfl,rfl,_,_,rfl,rfl,zI3,lx,_,_,vh,rfl,rfl,SqL.of h6,eh,?_⟩;refine⟨_,rfl,.inl ⟨rfl,_,SqL.of h36⟩,?_⟩;refine⟨_,rfl,_,rfl,_,rfl,d,kv.2,rfl,.inl ⟨kv0,Sum.inr r.nm,.inr ⟨o,s36 _ _ hf⟩,rfl,hval.symm⟩,_,rfl,_,rfl,_,rfl,_,rfl,?_⟩;refine⟨d,r.nm,c,kv0,rs,rfl,.inr ⟨o,s36 _ _ hf⟩,hk,jL.mpr ⟨r,jI er,rfl⟩,ok.len,λx H7 hx s7=>?_⟩;refine⟨x,1,rfl,by decide,sm1,λqc H8 nqc s8 fc=>?_⟩;have s38:=s36.trans (s7.trans s8);refine⟨kv.2,vh,qc,r,rfl,hrow3.mono s38,rg.gb,rg.ne,hh.mono (s7.trans s8),λp H9 np s9 W=>?_⟩;have s39:=s38.trans s9;have h9:=s39 _ _ h3;refine⟨l,_,_,rfl,rfl,h9,ay (by have:=ok.len;lia),hi,_,_,_,rfl,?_,λb ob e ne=>?_,ag,?_⟩
   ·rw[ai ndl];exact s39 _ _ hf
   ·rw[ai (ar e nl)];exact s39 _ _ (k3 _ _ e ne)
   ·rw[jS,er,j0,jM];exact RowAt.snoc (hv3.mono λv x z=>(z.mono s39).lst h9) (W.lst h9)
  ·rintro σ H3⟨_,z4,z5,us,rfl,hf,k3,h3,hv3⟩;rw[hkl,jQ]at hv3;obtain⟨kv0,hd0,_⟩:=id hR;have e0:=s1 _ _ hd0;rw[hd]at e0
   have s23:Same H (upd H3 d (.dK kvs)):=λb ob e=>by
    by_cases hb:b=d
    ·subst hb;rw[ag,<-e,hd0,e0]
    ·rw[ai hb];exact k3 _ _ e hb
   exact⟨o,hf,_,_,us,rfl,s23,by rw[ai ndl.symm];exact h3,hv3.mono λv x z=>z.keep (.put hf (by intro _ _ _ z;cases z))⟩
 rintro zU hzU σ' H2⟨z4,z5,us,rfl,s2,h2,hW⟩;obtain⟨c1,c2⟩:=aW c (show(0:Int)<5 by decide);subst hzU;refine⟨_,rfl,ls,rfl,⟨_,s2.seq hS⟩,λl1 n1=>?_⟩;refine de (K:=K) (a:=ls) (xs:=sp.map V.str) (λi H3=>i<=sp.length/\Same H2 H3/\∃ts,H3 l1=some (.lst ts)/\RowAt (PlIs a) H3 ts (netW (sp.take i) (Rat.divInt (c%5-2) 1))) ⟨jU _,aC n1,[],ag,RowAt.nil⟩ ((by rintro i H3⟨_,s3,_⟩;exact(s2.trans s3).seq hS)) ?_ ?_
 ·rintro i x H3 hx⟨_,s3,ts,h3,hv⟩;rw[jK]at hx
  cases ex:sp[i]? with
  |none=>rw[ex]at hx;cases hx
  |some y=>
   rw[ex]at hx
   cases hx;have hi:=(jG.mp ex).1;refine L2.g1 ⟨⟨[_],rfl,rfl⟩,yes ?_⟩;refine⟨_,rfl,_,rfl,_,_,rfl,rfl,zI5,_,_,rfl,rfl,c%5-2,1,rfl,by decide,sm1,λq H4 nq s4 f4=>?_⟩;refine⟨zL2,λt nt=>?_⟩;obtain⟨H5,zq,s5,ht⟩:=uG (o:=.tup [.str y,.ref q]) nt;rw[zq];have h5:=s5 _ _ (s4 _ _ h3);have lts:ts.length=i:=by rw[hv.1];unfold netW;rw[jF,jT];lia
   have keep:∀v x,PlIs a H5 v x->PlIs a (upd H5 l1 (.lst (ts++[.ref t]))) v x:=(by rintro v x⟨t',q',e,h1,dq,f⟩;exact⟨t',q',e,by rw[ai (aG h1 h5 (by intro z;cases z))];exact h1,dq,by rw[ai (aG f h5 (by intro z;cases z))];exact f⟩);refine⟨_,h5,ay (by lia),dD (by rw[jF];exact hi) ⟨hi,aF n1 ((s3.trans s4).trans s5),_,ag,?_⟩⟩;rw[jS,ex,j0];unfold netW;rw[jM];exact RowAt.snoc (hv.mono λv x z=>keep v x (z.mono (s4.trans s5))) (keep _ _ ⟨t,q,rfl,ht,f4.mono s5⟩)
 ·rintro H3⟨_,s3,ts,h3,hv⟩;rw[jF,jQ]at hv;refine⟨_,rfl,?_⟩;exact mkN (SqL.of h3) hv (SqL.of (s3 _ _ h2)) (hW.mono λv x z=>z.mono s3) (ok.net nd hl) λp H4 np s4 hn=>k p H4 _ (s2.free (s3.free np)) (s2.trans (s3.trans s4)) hn
theorem eY(h:i.natAbs<=2^x)(g:j.natAbs<=2^y)(s:x+y<=1000000):IntMulOk i j:=mulOk_bits (by
 have h1:=bits_le (k:=i) (n:=x+1) (kj h (Nat.pow_lt_pow_right (by decide) (by lia)));have h2:=bits_le (k:=j) (n:=y+1) (kj g (Nat.pow_lt_pow_right (by decide) (by lia)))
 have:(1000002:Nat)<=2^27:=by decide
 lia)
structure Nx(x:Nat)(c:Int×Int):Prop where
 t:c.1.natAbs<=2^x
 b:c.2.natAbs<=2^x
theorem Nx.mono(h:Nx x c)(l:x<=y):Nx y c:=⟨jV h.t (kG (by decide) l),jV h.b (kG (by decide) l)⟩
noncomputable def plP(c e:Int×Int):Int×Int:=(c.1*e.2+e.1*c.2,c.2*e.2)
noncomputable def tmP(c e:Int×Int):Int×Int:=(c.1*e.1,c.2*e.2)
theorem a8{u v:Int}(h:u.natAbs<=2^x)(k:v.natAbs<=2^y):(u*v).natAbs<=2^(x+y):=by rw[kB,lN];exact lO h k
theorem Nx.plus(h:Nx x c)(k:Nx y e):Nx (x+y+1) (plP c e):=by
 have p2:(2:Nat)^(x+y+1)=2^(x+y)+2^(x+y):=by rw[Nat.pow_succ];lia
 have a1:=a8 h.t k.b;have a2:=a8 k.t h.b;rw[Nat.add_comm y x]at a2;have a3:=a8 h.b k.b;have a4:=Int.natAbs_add_le (c.1*e.2) (e.1*c.2);exact⟨by show(c.1*e.2+e.1*c.2).natAbs<=_;lia,by show(c.2*e.2).natAbs<=_;lia⟩
theorem Nx.times(h:Nx x c)(k:Nx y e):Nx (x+y) (tmP c e):=⟨a8 h.t k.t,a8 h.b k.b⟩
noncomputable def DueIs(H:Hp)(v:V)(c:Int×Int):Prop:=∃t,v=.ref t/\H t=some (.tup [.int c.1,.int c.2])
theorem DueIs.mono(h:DueIs H v c)(s:Same H H'):DueIs H' v c:=by
 obtain⟨t,e,f⟩:=h;exact⟨t,e,s _ _ f⟩
theorem DueIs.keep(h:DueIs H v c)(s:KeepD H H'):DueIs H' v c:=let⟨t,e,f⟩:=h;⟨t,e,s _ _ f (by intro _ z;cases z) (by intro _ _ z;cases z)⟩
inductive IspPlus(vs:List V)(H:Hp)(Q:VK):Prop
 |mk(p q:Addr)(c e:Int×Int)(x y:Nat)(h1:vs=[.ref p,.ref q])(h2:H p=some (.tup [.int c.1,.int c.2]))(h3:H q=some (.tup [.int e.1,.int e.2]))(h4:Nx x c)(h5:Nx y e)(h6:x+y<=1000000)(h7:∀r,H r=none->Q (.ref r) (upd H r (.tup [.int (plP c e).1,.int (plP c e).2]))):IspPlus vs H Q
noncomputable def spPlus(K:W.Frag):Sp:=λvs H Q _=>IspPlus vs H Q
theorem fK(T:TX K mg a):FnB P w K mg base CX0 "_law_plus" 1 ["_law_one","_law_other"] (spPlus K):=by
 refine T.d_law_plus.okA sc_law_plus λf cdv A outer s H vs Q E hr h=>?_;obtain⟨p,q,c,e,x,y,rfl,hp,hq,hc,he,hs,k⟩:=h;refine⟨_,(ah (ax (aU (aa (ao aO (ao cS (al av (pv 0) ab) (al av (pv 1) ab)) (ao cS (al av (pv 1) ab) (al av (pv 0) ab))) (aa (ao cS (al av (pv 0) ab) (al av (pv 1) ab)) ae))))),?_⟩;walk_at"q"
 refine⟨_,rfl,p,_,_,_,rfl,rfl,SqT.of hp,rfl,_,rfl,q,_,_,_,rfl,rfl,SqT.of hq,rfl,_,_,rfl,rfl,eY hc.t he.b hs,?_⟩;refine⟨_,rfl,q,_,_,_,rfl,rfl,SqT.of hq,rfl,_,rfl,p,_,_,_,rfl,rfl,SqT.of hp,rfl,_,_,rfl,rfl,eY he.t hc.b (by lia),_,_,rfl,rfl,?_⟩;refine⟨_,rfl,p,_,_,_,rfl,rfl,SqT.of hp,rfl,_,rfl,q,_,_,_,rfl,rfl,SqT.of hq,rfl,_,_,rfl,rfl,eY hc.b he.b hs,zL2,λr nr=>k r nr⟩
inductive IspTimes(vs:List V)(H:Hp)(Q:VK):Prop
 |mk(p q:Addr)(c e:Int×Int)(x y:Nat)(h1:vs=[.ref p,.ref q])(h2:H p=some (.tup [.int c.1,.int c.2]))(h3:H q=some (.tup [.int e.1,.int e.2]))(h4:Nx x c)(h5:Nx y e)(h6:x+y<=1000000)(h7:∀r,H r=none->Q (.ref r) (upd H r (.tup [.int (tmP c e).1,.int (tmP c e).2]))):IspTimes vs H Q
noncomputable def spTimes(K:W.Frag):Sp:=λvs H Q _=>IspTimes vs H Q
theorem dQ(T:TX K mg a):FnB P w K mg base CX0 "_law_times" 1 ["_law_one","_law_other"] (spTimes K):=by
 refine T.d_law_times.okA sc_law_times λf cdv A outer s H vs Q E hr h=>?_;obtain⟨p,q,c,e,x,y,rfl,hp,hq,hc,he,hs,k⟩:=h;refine⟨_,(ah (ax (aU (aa (ao cS (al av (pv 0) ab) (al av (pv 1) ab)) (aa (ao cS (al av (pv 0) ab) (al av (pv 1) ab)) ae))))),?_⟩;walk_at"q"
 refine⟨_,rfl,p,_,_,_,rfl,rfl,SqT.of hp,rfl,_,rfl,q,_,_,_,rfl,rfl,SqT.of hq,rfl,_,_,rfl,rfl,eY hc.t he.t hs,?_⟩;refine⟨_,rfl,p,_,_,_,rfl,rfl,SqT.of hp,rfl,_,rfl,q,_,_,_,rfl,rfl,SqT.of hq,rfl,_,_,rfl,rfl,eY hc.b he.b hs,zL2,λr nr=>k r nr⟩
noncomputable def goI(n k:Nat):Nat:=(if k<n then k+1 else k-1)%n
structure BaseR(sp lb:List Str)(n:Nat)(k:Nat)(r:WR):Prop where
 nm:r.nm=lb.getD k ""
 st:r.st=sp.getD (k%n) ""
 go:r.go=sp.getD (goI n k) ""
 gs:G5 r.t r.b
inductive IspWays36(K:W.Frag)(vs:List V)(H:Hp)(Q:VK):Prop
 |mk(l ls ll:Addr)(ns:List Int)(sp lb:List Str)(n:Nat)(h1:vs=[.ref l,.ref ls,.ref ll])(h2:SqL K H l (ns.map V.int))(h3:SqL K H ls (sp.map V.str))(h4:SqL K H ll (lb.map V.str))(h5:Names sp n)(h6:2<=n)(h7:n<=4)(h8:Names lb (2*n+4))(h9:∀d H' rs,H d=none->Same H H'->RowsAt H' d rs->rs.length=2*n->(∀k r,rs[k]?=some r->BaseR sp lb n k r)->Q (.ref d) H'):IspWays36 K vs H Q
noncomputable def spWays36(K:W.Frag):Sp:=λvs H Q _=>IspWays36 K vs H Q
theorem cD{xs:List Str}(h:i<xs.length):xs[i]?=some (xs.getD i ""):=by rw[List.getD_eq_getElem?_getD,jH h];rfl
theorem ok_law_ways(T:TX K mg a):FnB P w K mg base CX0 "_law_ways" 2 ["_law_script","_law_spots","_law_labels"] (spWays36 K):=by
 refine T.d_law_ways.okA sc_law_ways λf cdv A outer s H vs Q E hr h=>?_;obtain⟨l,ls,ll,ns,sp,lb,n,rfl,hS,hL,hB,hN,n2,n5,hM,k⟩:=h
 refine⟨_,(af (aj (i:=3) sc_law_ways.nd (aI a6 (by rfl) T.z_len km (aa (pv 1) ae)))
  (af (aj (i:=4) sc_law_ways.nd bK)
  (af (aQ jR rfl (bO rfl T.z_range (aa (ao bE ab (pv 3)) ae)) (aw (i:=5) sc_law_ways.nd) (af (aj (i:=6) sc_law_ways.nd (ao aL (ao aO (pv 5) ab) (pv 3)))
  (aE (aN (au op_ge (pv 5) (pv 3)) (ah (aj (i:=6) sc_law_ways.nd (ao aL (ao cv (pv 5) ab) (pv 3)))) aA)
  (af (aj (i:=7) sc_law_ways.nd (az (a7 T) hr aq (aa (pv 0) (aa (ao aO ab (pv 5)) ae))))
  (ah (bB (aJ hr) (pv 4) (al aM (pv 2) (pv 5)) (aU (aa (al aM (pv 1) (ao aL (pv 5) (pv 3))) (aa (al aM (pv 1) (pv 6)) (aa (az (ok_law_gain T) hr aq (aa (pv 7) ae)) (aa (ao aL (ao br (pv 7) ab) ab) ae))))) rfl))))))
  (ah (ax (pv 4)))))),?_⟩
 walk_at"q"
 refine⟨_,rfl,ls,_,rfl,.inl hL,?_⟩;rw[jF,hN.len];intro d nd;obtain⟨H1,zq,s1,h1⟩:=uG (o:=.dK []) nd;rw[zq];have np:(0:Int)<n:=by lia
 refine⟨_,rfl,_,_,rfl,rfl,⟨Sm.of_le (n:=10) (by decide) (by decide),Sm.of_le (n:=10) (by lia) (by decide)⟩,_,rfl,by lia,by lia,?_⟩;refine dW (λi σ H3=>i<=2*n/\∃z5 z6 z7 rs,σ=[some (.ref l),some (.ref ls),some (.ref ll),some (.int n),some (.ref d),z5,z6,z7]/\Same H H3/\RowsAt H3 d rs/\rs.length=i/\∀k r,rs[k]?=some r->BaseR sp lb n k r) ⟨jU _,none,none,none,[],rfl,s1,⟨[],h1,rfl,RowAt.nil⟩,rfl,λk r e=>by cases e⟩ ?_ ?_
 ·rintro i σ H3 hi⟨_,z5,z6,z7,rs,rfl,s3,hrs,lrs,good⟩;have hi':i<2*n:=by lia
  rw[Int.zero_add];refine⟨_,rfl,_,_,rfl,rfl,_,rfl,_,_,rfl,rfl,np,?_⟩;refine bM (λσ' H'=>σ'=[some (.ref l),some (.ref ls),some (.ref ll),some (.int n),some (.ref d),some (.int (i:Int)),some (.int (goI n i)),z7]/\H'=H3) ?_ ?_
  ·refine⟨_,rfl,_,rfl,_,_,rfl,rfl,_,rfl,ifB (λhge=>?_) (λhlt=>?_)⟩
   ·have hge:(i:Int)≥n:=hge;refine⟨_,rfl,_,_,rfl,rfl,_,rfl,_,_,rfl,rfl,np,?_,rfl⟩
    have e:((i:Int)-1)%n=(goI n i:Nat):=by
     unfold goI;rw[if_neg (by lia),show(i:Int)-1=((i-1:Nat):Int) by lia];rfl
    rw[<-e];rfl
   ·have hlt:¬(i:Int)≥n:=hlt;refine⟨?_,rfl⟩
    have e:((i:Int)+1)%n=(goI n i:Nat):=by
     unfold goI;rw[if_pos (by lia)];rfl
    rw[<-e];rfl
  rintro zU hzU σ' H'⟨rfl,e⟩;subst hzU;rw[e];clear e H';refine⟨_,rfl,_,rfl,_,_,rfl,rfl,l,ns,_,rfl,s3.seq hS,by lia,by lia,λc=>?_⟩;have gl:goI n i<n:=kL _ (by lia);obtain⟨j1,hj1⟩:∃j:Nat,i%n=j:=⟨_,rfl⟩;have e1:(i:Int)%n=(j1:Int):=by rw[<-hj1];rfl
  have h1n:j1<n:=by rw[<-hj1];exact kL _ (by lia)
  have exs:=cD (xs:=sp) (i:=j1) (by rw[hN.len];exact h1n);have exg:=cD (xs:=sp) (i:=goI n i) (by rw[hN.len];exact gl);have elb:=cD (xs:=lb) (i:=i) (by rw[hM.len];lia);refine⟨_,rfl,_,rfl,_,rfl,_,_,rfl,rfl,np,ls,_,_,.str (sp.getD j1 ""),rfl,rfl,s3.seq hL,?_,_,rfl,_,rfl,ls,_,_,_,rfl,rfl,s3.seq hL,dh exg,_,rfl,c,rfl,λt b g gb ng=>?_⟩
  ·show atI (sp.map V.str) ((i:Int)%n)=some (.str (sp.getD j1 ""));rw[e1];exact dh exs
  obtain⟨H4,zq,s4,hg4⟩:=uG (o:=.tup [.int t,.int b]) ng;rw[zq];have s14:=s3.trans s4;refine⟨_,rfl,_,_,rfl,rfl,⟨by decide,by decide⟩,_,_,rfl,rfl,zI3,zL4,λtp ntp=>?_⟩;obtain⟨H5,zq,s5,htp5⟩:=uG (o:=.tup [.str (sp.getD j1 ""),.str (sp.getD (goI n i) ""),.ref g,.int (c/75%3)]) ntp;rw[zq];obtain⟨kvs,hd3,hk,hv⟩:=hrs.mono (s4.trans s5);have hr5:RowIs H5 (.ref tp) ⟨lb.getD i "",sp.getD j1 "",sp.getD (goI n i) "",t,b,c/75%3⟩:=⟨tp,g,rfl,htp5,s5 _ _ hg4⟩
  have lkv:kvs.length=i:=by
   have:=kA List.length hk
   rw[jF,jF]at this
   lia
  have nk:¬(Sum.inr (lb.getD i ""):Key)∈kvs.map (·.1):=by
   rw[hk];intro z;obtain⟨r,hr,e⟩:=jL.mp z;obtain⟨j,hj⟩:=kh.mp hr;have hj':=(jG.mp hj).1;have e2:lb.getD j ""=lb.getD i "":=by rw[<-(good j r hj).nm];exact ma e
   have e3:=cD (xs:=lb) (i:=j) (by rw[hM.len];lia)
   have:j=i:=(kR (jG.mp e3).1 hM.nd).mp (by rw[e3,e2];exact elb.symm)
   lia
  refine⟨_,rfl,_,rfl,_,rfl,ll,_,_,_,rfl,rfl,(s14.trans s5).seq hB,dh elb,d,_,rfl,DPut.k (k:=Sum.inr (lb.getD i "")) hd3 (ay (by lia)),?_⟩;rw[f9 _ (dZ nk)];refine⟨hi',_,_,_,rs++[⟨lb.getD i "",sp.getD j1 "",sp.getD (goI n i) "",t,b,c/75%3⟩],rfl,aF nd (s14.trans s5),⟨kvs++[(Sum.inr (lb.getD i ""),.ref tp)],ag,?_,?_⟩,by simp[lrs],λk r e=>?_⟩
  ·rw[jM,hk,jM];rfl
  ·rw[jM];exact RowAt.snoc (hv.mono λv x z=>z.put hd3 (by intro _ z;cases z)) (hr5.put hd3 (by intro _ z;cases z))
  ·by_cases hk':k<rs.length
   ·rw[lG hk']at e;exact good k r e
   ·rw[kP (by lia)]at e
    have hz:k-rs.length=0:=by
     have:=(jG.mp e).1
     simp at this
     lia
    have:k=i:=by lia
    subst this;rw[hz]at e
    cases e;exact⟨rfl,by rw[hj1],rfl,gb⟩
 ·rintro σ H3⟨_,z5,z6,z7,rs,rfl,s3,hrs,lrs,good⟩;exact⟨_,rfl,k d H3 rs nd s3 hrs (by lia) good⟩
theorem md2{y n:Int}(h0:0<=y)(h:y<2*n):y%n=y∨y%n=y-n:=by
 by_cases c:y<n
 ·exact .inl (Int.emod_eq_of_lt h0 c)
 ·refine .inr ?_;have e:y=(y-n)+n:=by lia
  rw[e,Int.add_emod_right,Int.emod_eq_of_lt (by lia) (by lia)]
  lia
structure FreeR(sp lb:List Str)(k:Nat)(r:WR):Prop where
 nm:r.nm=lb.getD k ""
 st:r.st∈sp
 go:r.go∈sp
 ne:r.st≠r.go
 gs:G5 r.t r.b
inductive IspFree(K:W.Frag)(vs:List V)(H:Hp)(Q:VK):Prop
 |mk(l ls ll:Addr)(ns:List Int)(sp lb:List Str)(n:Nat)(h1:vs=[.ref l,.ref ls,.ref ll])(h2:SqL K H l (ns.map V.int))(h3:SqL K H ls (sp.map V.str))(h4:SqL K H ll (lb.map V.str))(h5:Names sp n)(h6:2<=n)(h7:n<=4)(h8:Names lb (2*n+4))(h9:∀d H' rs,H d=none->Same H H'->RowsAt H' d rs->rs.length<=8->(∀k r,rs[k]?=some r->FreeR sp lb k r)->Q (.ref d) H'):IspFree K vs H Q
noncomputable def spFree(K:W.Frag):Sp:=λvs H Q _=>IspFree K vs H Q
theorem ok_law_free_ways(T:TX K mg a):FnB P w K mg base CX0 "_law_free_ways" 2 ["_law_script","_law_spots","_law_labels"] (spFree K):=by
 refine T.d_law_free_ways.okA sc_law_free_ways λf cdv A outer s H vs Q E hr h=>?_;obtain⟨l,ls,ll,ns,sp,lb,n,rfl,hS,hL,hB,hN,n2,n5,hM,k⟩:=h
 refine⟨_,(af (aj (i:=3) sc_law_free_ways.nd (aI a6 (by rfl) T.z_len km (aa (pv 1) ae)))
  (af (aj (i:=4) sc_law_free_ways.nd bK)
  (af (aQ jR rfl (bO rfl T.z_range (aa (ao aO ab (ao aL (az (a7 T) hr aq (aa (pv 0) (aa ab ae))) ab)) ae)) (aw (i:=5) sc_law_free_ways.nd) (af (aj (i:=6) sc_law_free_ways.nd (az (a7 T) hr aq (aa (pv 0) (aa (ao aO ab (pv 5)) ae))))
  (af (aj (i:=7) sc_law_free_ways.nd (ao aL (pv 6) (pv 3)))
  (af (aj (i:=6) sc_law_free_ways.nd (ao bC (pv 6) (pv 3)))
  (af (aj (i:=8) sc_law_free_ways.nd (ao aL (ao aO (ao aO (pv 7) ab) (ao aL (pv 6) (ao cv (pv 3) ab))) (pv 3)))
  (af (aj (i:=6) sc_law_free_ways.nd (ao bC (pv 6) (ao cv (pv 3) ab)))
  (ah (bB (aJ hr) (pv 4) (al aM (pv 2) (pv 5)) (aU (aa (al aM (pv 1) (pv 7)) (aa (al aM (pv 1) (pv 8)) (aa (aU (aa (ao aO ab (ao aL (pv 6) ab)) (aa (ao aO ab (ao aL (ao br (pv 6) ab) ab)) ae))) (aa (ao aL (ao br (pv 6) ab) ab) ae))))) rfl))))))))
  (ah (ax (pv 4)))))),?_⟩
 walk_at"q"
 refine⟨_,rfl,ls,_,rfl,.inl hL,?_⟩;rw[jF,hN.len];intro d nd;obtain⟨H1,zq,s1,h1⟩:=uG (o:=.dK []) nd;rw[zq];have np:(0:Int)<n:=by lia
 have np1:(0:Int)<(n:Int)-1:=by lia
 refine⟨_,rfl,l,ns,4,rfl,s1.seq hS,by decide,by decide,λc0=>?_⟩;obtain⟨m0,m1⟩:=aW c0 (show(0:Int)<8 by decide);obtain⟨m,em⟩:∃m:Nat,1+c0%8=(m:Int):=⟨(1+c0%8).toNat,by lia⟩;have m8:m<=8:=by lia
 refine⟨_,_,rfl,rfl,zI8,_,_,rfl,rfl,(m:Int),by rw[<-em],by lia,by lia,?_⟩;refine dW (λi σ H3=>i<=m/\∃z5 z6 z7 z8 rs,σ=[some (.ref l),some (.ref ls),some (.ref ll),some (.int n),some (.ref d),z5,z6,z7,z8]/\Same H H3/\RowsAt H3 d rs/\rs.length=i/\∀k r,rs[k]?=some r->FreeR sp lb k r) ⟨jU _,none,none,none,none,[],rfl,s1,⟨[],h1,rfl,RowAt.nil⟩,rfl,λk r e=>by cases e⟩ ?_ ?_
 ·rintro i σ H3 hi⟨_,z5,z6,z7,z8,rs,rfl,s3,hrs,lrs,good⟩;have hi':i<m:=by lia
  rw[Int.zero_add];refine⟨_,rfl,_,rfl,_,_,rfl,rfl,l,ns,_,rfl,s3.seq hS,by lia,by lia,λc=>?_⟩;have cn:CDivB 0 (n:Int):=⟨by lia,Sm.of_le (n:=10) (by lia) (by decide)⟩;have cn1:CDivB 0 ((n:Int)-1):=⟨by lia,Sm.of_le (n:=10) (by lia) (by decide)⟩;refine⟨_,rfl,_,rfl,_,_,rfl,rfl,np,?_⟩;refine⟨_,rfl,_,rfl,_,_,rfl,rfl,⟨cn.1,cn.2⟩,?_⟩;refine⟨_,rfl,_,_,rfl,rfl,_,rfl,_,rfl,_,_,rfl,rfl,_,_,rfl,rfl,np1,_,_,rfl,rfl,_,rfl,_,_,rfl,rfl,np,?_⟩;refine⟨_,rfl,_,rfl,_,_,rfl,rfl,_,_,rfl,rfl,⟨cn1.1,cn1.2⟩,?_⟩;dsimp only;obtain⟨a1,a2⟩:=aW c np;obtain⟨b1,b2⟩:=aW (c.fdiv n) np1;have dm:=md2 (y:=c%n+1+c.fdiv n%((n:Int)-1)) (n:=n) (by lia) (by lia);obtain⟨j1,e1⟩:∃j1:Nat,c%(n:Int)=j1:=⟨(c%(n:Int)).toNat,by lia⟩;obtain⟨g1',g2'⟩:=aW (c%n+1+c.fdiv n%((n:Int)-1)) np;obtain⟨j2,e2⟩:∃j2:Nat,(c%n+1+c.fdiv n%((n:Int)-1))%n=j2:=⟨((c%n+1+c.fdiv n%((n:Int)-1))%n).toNat,by lia⟩;have h1n:j1<n:=by lia
  have h2n:j2<n:=by lia
  have h12:j1≠j2:=by lia
  have exs:=cD (xs:=sp) (i:=j1) (by rw[hN.len];exact h1n);have exg:=cD (xs:=sp) (i:=j2) (by rw[hN.len];exact h2n);have elb:=cD (xs:=lb) (i:=i) (by rw[hM.len];lia);generalize(c.fdiv n).fdiv ((n:Int)-1)=c2;refine⟨_,rfl,_,rfl,ls,_,_,.str (sp.getD j1 ""),rfl,rfl,s3.seq hL,?_,_,rfl,_,rfl,ls,_,_,.str (sp.getD j2 ""),rfl,rfl,s3.seq hL,?_,?_⟩
  ·show atI (sp.map V.str) (c%(n:Int))=some (.str (sp.getD j1 ""));rw[e1];exact dh exs
  ·show atI (sp.map V.str) ((c%n+1+c.fdiv n%((n:Int)-1))%n)=some (.str (sp.getD j2 ""));rw[e2];exact dh exg
  obtain⟨t0,t1⟩:=aW c2 (show(0:Int)<5 by decide);obtain⟨u0,u1⟩:=aW (c2/5) (show(0:Int)<5 by decide);refine⟨_,rfl,_,_,rfl,rfl,zI5,_,_,rfl,rfl,_,rfl,_,_,rfl,rfl,⟨by decide,by decide⟩,_,_,rfl,rfl,zI5,_,_,rfl,rfl,zL2,λg ng=>?_⟩;have gb:G5 (1+c2%5) (1+c2/5%5):=⟨by lia,by lia,by lia,by lia⟩;generalize 1+c2%5=t at gb ng⊢;generalize 1+c2/5%5=b at gb ng⊢;obtain⟨H4,zq,s4,hg4⟩:=uG (o:=.tup [.int t,.int b]) ng;rw[zq];have s14:=s3.trans s4;refine⟨_,rfl,_,_,rfl,rfl,⟨by decide,by decide⟩,_,_,rfl,rfl,zI3,zL4,λtp ntp=>?_⟩;obtain⟨H5,zq,s5,htp5⟩:=uG (o:=.tup [.str (sp.getD j1 ""),.str (sp.getD j2 ""),.ref g,.int (c2/25%3)]) ntp;rw[zq];obtain⟨kvs,hd3,hk,hv⟩:=hrs.mono (s4.trans s5);have hr5:RowIs H5 (.ref tp) ⟨lb.getD i "",sp.getD j1 "",sp.getD j2 "",t,b,c2/25%3⟩:=⟨tp,g,rfl,htp5,s5 _ _ hg4⟩
  have lkv:kvs.length=i:=by
   have:=kA List.length hk
   rw[jF,jF]at this
   lia
  have nk:¬(Sum.inr (lb.getD i ""):Key)∈kvs.map (·.1):=by
   rw[hk];intro z;obtain⟨r,hr,e⟩:=jL.mp z;obtain⟨j,hj⟩:=kh.mp hr;have hj':=(jG.mp hj).1;have e2:lb.getD j ""=lb.getD i "":=by rw[<-(good j r hj).nm];exact ma e
   have e3:=cD (xs:=lb) (i:=j) (by rw[hM.len];lia)
   have:j=i:=(kR (jG.mp e3).1 hM.nd).mp (by rw[e3,e2];exact elb.symm)
   lia
  refine⟨_,rfl,_,rfl,_,rfl,ll,_,_,_,rfl,rfl,(s14.trans s5).seq hB,dh elb,d,_,rfl,DPut.k (k:=Sum.inr (lb.getD i "")) hd3 (ay (by lia)),?_⟩;rw[f9 _ (dZ nk)];refine⟨hi',_,_,_,_,rs++[⟨lb.getD i "",sp.getD j1 "",sp.getD j2 "",t,b,c2/25%3⟩],rfl,aF nd (s14.trans s5),⟨kvs++[(Sum.inr (lb.getD i ""),.ref tp)],ag,?_,?_⟩,by simp[lrs],λk r e=>?_⟩
  ·rw[jM,hk,jM];rfl
  ·rw[jM];exact RowAt.snoc (hv.mono λv x z=>z.put hd3 (by intro _ z;cases z)) (hr5.put hd3 (by intro _ z;cases z))
  ·by_cases hk':k<rs.length
   ·rw[lG hk']at e;exact good k r e
   ·rw[kP (by lia)]at e
    have hz:k-rs.length=0:=by
     have:=(jG.mp e).1
     simp at this
     lia
    have:k=i:=by lia
    subst this;rw[hz]at e
    cases e;exact⟨rfl,jI exs,jI exg,λz=>h12 ((kR (jG.mp exs).1 hN.nd).mp (by rw[exs,exg];exact kA some z)),gb⟩
 ·rintro σ H3⟨_,z5,z6,z7,z8,rs,rfl,s3,hrs,lrs,good⟩;exact⟨_,rfl,k d H3 rs nd s3 hrs (by lia) good⟩
theorem RowsAt.get(h:RowsAt H d rs)(nd:(rs.map (·.nm)).Nodup)(hr:r∈rs):∃v,DGet H d (.str r.nm) (some v)/\RowIs H v r:=by
 obtain⟨kvs,h1,h2,h3⟩:=h;obtain⟨i,hi⟩:=kh.mp hr;obtain⟨v,hv,hw⟩:=h3.get' hi;rw[jK]at hv
 cases e:kvs[i]? with
 |none=>rw[e]at hv;cases hv
 |some kv=>
  rw[e]at hv;have e2:kv.2=v:=kg hv
  have e1:kv.1=Sum.inr r.nm:=by
   have g:=kA (λl=>l[i]?) h2;simp only[jK,e,hi,kU]at g;exact kg g
  refine⟨v,.inl ⟨kvs,Sum.inr r.nm,.inl h1,rfl,?_⟩,hw⟩;rw[<-e1,<-e2];exact(val_at (keys_nd h2 nd) e).symm
noncomputable def gp:List WR->Int×Int:=λws=>ws.foldl (λp r=>(p.1*r.t,p.2*r.b)) (1,1)
theorem ir(ws:List WR)(r:WR):gp (ws++[r])=((gp ws).1*r.t,(gp ws).2*r.b):=by unfold gp;rw[lL];rfl
theorem cF{x:Int}(h0:1<=x)(h:x<=2^n):x.natAbs<=2^n:=by
 have e:((2^n:Nat):Int)=(2:Int)^n:=by rw[Int.natCast_pow];rfl
 lia
structure GpB(n i:Nat)(c:Int×Int):Prop where
 t0:1<=c.1
 t1:c.1.natAbs<=2^(i*n)
 b0:1<=c.2
 b1:c.2.natAbs<=2^(i*n)
theorem GpB.step(h:GpB n i c)(t0:1<=t)(t1:t.natAbs<=2^n)(b0:1<=b)(b1:b.natAbs<=2^n):GpB n (i+1) (c.1*t,c.2*b):=by
 refine⟨?_,?_,?_,?_⟩
 ·have:=lF (show 0<c.1 by have:=h.t0;lia) (show 0<t by lia)
  show 1<=c.1*t
  lia
 ·rw[Nat.add_mul,Nat.one_mul,lN];show(c.1*t).natAbs<=_;rw[kB];exact lO h.t1 t1
 ·have:=lF (show 0<c.2 by have:=h.b0;lia) (show 0<b by lia)
  show 1<=c.2*b
  lia
 ·rw[Nat.add_mul,Nat.one_mul,lN];show(c.2*b).natAbs<=_;rw[kB];exact lO h.b1 b1
theorem gp_bd{ws:List WR}(h:∀r∈ws,1<=r.t/\r.t<=2^n/\1<=r.b/\r.b<=2^n):∀i,i<=ws.length->GpB n i (gp (ws.take i))
 |0,_=>by
  rw[lP];exact⟨by decide,by rw[Nat.zero_mul];decide,by decide,by rw[Nat.zero_mul];decide⟩
 |i+1,hi=>by
  have ih:=gp_bd h i (by omega);have e:=jH (l:=ws) (i:=i) (by omega);have hm:=jI e;generalize ws[i]'_=r at e hm;obtain⟨q1,q2,q3,q4⟩:=h r hm;rw[jS,e,j0,ir];exact ih.step q1 (cF q1 q2) q3 (cF q3 q4)
theorem GB.all{r:WR}(h:GB r.t r.b):1<=r.t/\r.t<=2^40/\1<=r.b/\r.b<=2^40:=⟨h.t0,Int.le_trans h.t1 (by decide),h.b0,Int.le_trans h.b1 (by decide)⟩
inductive IspProd(K:W.Frag)(vs:List V)(H:Hp)(Q:VK):Prop
 |mk(d wl:Addr)(rs ws:List WR)(h1:vs=[.ref d,.ref wl])(h2:RowsAt H d rs)(h3:(rs.map (·.nm)).Nodup)(h4:SqL K H wl (ws.map λr=>.str r.nm))(h5:(∀r∈ws,r∈rs))(h6:(∀r∈ws,GB r.t r.b))(h7:ws.length<=12)(h8:∀g H',Same H H'->H' g=some (.tup [.int (gp ws).1,.int (gp ws).2])->Q (.ref g) H'):IspProd K vs H Q
noncomputable def spProd(K:W.Frag):Sp:=λvs H Q _=>IspProd K vs H Q
theorem eT(T:TX K mg a):FnB P w K mg base CX0 "_law_product" 2 ["_law_ways_here","_law_walk"] (spProd K):=by
 refine T.d_law_product.okA sc_law_product λf cdv A outer s H vs Q E hr h=>?_;obtain⟨d,wl,rs,ws,rfl,hR,nd,hw,sub,gbs,lw,k⟩:=h
 refine⟨_,(af (aj (i:=2) sc_law_product.nd (aU (aa ab (aa ab ae))))
  (af (aQ jR rfl (a5 (pv 1)) (aw (i:=3) sc_law_product.nd) (ah (aj (i:=2) sc_law_product.nd (az (dQ T) hr aq (aa (pv 2) (aa (al av (aV (aJ hr) (pv 0) (pv 3) (λ_ _=>rfl)) ab) ae))))))
  (ah (ax (pv 2))))),?_⟩
 walk_at"q"
 refine⟨zL2,λg0 n0=>?_⟩;obtain⟨H0,zq,s0,h0⟩:=uG (o:=.tup [.int 1,.int 1]) n0;rw[zq];have bd:=gp_bd (n:=40) (ws:=ws) λr hr=>(gbs r hr).all;refine⟨_,rfl,wl,rfl,⟨_,s0.seq hw⟩,ba (K:=K) (a:=wl) (xs:=ws.map λr=>V.str r.nm) (λi σ H2=>i<=ws.length/\∃z g,σ=[some (.ref d),some (.ref wl),some (.ref g),z]/\Same H H2/\H2 g=some (.tup [.int (gp (ws.take i)).1,.int (gp (ws.take i)).2])) ⟨jU _,none,g0,rfl,s0,h0⟩ ((by rintro i σ H2 _⟨_,_,_,_,s2,_⟩;exact s2.seq hw)) ?_ ?_⟩
 ·rintro i t σ H2 ht⟨_,z,g,rfl,s2,hg⟩;rw[jK]at ht;obtain⟨y,ey,rfl⟩:=lH.mp ht;have hi:=(jG.mp ey).1;have my:=jI ey;have b:=bd i (by lia);obtain⟨q1,q2,q3,q4⟩:=(gbs y my).all;obtain⟨v,gv,p1,gy,rfl,x1,x2⟩:=(hR.mono s2).get nd (sub y my);refine⟨_,rfl,_,rfl,_,rfl,d,_,rfl,gv,p1,_,_,_,rfl,rfl,SqT.of x1,rfl,g,gy,gp (ws.take i),(y.t,y.b),i*40,40,rfl,hg,x2,⟨b.t1,b.b1⟩,⟨cF q1 q2,cF q3 q4⟩,by lia,λr' nr'=>?_⟩;refine⟨hi,_,r',rfl,s2.trans (aC nr'),?_⟩;rw[ag,jS,ey,j0,ir];rfl
 ·rintro σ H2⟨_,z,g,rfl,s2,hg⟩;rw[jF,jQ]at hg;exact⟨_,rfl,k g H2 s2 hg⟩
noncomputable def KpD(d:Addr)(H H':Hp):Prop:=∀b o,b≠d->H b=some o->H' b=some o
theorem KpD.of(s:Same H H'):KpD d H H':=λb o _ e=>s b o e
theorem KpD.trans(h:KpD d H H')(g:KpD d H' H''):KpD d H H'':=λb o n e=>g b o n (h b o n e)
theorem KpD.put:KpD d H (upd H d o):=λb u n e=>by rw[ai n];exact e
theorem KpD.same(h:KpD d H H')(n:H0 d=none)(s:Same H0 H):Same H0 H':=λb o e=>h b o (λz=>by rw[z,n]at e;cases e) (s b o e)
theorem KpD.fresh(h:KpD d H H')(e:H' d≠none)(np:H' p=.none):H p=.none:=by
 cases u:H p with
 |none=>rfl
 |some o=>exact absurd np (if z:p=d then z▸e else by rw[h p o z u];intro z;cases z)
theorem RowsAt.ne0(h:RowsAt H d rs):H d≠none:=by
 obtain⟨_,e,_⟩:=h;rw[e];intro z
 cases z
noncomputable def aK(as:Nat->WR)(n b m:Nat):List WR:=(List.range m).map λk=>as ((b+k)%n)
noncomputable def bS(as:Nat->WR)(n b m:Nat)(nm:Str)(g:Int×Int)(kd:Int):WR:=⟨nm,(as ((b+(m-1))%n)).go,(as (b%n)).st,g.1*(gp (aK as n b m)).2,g.2*(gp (aK as n b m)).1,kd⟩
theorem i9(as:Nat->WR)(n b m:Nat):aK as n b (m+1)=aK as n b m++[as ((b+m)%n)]:=by unfold aK;rw[List.range_succ,jM];rfl
theorem jE{u:V}(h:xs.getLast?=some u):atI xs (-1)=some u:=by
 obtain⟨ys,rfl⟩:=List.getLast?_eq_some_iff.mp h;exact atI_last _ _
inductive IspRing(vs:List V)(H:Hp)(Q:VK):Prop
 |mk(d la tg:Addr)(rs:List WR)(as:Nat->WR)(n b m:Nat)(bg kd:Int)(nm:Str)(g:Int×Int)(h1:vs=[.ref d,.ref la,.int bg,.int ((m+1:Nat):Int),.str nm,.ref tg,.int kd])(h2:RowsAt H d rs)(h3:(rs.map (·.nm)).Nodup)(h4:rs.length<=20)(h5:H la=some (.lst ((List.range n).map λj=>V.str (as j).nm)))(h6:(∀j,j<n->as j∈rs/\G5 (as j).t (as j).b))(h7:2<=n)(h8:n<=5)(h9:1<=m)(h10:m<n)(h11:bg%n=b)(h12:nm∉rs.map (·.nm))(h13:H tg=some (.tup [.int g.1,.int g.2]))(h14:FB g.1 g.2)(h15:∀l H',H l=none->KpD d H H'->RowsAt H' d (rs++[bS as n b m nm g kd])->H' l=some (.lst ((aK as n b m++[bS as n b m nm g kd]).map λr=>V.str r.nm))->Q (.ref l) H'):IspRing vs H Q
noncomputable def spRing(K:W.Frag):Sp:=λvs H Q _=>IspRing vs H Q
theorem idx_mod{bg:Int}{n b k:Nat}(n0:0<n)(h:bg%n=b):(bg+k)%n=(((b+k)%n:Nat):Int):=by
 rw[Int.natCast_emod,Int.natCast_add,<-h,Int.emod_add_emod]
theorem gs200(h:G5 t b):1<=t/\t<=2^3/\1<=b/\b<=2^3:=⟨h.t0,Int.le_trans h.t1 (by decide),h.b0,Int.le_trans h.b1 (by decide)⟩
theorem ok_law_ring(T:TX K mg a):FnB P w K mg base CX0 "_law_ring" 2 ["_law_ways_here","_law_around","_law_begin","_law_size","_law_name","_law_gain_here","_law_kind"] (spRing K):=by
 refine T.d_law_ring.okA sc_law_ring λf cdv A outer s H vs Q E hr h=>?_;obtain⟨d,la,tg,rs,as,n,b,m,bg,kd,nm,g,rfl,hR,nd,lrs,hla,sub,n2,n5,m1,mn,hb,nnm,htg,fb,k⟩:=h
 refine⟨_,(aE (dA (i:=7) (xs:=["_law_k"]) (rest:=["_law_around","_law_begin"]) sc_law_ring.nd rfl rfl rfl (bO rfl T.z_range (aa (ao cv (pv 3) ab) ae))
  (λpins fp C' s' H'=>(aw (i:=0) (show(["_law_k","_law_around","_law_begin"]:List Str).Nodup by decide+kernel))) (λpins fp C' s' H'=>cA)
  (λpins fp C' s' H'=>(al (r:=rIxL K) aM (pv 1) (ao aL (ao aO (pv 2) (pv 0)) (aI (r:=rLen K) a6 (by rfl) T.z_len km (aa (pv 1) ae)))))
  (Clos.many (ys:=["_law_begin","_law_around"]) rfl ⟨rfl,rfl,True.intro⟩ rfl (by decide+kernel)) (Reads.many (ys:=["_law_around","_law_begin"]) (js:=[1,2]) ⟨⟨rfl,rfl,rfl⟩,⟨rfl,rfl,rfl⟩,True.intro⟩))
  (af (aj (i:=8) sc_law_ring.nd (aU (aa ab (aa ab ae))))
  (aE (aQ jR rfl (a5 (pv 7)) (aw (i:=9) sc_law_ring.nd) (ah (aj (i:=8) sc_law_ring.nd (az (dQ T) hr aq (aa (pv 8) (aa (al av (aV (aJ hr) (pv 0) (pv 9) (λ_ _=>rfl)) ab) ae))))))
  (aE (aj (i:=5) sc_law_ring.nd (aU (aa (ao bE (al av (pv 5) ab) (al av (pv 8) ab)) (aa (ao bE (al av (pv 5) ab) (al av (pv 8) ab)) ae))))
  (af (bB (aJ hr) (pv 0) (pv 4) (aU (aa (al av (aV (aJ hr) (pv 0) (al aM (pv 7) (iN fR ab)) (λ_ _=>rfl)) ab) (aa (al av (aV (aJ hr) (pv 0) (al aM (pv 7) ab) (λ_ _=>rfl)) ab) (aa (pv 5) (aa (pv 6) ae))))) rfl)
  (ah (ax (ao op_cat (pv 7) (aR (aa (pv 4) ae)))))))))),?_⟩
 walk_at"q"
 have hb0:(0:Int)<=bg%n:=Int.emod_nonneg _ (by lia)
 have hin:∀r∈aK as n b m,r∈rs/\G5 r.t r.b:=λr hr=>by
  obtain⟨k,_,rfl⟩:=jL.mp hr;exact sub _ (kL _ (by lia))
 have lbw:(aK as n b m).length=m:=by unfold aK;rw[jF,lM]
 refine bM (λσ' H'=>∃q,σ'=[some (.ref d),some (.ref la),some (.int bg),some (.int ((m+1:Nat):Int)),some (.str nm),some (.ref tg),some (.int kd),some (.ref q),none,none]/\Same H H'/\H' q=some (.lst ((aK as n b m).map λr=>V.str r.nm))) ?_ ?_
 ·refine⟨_,rfl,_,_,rfl,rfl,_,rfl,by lia,by lia,λq nq=>?_⟩;refine cQ (λi H2=>i<=m/\Same H H2/\H2 q=some (.lst ((aK as n b i).map λr=>V.str r.nm))) ⟨jU _,aC nq,ag⟩ ?_ ?_
  ·rintro i H2 hi⟨_,s2,h2⟩;have hi':i<m:=by lia
   refine g1 ⟨⟨[_],rfl,rfl⟩,yes ?_⟩;have hla2:=SqL.of (K:=K) (s2 _ _ hla);have hlt:(b+i)%n<n:=kL _ (by lia);refine⟨_,rfl,_,rfl,_,rfl,_,_,rfl,rfl,_,rfl,la,_,rfl,.inl hla2,_,_,rfl,rfl,?_,la,_,_,.str (as ((b+i)%n)).nm,rfl,rfl,hla2,?_,?_⟩
   ·show(0:Int)<(((List.range n).map λj=>V.str (as j).nm).length:Int);rw[jF,lM]
    lia
   ·show atI ((List.range n).map λj=>V.str (as j).nm) ((bg+(0+(i:Int)))%(((List.range n).map λj=>V.str (as j).nm).length:Int))=_;rw[jF,lM,Int.zero_add,idx_mod (by lia) hb];exact atI_nat (by rw[jK,List.getElem?_range hlt];rfl)
   ·refine⟨_,h2,ay (by rw[jF];unfold aK;rw[jF,lM];lia),dD hi ⟨hi',aF nq s2,?_⟩⟩;rw[ag,i9,jM];rfl
  ·rintro H2⟨_,s2,h2⟩;refine⟨q,rfl,s2,?_⟩;rw[show(((m+1:Nat):Int)-1).toNat=m by lia]at h2;exact h2
 rintro zU hzU σ' H1⟨q,rfl,s1,hq⟩;subst hzU;generalize hk9:iy _ _=k9
 revert k9
 refine fP λk9 hk9=>?_;refine⟨zL2,λg0 n0=>?_⟩;obtain⟨H2,zq,s2,h0⟩:=uG (o:=.tup [.int 1,.int 1]) n0;rw[zq];have bd:=gp_bd (n:=3) (ws:=aK as n b m) λr hr=>gs200 (hin r hr).2;subst hk9;refine bM (λσ' H'=>∃g1 z9,σ'=[some (.ref d),some (.ref la),some (.int bg),some (.int ((m+1:Nat):Int)),some (.str nm),some (.ref tg),some (.int kd),some (.ref q),some (.ref g1),z9]/\Same H1 H'/\H' g1=some (.tup [.int (gp (aK as n b m)).1,.int (gp (aK as n b m)).2])) ?_ ?_
 ·refine⟨_,rfl,q,rfl,⟨_,SqL.of (s2 _ _ hq)⟩,ba (K:=K) (a:=q) (xs:=(aK as n b m).map λr=>V.str r.nm) (λi σ H'=>i<=m/\∃z g1,σ=[some (.ref d),some (.ref la),some (.int bg),some (.int ((m+1:Nat):Int)),some (.str nm),some (.ref tg),some (.int kd),some (.ref q),some (.ref g1),z]/\Same H1 H'/\H' g1=some (.tup [.int (gp ((aK as n b m).take i)).1,.int (gp ((aK as n b m).take i)).2])) ⟨jU _,none,g0,rfl,s2,h0⟩ ((by rintro i σ H' _⟨_,_,_,_,s',_⟩;exact SqL.of (s' _ _ hq))) ?_ ?_⟩
  ·rintro i t σ H3 ht⟨_,z,g1,rfl,s3,hg⟩;rw[jK]at ht;obtain⟨y,ey,rfl⟩:=lH.mp ht;have hi:=(jG.mp ey).1;obtain⟨my,gy'⟩:=hin y (jI ey);have b1:=bd i (by lia);obtain⟨q1,q2,q3,q4⟩:=gs200 gy';obtain⟨v,gv,p1,gy,rfl,x1,x2⟩:=(hR.mono (s1.trans s3)).get nd my;refine⟨_,rfl,_,rfl,_,rfl,d,_,rfl,gv,p1,_,_,_,rfl,rfl,SqT.of x1,rfl,g1,gy,gp ((aK as n b m).take i),(y.t,y.b),i*3,3,rfl,hg,x2,⟨b1.t1,b1.b1⟩,⟨cF q1 q2,cF q3 q4⟩,by lia,λr' nr'=>?_⟩;refine⟨by lia,_,r',rfl,s3.trans (aC nr'),?_⟩;rw[ag,jS,ey,j0,ir];rfl
  ·rintro σ H3⟨_,z,g1,rfl,s3,hg⟩;rw[jF,jQ]at hg;exact⟨g1,z,rfl,s3,hg⟩
 clear s2 h0;rintro zU hzU σ' H3⟨g1,z9,rfl,s3,hg1⟩;have bm:=bd m (by lia);subst hzU;generalize hk9:iy _ _=k9
 revert k9
 refine fP λk9 hk9=>?_;rw[show(aK as n b m).take m=aK as n b m from List.take_of_length_le (by lia)]at bm;have hq3:=s3 _ _ hq;have s13:=s1.trans s3;generalize hpr:gp (aK as n b m)=pr at hg1 bm;subst hk9;refine bM (λσ' H'=>∃tg2,σ'=[some (.ref d),some (.ref la),some (.int bg),some (.int ((m+1:Nat):Int)),some (.str nm),some (.ref tg2),some (.int kd),some (.ref q),some (.ref g1),z9]/\Same H3 H'/\H' tg2=some (.tup [.int (g.1*pr.2),.int (g.2*pr.1)])) ?_ ?_
 ·have st:=SqT.of (K:=K) (s13 _ _ htg);have sp:=SqT.of (K:=K) hg1;have m20:m*3<9000:=by lia
  have f1:=cF (n:=3) fb.t0 fb.t1;have f2:=cF (n:=3) fb.b0 fb.b1;refine⟨_,rfl,tg,_,_,_,rfl,rfl,st,rfl,_,rfl,g1,_,_,_,rfl,rfl,sp,rfl,_,_,rfl,rfl,⟨Sm.of_le f1 (by decide),Sm.of_le bm.b1 m20⟩,_,rfl,tg,_,_,_,rfl,rfl,st,rfl,_,rfl,g1,_,_,_,rfl,rfl,sp,rfl,_,_,rfl,rfl,⟨Sm.of_le f2 (by decide),Sm.of_le bm.t1 m20⟩,zL2,λt2 nt2=>?_⟩;exact⟨t2,rfl,aC nt2,ag⟩
 rintro zU hzU σ' H4⟨tg2,rfl,s4,htg2⟩;have s14:=s13.trans s4;have hq4:=s4 _ _ hq3;subst hzU
 have eL:(aK as n b m).getLast?=some (as ((b+(m-1))%n)):=by
  rw[show m=(m-1)+1 by lia,i9,List.getLast?_append];rfl
 have e0:(aK as n b m)[0]?=some (as (b%n)):=by
  unfold aK;rw[jK,List.getElem?_range (by lia)];rfl
 have mL:=(sub ((b+(m-1))%n) (kL _ (by lia))).1;have m0:=(sub (b%n) (kL _ (by lia))).1;have atL:atI ((aK as n b m).map λr=>V.str r.nm) (-1)=some (.str (as ((b+(m-1))%n)).nm):=jE (by rw[List.getLast?_map,eL];rfl);have at0:atI ((aK as n b m).map λr=>V.str r.nm) 0=some (.str (as (b%n)).nm):=atI_nat (j:=0) (by rw[jK,e0];rfl);obtain⟨v1,gv1,p1,gy1,rfl,x1,x2⟩:=(hR.mono s14).get nd mL;obtain⟨v2,gv2,p2,gy2,rfl,y1,y2⟩:=(hR.mono s14).get nd m0;refine⟨_,rfl,_,rfl,_,rfl,q,_,_,_,rfl,rfl,SqL.of hq4,atL,d,_,rfl,gv1,p1,_,_,_,rfl,rfl,SqT.of x1,rfl,_,rfl,_,rfl,q,_,_,_,rfl,rfl,SqL.of hq4,at0,d,_,rfl,gv2,p2,_,_,_,rfl,rfl,SqT.of y1,rfl,_,rfl,_,rfl,zL4,λtp ntp=>?_⟩;have eW:bS as n b m nm g kd=⟨nm,(as ((b+(m-1))%n)).go,(as (b%n)).st,g.1*pr.2,g.2*pr.1,kd⟩:=by unfold bS;rw[hpr]
 generalize bS as n b m nm g kd=W at eW k;obtain⟨H5,zq,s5,htp5⟩:=uG (o:=.tup [.str (as ((b+(m-1))%n)).go,.str (as (b%n)).st,.ref tg2,.int kd]) ntp;rw[zq];obtain⟨kvs,hd5,hk,hv⟩:=hR.mono (s14.trans s5);have hr5:RowIs H5 (.ref tp) W:=by rw[eW];exact⟨tp,tg2,rfl,htp5,s5 _ _ htg2⟩
 have wn:W.nm=nm:=by rw[eW]
 have lkv:kvs.length=rs.length:=by
  have:=kA List.length hk
  rw[jF,jF]at this
  lia
 have nk:¬(Sum.inr nm:Key)∈kvs.map (·.1):=by
  rw[hk];intro z;obtain⟨r,hr,e⟩:=jL.mp z;exact nnm (jL.mpr ⟨r,hr,ma e⟩)
 refine⟨_,rfl,_,rfl,d,_,rfl,DPut.k (k:=Sum.inr nm) hd5 (ay (by lia)),?_⟩;rw[f9 _ (dZ nk)]
 have hR6:RowsAt (upd H5 d (.dK (kvs++[(Sum.inr nm,.ref tp)]))) d (rs++[W]):=by
  refine⟨kvs++[(Sum.inr nm,.ref tp)],ag,?_,?_⟩
  ·rw[jM,hk,jM,<-wn];rfl
  ·rw[jM];exact RowAt.snoc (hv.mono λv x z=>z.put hd5 (by intro _ z;cases z)) (hr5.put hd5 (by intro _ z;cases z))
 have hq6:upd H5 d (.dK (kvs++[(Sum.inr nm,.ref tp)])) q=some (.lst ((aK as n b m).map λr=>V.str r.nm)):=by
  rw[ai (aG (s5 _ _ hq4) hd5 (by intro z;cases z))];exact s5 _ _ hq4
 have kp:KpD d H (upd H5 d (.dK (kvs++[(Sum.inr nm,.ref tp)]))):=(KpD.of (s14.trans s5)).trans KpD.put;generalize upd H5 d (.dK (kvs++[(Sum.inr nm,.ref tp)]))=H6 at hR6 hq6 kp⊢;refine⟨_,rfl,_,rfl,zL1,λx nx=>?_⟩;obtain⟨H7,zq,s7,h7⟩:=uG (o:=.lst [.str nm]) nx;rw[zq];refine⟨q,x,_,_,rfl,rfl,s7 _ _ hq6,h7,ay (by rw[jF,lbw];lia),λp np=>?_⟩;have s8:=s7.trans (aC (o:=.lst (((aK as n b m).map λr=>V.str r.nm)++[.str nm])) np)
 have n6:H6 p=none:=by
  cases e:H6 p with
  |none=>rfl
  |some o=>rw[s7 _ _ e]at np;cases np
 refine k p _ (kp.fresh hR6.ne0 n6) (kp.trans (KpD.of s8)) (hR6.mono s8) ?_;rw[ag,jM,<-wn];rfl
theorem cut_take(j:Nat):cutV xs none (some (j:Int))=xs.take j:=by
 unfold cutV;rw[HT.sIx_none,HT.sIx_nat,List.drop_zero,Nat.sub_zero];by_cases h:j<=xs.length
 ·rw[Nat.min_eq_left h]
 ·rw[Nat.min_eq_right (by lia),jQ,List.take_of_length_le (by lia)]
theorem take_names{lb:List Str}{as:Nat->WR}(h:n<=lb.length)(e:∀j,j<n->(as j).nm=lb.getD j ""):(lb.map V.str).take n=(List.range n).map λj=>V.str (as j).nm:=by
 apply List.ext_getElem?
 intro j;rw[lI,jK,jK];by_cases hj:j<n
 ·rw[if_pos hj,List.getElem?_range hj,cD (by lia)];show some (V.str (lb.getD j ""))=some (V.str (as j).nm);rw[e j hj]
 ·rw[if_neg hj,List.getElem?_eq_none (by rw[lM];lia)];rfl
noncomputable def gu(as:Nat->WR)(n:Nat):Nat->WR:=λk=>as (n+(n-k)%n)
noncomputable def hasH(k:Int):Prop:=k=0∨k=2∨k=3∨k=6∨k=7
instance(k:Int):Decidable (hasH k):=by unfold hasH;infer_instance
theorem inH(h0:0<=k)(h8:k<8):inV (.int k) [.int 0,.int 2,.int 3,.int 6,.int 7]=decide (hasH k):=by
 have:k=0∨k=1∨k=2∨k=3∨k=4∨k=5∨k=6∨k=7:=by lia
 rcases this with rfl|rfl|rfl|rfl|rfl|rfl|rfl|rfl<;>decide+kernel
structure CB(c:Int×Int):Prop where
 t0:1<=c.1
 t1:c.1<=12
 b0:1<=c.2
 b1:c.2<=6
noncomputable def szI(n:Nat)(c0:Int):Int:=if c0%8%2=1 then 1+c0/40%((n:Int)-1)else 0
theorem szI_bd(h:2<=n):0<=szI n c0/\szI n c0<n:=by
 unfold szI;obtain⟨a1,a2⟩:=aW (c0/40) (show(0:Int)<(n:Int)-1 by omega)
 split<;>omega
noncomputable def StrR(as:Nat->WR)(n:Nat)(nm1 nm2:Str)(c0:Int)(W1 W2:WR)(hd pa ta:List WR)(c:Int×Int):Prop:=∃(st sz m1 m2 b0:Nat)(g1 g2:Int×Int)(k1 k2:Int),st<n/\szI n c0=sz/\sz<n/\1<=m1/\m1<n/\1<=m2/\m2<n/\(0-(st:Int)-sz)%n=b0/\FB g1.1 g1.2/\(c0%8=0->g1.1=g1.2)/\(c0%8≠0->g1.2<g1.1)/\FB g2.1 g2.2/\g2.1<g2.2/\W1=bS as n st m1 nm1 g1 k1/\W2=bS (gu as n) n b0 m2 nm2 g2 k2/\hd=(if hasH (c0%8) then aK as n st m1++[W1]else[])/\pa=aK as n st sz/\ta=(if c0%8<4 then[]else aK (gu as n) n b0 m2++[W2])/\CB c
inductive IspStrand(vs:List V)(H:Hp)(Q:VK):Prop
 |mk(d ll lc:Addr)(rs:List WR)(lb:List Str)(as:Nat->WR)(n wh:Nat)(c0 c1 c2 c3:Int)(h1:vs=[.ref d,.ref ll,.int n,.int wh,.ref lc])(h2:RowsAt H d rs)(h3:(rs.map (·.nm)).Nodup)(h4:rs.length<=18)(h5:H ll=some (.lst (lb.map V.str)))(h6:lb.length<=100)(h7:2*n+2*wh+2<=lb.length)(h8:(∀j,j<2*n->as j∈rs/\(as j).nm=lb.getD j ""/\G5 (as j).t (as j).b))(h9:2<=n)(h10:n<=5)(h11:wh<=20)(h12:lb.Nodup)(h13:(∀r∈rs,r.nm≠lb.getD (2*n+2*wh) ""/\r.nm≠lb.getD (2*n+2*wh+1) ""))(h14:H lc=some (.lst [.int c0,.int c1,.int c2,.int c3]))(h15:∀(t lh lp lt g:Addr)(H':Hp)(W1 W2:WR)(hd pa ta:List WR)(c:Int×Int),H lh=none->H lp=none->H lt=none->KpD d H H'->RowsAt H' d (rs++[W1]++[W2])->H' t=some (.tup [.ref lh,.ref lp,.ref lt,.ref g])->H' lh=some (.lst (hd.map λr=>V.str r.nm))->H' lp=some (.lst (pa.map λr=>V.str r.nm))->H' lt=some (.lst (ta.map λr=>V.str r.nm))->H' g=some (.tup [.int c.1,.int c.2])->StrR as n (lb.getD (2*n+2*wh) "") (lb.getD (2*n+2*wh+1) "") c0 W1 W2 hd pa ta c->Q (.ref t) H'):IspStrand vs H Q
noncomputable def spStrand(K:W.Frag):Sp:=λvs H Q _=>IspStrand vs H Q
theorem ok_law_strand(T:TX K mg a):FnB P w K mg base CX0 "_law_strand" 3 ["_law_ways_here","_law_labels","_law_count","_law_which","_law_cells"] (spStrand K):=by
 refine T.d_law_strand.okA sc_law_strand λf cdv A outer s H vs Q E hr h=>?_;obtain⟨d,ll,lc,rs,lb,as,n,wh,c0,c1,c2,c3,rfl,hR,nd,lrs,hll,llb,lwh,all,n2,n5,w20,ndl,fresh,hc,k⟩:=h
 refine⟨_,(af (aj (i:=5) sc_law_strand.nd (ao aL (al aM (pv 4) ab) ab))
  (af (aj (i:=6) sc_law_strand.nd (ao aL (ao br (al aM (pv 4) ab) ab) (pv 2)))
  (af (aj (i:=7) sc_law_strand.nd ab)
  (aE (aN (au cT (ao aL (pv 5) ab) ab) (ah (aj (i:=7) sc_law_strand.nd (ao aO ab (ao aL (ao br (al aM (pv 4) ab) ab) (ao cv (pv 2) ab))))) aA)
  (af (aj (i:=8) sc_law_strand.nd (dC ig (pv 1) fG (fF (pv 2))))
  (aE (dA (i:=9) (xs:=["_law_k"]) (rest:=["_law_count","_law_labels"]) sc_law_strand.nd rfl rfl rfl (bO rfl T.z_range (aa (pv 2) ae))
  (λpins fp C' s' H'=>(aw (i:=0) (show(["_law_k","_law_count","_law_labels"]:List Str).Nodup by decide+kernel))) (λpins fp C' s' H'=>cA)
  (λpins fp C' s' H'=>(al (r:=rIxL K) aM (pv 2) (ao aO (pv 1) (ao aL (ao cv ab (pv 0)) (pv 1)))))
  (Clos.many (ys:=["_law_labels","_law_count"]) rfl ⟨rfl,rfl,True.intro⟩ rfl (by decide+kernel)) (Reads.many (ys:=["_law_count","_law_labels"]) (js:=[2,1]) ⟨⟨rfl,rfl,rfl⟩,⟨rfl,rfl,rfl⟩,True.intro⟩))
  (af (aj (i:=10) sc_law_strand.nd (az (iQ T) hr aq (aa (al aM (pv 4) ab) (aa (eQ cT (pv 5) ab) ae))))
  (af (aj (i:=11) sc_law_strand.nd (az (iQ T) hr aq (aa (al aM (pv 4) ab) (aa gj ae))))
  (af (aj (i:=11) sc_law_strand.nd (aU (aa (al av (pv 11) ab) (aa (al av (pv 11) ab) ae))))
  (af (aj (i:=12) sc_law_strand.nd (ao aO ab (ao aL (ao br (al aM (pv 4) ab) ab) (ao cv (pv 2) ab))))
  (af (aj (i:=13) sc_law_strand.nd (az (ok_law_ring T) hr aq (aa (pv 0) (aa (pv 8) (aa (pv 6) (aa (pv 12) (aa (al aM (pv 1) (ao aO (ao bE ab (pv 2)) (ao bE ab (pv 3)))) (aa (pv 10) (aa (ao aL (al aM (pv 4) ab) ab) ae)))))))))
  (af (aj (i:=12) sc_law_strand.nd (ao aO ab (ao aL (ao br (al aM (pv 4) ab) ab) (ao cv (pv 2) ab))))
  (af (aj (i:=14) sc_law_strand.nd (al aM (pv 1) (ao aO (ao aO (ao bE ab (pv 2)) (ao bE ab (pv 3))) ab)))
  (af (aj (i:=15) sc_law_strand.nd (az (ok_law_ring T) hr aq (aa (pv 0) (aa (pv 9) (aa (ao cv (ao cv ab (pv 6)) (pv 7)) (aa (pv 12) (aa (pv 14) (aa (pv 11) (aa (ao aL (al aM (pv 4) ab) ab) ae)))))))))
  (aE (dA (i:=16) (xs:=["_law_k"]) (rest:=["_law_ahead","_law_count","_law_start"]) sc_law_strand.nd rfl rfl rfl (bO rfl T.z_range (aa (pv 7) ae))
  (λpins fp C' s' H'=>(aw (i:=0) (show(["_law_k","_law_ahead","_law_count","_law_start"]:List Str).Nodup by decide+kernel))) (λpins fp C' s' H'=>cA)
  (λpins fp C' s' H'=>(al (r:=rIxL K) aM (pv 1) (ao aL (ao aO (pv 3) (pv 0)) (pv 2))))
  (Clos.many (ys:=["_law_start","_law_count","_law_ahead"]) rfl ⟨rfl,rfl,rfl,True.intro⟩ rfl (by decide+kernel)) (Reads.many (ys:=["_law_ahead","_law_count","_law_start"]) (js:=[8,2,6]) ⟨⟨rfl,rfl,rfl⟩,⟨rfl,rfl,rfl⟩,⟨rfl,rfl,rfl⟩,True.intro⟩))
  (aE (aN (pt_cmpR op_notIn_seq (pv 5) (aR (aa ab (aa ab (aa ab (aa ab (aa ab ae)))))) (by with_unfolding_all rfl)) (ah (aj (i:=13) sc_law_strand.nd (aR ae))) aA)
  (aE (aN (au gQ (pv 5) ab) (ah (aj (i:=15) sc_law_strand.nd (aR ae))) aA)
  (ah (ax (aU (aa (pv 13) (aa (pv 16) (aa (pv 15) (aa (aU (aa (ao aO ab (ao aL (al aM (pv 4) ab) ab)) (aa (ao aO ab (ao aL (ao br (al aM (pv 4) ab) ab) ab)) ae))) ae)))))))))))))))))))))))),?_⟩
 walk_at"q"
 generalize hk9:iy _ _=k9
 revert k9
 refine fP λk9 hk9=>?_;have sc:=SqL.of (K:=K) hc;have n0:(0:Int)<n:=by lia
 have n1:(0:Int)<(n:Int)-1:=by lia
 obtain⟨z0,z1⟩:=szI_bd (c0:=c0) n2;obtain⟨st0,st1⟩:=aW (c0/8) n0;refine⟨_,rfl,lc,_,_,_,rfl,rfl,sc,rfl,_,_,rfl,rfl,zI8,?_⟩;refine⟨_,rfl,lc,_,_,_,rfl,rfl,sc,rfl,_,_,rfl,rfl,⟨by decide,by decide⟩,_,rfl,_,_,rfl,rfl,n0,?_⟩;subst hk9;refine bM (λσ' H'=>σ'=[some (.ref d),some (.ref ll),some (.int n),some (.int wh),some (.ref lc),some (.int (c0%8)),some (.int (c0/8%n)),some (.int (szI n c0)),none,none,none,none,none,none,none,none,none]/\H'=H) ?_ ?_
 ·refine⟨_,rfl,_,_,rfl,rfl,zI2,rfl,_,rfl,ifV (λe=>?_) (λe=>?_)⟩
  ·refine⟨_,rfl,lc,_,_,_,rfl,rfl,sc,rfl,_,_,rfl,rfl,⟨by decide,by decide⟩,_,rfl,_,_,rfl,rfl,_,_,rfl,rfl,n1,_,_,rfl,rfl,?_,rfl⟩;rw[show szI n c0=1+c0/40%((n:Int)-1) from if_pos e];rfl
  ·refine⟨?_,rfl⟩;rw[show szI n c0=0 from if_neg e];rfl
 rintro zU hzU σ' H0⟨rfl,rfl⟩;subst hzU;generalize hk9:iy _ _=k9
 revert k9
 refine fP λk9 hk9=>?_;refine⟨_,rfl,_,rfl,_,rfl,ll,_,rfl,SqL.of hll,λla na=>?_⟩;rw[cut_take];have s1:=aC (o:=.lst ((lb.map V.str).take n)) na
 have hla:upd H0 la (.lst ((lb.map V.str).take n)) la=some (.lst ((List.range n).map λj=>V.str (as j).nm)):=by
  rw[ag,take_names (by lia) λj hj=>(all j (by lia)).2.1]
 generalize upd H0 la (.lst ((lb.map V.str).take n))=H1 at s1 hla⊢;subst hk9;refine bM (λσ' H'=>∃q,σ'=[some (.ref d),some (.ref ll),some (.int n),some (.int wh),some (.ref lc),some (.int (c0%8)),some (.int (c0/8%n)),some (.int (szI n c0)),some (.ref la),some (.ref q),none,none,none,none,none,none,none]/\Same H1 H'/\H' q=some (.lst ((List.range n).map λj=>V.str (gu as n j).nm))) ?_ ?_
 ·refine⟨_,rfl,_,rfl,by lia,by lia,λq nq=>?_⟩;refine cQ (λi H2=>i<=n/\Same H1 H2/\H2 q=some (.lst ((List.range i).map λj=>V.str (gu as n j).nm))) ⟨jU _,aC nq,ag⟩ ?_ ?_
  ·rintro i H2 hi⟨_,s2,h2⟩;have hi':i<n:=by lia
   refine g1 ⟨⟨[_],rfl,rfl⟩,yes ?_⟩;have hl2:=SqL.of (K:=K) ((s1.trans s2) _ _ hll);have hlt:(n-i)%n<n:=kL _ (by lia)
   have ei:((0:Int)-(0+(i:Int)))%n=(((n-i)%n:Nat):Int):=by
    rw[Int.natCast_emod,show(((n-i:Nat)):Int)=(0-(0+(i:Int)))+n by lia,Int.add_emod_right]
   refine⟨_,rfl,_,rfl,_,rfl,_,_,rfl,rfl,_,rfl,_,_,rfl,rfl,n0,_,_,rfl,rfl,ll,_,_,.str (gu as n i).nm,rfl,rfl,hl2,?_,?_⟩
   ·show atI (lb.map V.str) ((n:Int)+(0-(0+(i:Int)))%n)=_;rw[ei,<-Int.natCast_add];unfold gu;rw[(all (n+(n-i)%n) (by lia)).2.1];exact dh (cD (by lia))
   ·refine⟨_,h2,ay (by rw[jF,lM];lia),dD hi ⟨hi',aF nq s2,?_⟩⟩;rw[ag,List.range_succ,jM];rfl
  ·rintro H2⟨_,s2,h2⟩;exact⟨q,rfl,s2,by simpa using h2⟩
 rintro zU hzU σ' H2⟨lq,rfl,s2,hq⟩;have s12:=s1.trans s2;subst hzU;refine⟨_,rfl,lc,_,_,_,rfl,rfl,SqL.of (s12 _ _ hc),rfl,_,rfl,rfl,c1,_,rfl,λt1 b1 p1 fb1 eq1 gt1 np1=>?_⟩;obtain⟨H3,zq,s3,h3⟩:=uG (o:=.tup [.int t1,.int b1]) np1;rw[zq];have s13:=s12.trans s3;refine⟨_,rfl,lc,_,_,_,rfl,rfl,SqL.of (s13 _ _ hc),rfl,c2,false,rfl,λt2 b2 p2 fb2 _ gt2 np2=>?_⟩;obtain⟨H4,zq,s4,h4⟩:=uG (o:=.tup [.int t2,.int b2]) np2;rw[zq];refine⟨_,rfl,p2,_,_,_,rfl,rfl,SqT.of h4,rfl,_,rfl,p2,_,_,_,rfl,rfl,SqT.of h4,rfl,zL2,λp3 np3=>?_⟩;obtain⟨H5,zq,s5,h5⟩:=uG (o:=.tup [.int b2,.int t2]) np3;rw[zq];have s15:=s13.trans (s4.trans s5);have h35:=(s4.trans s5) _ _ h3;have hla5:=((s2.trans s3).trans (s4.trans s5)) _ _ hla;have hq5:=(s3.trans (s4.trans s5)) _ _ hq;have hc5:=SqL.of (K:=K) (s15 _ _ hc);have hl5:=SqL.of (K:=K) (s15 _ _ hll);have hR5:=hR.mono s15;obtain⟨v0,v1⟩:=aW (c1/225) n1;obtain⟨w0,w1⟩:=aW (c2/225) n1;obtain⟨m1,em1⟩:∃m1:Nat,2+c1/225%((n:Int)-1)=((m1+1:Nat):Int):=⟨(1+c1/225%((n:Int)-1)).toNat,by lia⟩;obtain⟨m2,em2⟩:∃m2:Nat,2+c2/225%((n:Int)-1)=((m2+1:Nat):Int):=⟨(1+c2/225%((n:Int)-1)).toNat,by lia⟩;obtain⟨st,est⟩:∃st:Nat,c0/8%n=(st:Int):=⟨(c0/8%n).toNat,by lia⟩;have S2:Sm 2:=Sm.of_le (n:=10) (by decide) (by decide);have Sn:Sm n:=Sm.of_le (n:=10) (by show(n:Int).natAbs<=1024;lia) (by decide);have Sw:Sm wh:=Sm.of_le (n:=10) (by show(wh:Int).natAbs<=1024;lia) (by decide)
 have x1:atI (lb.map V.str) (2*(n:Int)+2*wh)=some (.str (lb.getD (2*n+2*wh) "")):=by
  rw[show 2*(n:Int)+2*wh=((2*n+2*wh:Nat):Int) by lia];exact dh (cD (by lia))
 have x2:atI (lb.map V.str) (2*(n:Int)+2*wh+1)=some (.str (lb.getD (2*n+2*wh+1) "")):=by
  rw[show 2*(n:Int)+2*wh+1=((2*n+2*wh+1:Nat):Int) by lia];exact dh (cD (by lia))
 refine⟨_,rfl,lc,_,_,_,rfl,rfl,hc5,rfl,_,_,rfl,rfl,⟨by decide,by decide⟩,_,rfl,_,_,rfl,rfl,_,_,rfl,rfl,n1,_,_,rfl,rfl,?_⟩;refine⟨_,rfl,_,rfl,_,rfl,_,rfl,_,rfl,_,rfl,_,_,rfl,rfl,⟨S2,Sn⟩,_,rfl,_,_,rfl,rfl,⟨S2,Sw⟩,_,_,rfl,rfl,ll,_,_,_,rfl,rfl,hl5,x1,_,rfl,_,rfl,lc,_,_,_,rfl,rfl,hc5,rfl,_,_,rfl,rfl,zI3,?_⟩;refine⟨d,la,p1,rs,as,n,st,m1,c0/8%n,c1%3,_,(t1,b1),by rw[<-em1];rfl,hR5,nd,by lia,hla5,λj hj=>⟨(all j (by lia)).1,(all j (by lia)).2.2⟩,n2,n5,by lia,by lia,by rw[Int.emod_emod_of_dvd _ (Int.dvd_refl _)];exact est,λz=>by obtain⟨r,hr,e⟩:=jL.mp z;exact(fresh r hr).1 e,h35,fb1,λlh H6 nlh k6 hR6 hh6=>?_⟩;obtain⟨kv5,hd5,_⟩:=id hR5;have kl:∀{b:Addr}{xs:List V},H5 b=some (.lst xs)->H6 b=some (.lst xs):=λe=>k6 _ _ (aG e hd5 (by intro z;cases z)) e;have kt:∀{b:Addr}{xs:List V},H5 b=some (.tup xs)->H6 b=some (.tup xs):=λe=>k6 _ _ (aG e hd5 (by intro z;cases z)) e;have hla6:=kl hla5;have hq6:=kl hq5;have hc6':=kl (s15 _ _ hc);have hc6:=SqL.of (K:=K) hc6';have hll6':=kl (s15 _ _ hll);have hl6:=SqL.of (K:=K) hll6';have h56:=kt h5;have K6:KpD d H0 H6:=(KpD.of s15).trans k6;have hW1:(bS as n st m1 (lb.getD (2*n+2*wh) "") (t1,b1) (c1%3)).nm=lb.getD (2*n+2*wh) "":=rfl;generalize hW:bS as n st m1 (lb.getD (2*n+2*wh) "") (t1,b1) (c1%3)=W1 at hR6 hh6 hW1;obtain⟨b0,eb0⟩:∃b0:Nat,(0-c0/8%(n:Int)-szI n c0)%n=(b0:Int):=⟨((0-c0/8%(n:Int)-szI n c0)%n).toNat,by have:=Int.emod_nonneg (0-c0/8%(n:Int)-szI n c0) (show(n:Int)≠0 by lia);lia⟩
 have nn:lb.getD (2*n+2*wh) ""≠lb.getD (2*n+2*wh+1) "":=λe=>by
  have g1:=cD (xs:=lb) (i:=2*n+2*wh) (by lia);have g2:=cD (xs:=lb) (i:=2*n+2*wh+1) (by lia)
  have:2*n+2*wh=2*n+2*wh+1:=(kR (jG.mp g1).1 ndl).mp (by rw[g1,g2,e])
  lia
 have nd6:((rs++[W1]).map (·.nm)).Nodup:=by
  rw[jM,ky];refine⟨nd,by simp,λx hx y hy e=>?_⟩;have ey:y=W1.nm:=by simpa using hy
  obtain⟨r,hr,er⟩:=jL.mp hx;exact(fresh r hr).1 (by rw[er,e,ey,hW1])
 refine⟨_,rfl,lc,_,_,_,rfl,rfl,hc6,rfl,_,_,rfl,rfl,⟨by decide,by decide⟩,_,rfl,_,_,rfl,rfl,_,_,rfl,rfl,n1,_,_,rfl,rfl,?_⟩;refine⟨_,rfl,_,rfl,_,_,rfl,rfl,⟨S2,Sn⟩,_,rfl,_,_,rfl,rfl,⟨S2,Sw⟩,_,_,rfl,rfl,_,_,rfl,rfl,ll,_,_,_,rfl,rfl,hl6,x2,?_⟩;refine⟨_,rfl,_,rfl,_,rfl,_,_,rfl,rfl,_,rfl,_,_,rfl,rfl,_,rfl,_,rfl,_,rfl,_,rfl,lc,_,_,_,rfl,rfl,hc6,rfl,_,_,rfl,rfl,zI3,?_⟩;refine⟨d,lq,p3,rs++[W1],gu as n,n,b0,m2,0-c0/8%(n:Int)-szI n c0,c2%3,_,(b2,t2),by rw[<-em2];rfl,hR6,nd6,by rw[jO];show rs.length+1<=20;lia,hq6,λj hj=>?_,n2,n5,by lia,by lia,eb0,λz=>?_,h56,⟨fb2.b0,fb2.b1,fb2.t0,fb2.t1⟩,λlt H7 nlt k7 hR7 hh7=>?_⟩
 ·have hlt:(n-j)%n<n:=kL _ (by lia)
  have:=all (n+(n-j)%n) (by lia)
  exact⟨jX _ this.1,this.2.2⟩
 ·obtain⟨r,hr,e⟩:=jL.mp z;rcases jP.mp hr with hr|hr
  ·exact(fresh r hr).2 e
  ·have:r=W1:=by simpa using hr
   rw[this,hW1]at e;exact nn e
 obtain⟨kv6,hd6,_⟩:=id hR6;have hd6n:H6 d≠none:=by rw[hd6];intro z;cases z
 have kl7:∀{b:Addr}{xs:List V},H6 b=some (.lst xs)->H7 b=some (.lst xs):=λe=>k7 _ _ (aG e hd6 (by intro z;cases z)) e;have hla7:=kl7 hla6;have hc7':=kl7 hc6';have hc7:=SqL.of (K:=K) hc7';have hh67:=kl7 hh6;have K7:KpD d H0 H7:=K6.trans k7;clear hh6 hR6 hla6 hc6 hc6' hl6 hll6' kl kt kl7 k6 k7;obtain⟨sz,esz⟩:∃sz:Nat,szI n c0=(sz:Int):=⟨(szI n c0).toNat,by lia⟩;refine bM (λσ' H'=>∃q z12 z14,σ'=[some (.ref d),some (.ref ll),some (.int n),some (.int wh),some (.ref lc),some (.int (c0%8)),some (.int (c0/8%n)),some (.int (szI n c0)),some (.ref la),some (.ref lq),some (.ref p1),some (.ref p3),z12,some (.ref lh),z14,some (.ref lt),some (.ref q)]/\H7 q=none/\Same H7 H'/\H' q=some (.lst ((aK as n st sz).map λr=>V.str r.nm))) ?_ ?_
 ·refine⟨_,rfl,_,rfl,by lia,by lia,λq nq=>?_⟩;refine cQ (λi H2=>i<=sz/\Same H7 H2/\H2 q=some (.lst ((aK as n st i).map λr=>V.str r.nm))) ⟨jU _,aC nq,ag⟩ ?_ ?_
  ·rintro i H2 hi⟨_,s2,h2⟩;have hi':i<sz:=by lia
   refine g1 ⟨⟨[_],rfl,rfl⟩,yes ?_⟩;have hla2:=SqL.of (K:=K) (s2 _ _ hla7);have hlt:(st+i)%n<n:=kL _ (by lia);refine⟨_,rfl,_,rfl,_,rfl,_,_,rfl,rfl,_,rfl,_,_,rfl,rfl,n0,la,_,_,.str (as ((st+i)%n)).nm,rfl,rfl,hla2,?_,?_⟩
   ·show atI ((List.range n).map λj=>V.str (as j).nm) ((c0/8%(n:Int)+(0+(i:Int)))%n)=_;rw[Int.zero_add,idx_mod (b:=st) (by lia) (by rw[est];exact Int.emod_eq_of_lt (by lia) (by lia))];exact atI_nat (by rw[jK,List.getElem?_range hlt];rfl)
   ·refine⟨_,h2,ay (by rw[jF];unfold aK;rw[jF,lM];lia),dD hi ⟨hi',aF nq s2,?_⟩⟩;rw[ag,i9,jM];rfl
  ·rintro H2⟨_,s2,h2⟩;refine⟨q,_,_,rfl,nq,s2,?_⟩;rw[show(szI n c0).toNat=sz by lia]at h2;exact h2
 rintro zU hzU σ' H8⟨lp,z12,z14,rfl,nlp,s8,hlp⟩;have fr:∀{Ha:Hp}{p:Addr},Same H8 Ha->Ha p=none->H0 p=none:=λ{Ha p}s e=>KpD.fresh ((K7.trans (KpD.of s8)).trans (KpD.of s)) (by obtain⟨kv,hd,_⟩:=hR7.mono (s8.trans s);rw[hd];intro z;cases z) e;have hh8:=s8 _ _ hh67;have ht8:=s8 _ _ hh7;have hc8:=s8 _ _ hc7';have hR8:=hR7.mono s8;have K8:=K7.trans (KpD.of s8);obtain⟨kd0,kd8⟩:=aW c0 (show(0:Int)<8 by decide);subst hzU;refine bM (λσ' H'=>∃l,σ'=[some (.ref d),some (.ref ll),some (.int n),some (.int wh),some (.ref lc),some (.int (c0%8)),some (.int (c0/8%n)),some (.int (szI n c0)),some (.ref la),some (.ref lq),some (.ref p1),some (.ref p3),z12,some (.ref l),z14,some (.ref lt),some (.ref lp)]/\H0 l=none/\Same H8 H'/\H' l=some (.lst ((if hasH (c0%8) then aK as n st m1++[W1]else[]).map λr=>V.str r.nm))) ?_ ?_
 ·refine⟨_,rfl,zL5,λx nx=>?_⟩;obtain⟨H9,zq,sx,hx⟩:=uG (o:=.lst [.int 0,.int 2,.int 3,.int 6,.int 7]) nx;rw[zq];refine⟨x,_,rfl,.inl (SqL.of hx),rfl,rfl,?_⟩;have e2:(if true=true then !inV (V.int (c0%8)) [.int 0,.int 2,.int 3,.int 6,.int 7]else inV (V.int (c0%8)) [.int 0,.int 2,.int 3,.int 6,.int 7])=!decide (hasH (c0%8)):=by rw[inH kd0 kd8];rfl
  rw[e2];by_cases hk:hasH (c0%8)
  ·rw[j6 hk];exact⟨_,rfl,iteF ⟨lh,rfl,s15.free nlh,sx,by rw[if_pos hk];exact sx _ _ hh8⟩⟩
  ·rw[jY hk];exact⟨_,rfl,iteT ⟨zL0,λl nl=>⟨l,rfl,fr sx nl,sx.trans (aC nl),by rw[if_neg hk];exact ag⟩⟩⟩
 rintro zU hzU σ' H9⟨lh',rfl,nlh',s9,hh9⟩;subst hzU;refine bM (λσ' H'=>∃l,σ'=[some (.ref d),some (.ref ll),some (.int n),some (.int wh),some (.ref lc),some (.int (c0%8)),some (.int (c0/8%n)),some (.int (szI n c0)),some (.ref la),some (.ref lq),some (.ref p1),some (.ref p3),z12,some (.ref lh'),z14,some (.ref l),some (.ref lp)]/\H0 l=none/\Same H9 H'/\H' l=some (.lst ((if c0%8<4 then[]else aK (gu as n) n b0 m2++[bS (gu as n) n b0 m2 (lb.getD (2*n+2*wh+1) "") (b2,t2) (c2%3)]).map λr=>V.str r.nm))) ?_ ?_
 ·refine⟨_,rfl,_,_,rfl,rfl,_,rfl,?_⟩;by_cases hk:c0%8<4
  ·rw[j6 hk];exact iteT ⟨zL0,λl nl=>⟨l,rfl,fr s9 nl,aC nl,by rw[if_pos hk];exact ag⟩⟩
  ·rw[jY hk];exact iteF ⟨lt,rfl,K6.fresh hd6n nlt,λb o e=>e,by rw[if_neg hk];exact s9 _ _ ht8⟩
 rintro zU hzU σ' H10⟨lt',rfl,nlt',s10,ht10⟩;have hc10:=SqL.of (K:=K) ((s9.trans s10) _ _ hc8);obtain⟨q1,q2⟩:=aW c3 (show(0:Int)<12 by decide);obtain⟨q3,q4⟩:=aW (c3/12) (show(0:Int)<6 by decide);subst hzU;refine⟨_,rfl,_,rfl,_,rfl,_,rfl,lc,_,_,_,rfl,rfl,hc10,rfl,_,_,rfl,rfl,zI12,_,_,rfl,rfl,_,rfl,lc,_,_,_,rfl,rfl,hc10,rfl,_,_,rfl,rfl,⟨by decide,by decide⟩,_,_,rfl,rfl,zI6,_,_,rfl,rfl,zL2,λg ng=>?_⟩;obtain⟨H11,zq,s11,hg⟩:=uG (o:=.tup [.int (1+c3%12),.int (1+c3/12%6)]) ng;rw[zq];have cb:CB (1+c3%12,1+c3/12%6):=⟨by show 1<=1+c3%12;lia,by show 1+c3%12<=12;lia,by show 1<=1+c3/12%6;lia,by show 1+c3/12%6<=6;lia⟩;refine⟨zL4,λt nt=>?_⟩;have sB:=s11.trans (aC (o:=.tup [.ref lh',.ref lp,.ref lt',.ref g]) nt);have sC:=s10.trans sB;have sD:=s9.trans sC;refine k t lh' lp lt' g _ W1 _ _ _ _ (1+c3%12,1+c3/12%6) nlh' (K7.fresh (by obtain⟨kv,hd,_⟩:=id hR7;rw[hd];intro z;cases z) nlp) nlt' (K8.trans (KpD.of sD)) (hR8.mono sD) ag (sC _ _ hh9) (sD _ _ hlp) (sB _ _ ht10) (aC nt _ _ hg) ⟨st,sz,m1,m2,b0,(t1,b1),(b2,t2),c1%3,c2%3,by lia,esz,by lia,by lia,by lia,by lia,by lia,by rw[<-est,<-esz];exact eb0,fb1,λe=>eq1 (by rw[e];rfl),λe=>gt1 (by rw[dec_int];exact beq_false_of_ne e),⟨fb2.b0,fb2.b1,fb2.t0,fb2.t1⟩,gt2 rfl,hW.symm,rfl,rfl,rfl,rfl,cb⟩
theorem gp_ring(as:Nat->WR)(n b m:Nat)(nm:Str)(g:Int×Int)(kd:Int):gp (aK as n b m++[bS as n b m nm g kd])=((gp (aK as n b m)).1*(g.1*(gp (aK as n b m)).2),(gp (aK as n b m)).2*(g.2*(gp (aK as n b m)).1)):=ir _ _
theorem ring_cmp{p:Int×Int}{g:Int×Int}(p1:1<=p.1)(p2:1<=p.2):(p.1*(g.1*p.2)=p.2*(g.2*p.1)↔g.1=g.2)/\(p.1*(g.1*p.2)<p.2*(g.2*p.1)↔g.1<g.2):=by
 have e1:p.1*(g.1*p.2)=(p.1*p.2)*g.1:=by rw[kN g.1,lS]
 have e2:p.2*(g.2*p.1)=(p.1*p.2)*g.2:=by rw[kN g.2,<-lS,kN p.2]
 have q:0<p.1*p.2:=lF (by lia) (by lia);rw[e1,e2];exact⟨⟨λh=>Int.eq_of_mul_eq_mul_left (by lia) h,λh=>by rw[h]⟩,⟨λh=>Int.lt_of_mul_lt_mul_left h (by lia),λh=>Int.mul_lt_mul_of_pos_left h q⟩⟩
structure Rnd(P:Nat->Str)(n:Nat)(ws:Nat->WR)(m:Nat):Prop where
 inj:∀i j,i<n->j<n->P i=P j->i=j
 st:∀k,k<m->(ws k).st=P k
 go:∀k,k<m->(ws k).go=P (k+1)
theorem mod2(h:x<2*n):x%n=if x<n then x else x-n:=by
 split
 ·exact Nat.mod_eq_of_lt ‹_›
 ·rw[Nat.mod_eq_sub_mod (by lia),Nat.mod_eq_of_lt (by lia)]
theorem e7{sp:List Str}(nd:sp.Nodup)(hi:i<sp.length)(hj:j<sp.length)(e:sp.getD i ""=sp.getD j ""):i=j:=by
 have g1:=cD (xs:=sp) (i:=i) hi;have g2:=cD (xs:=sp) (i:=j) hj;exact(kR hi nd).mp (by rw[g1,g2,e])
structure BaseW(sp:List Str)(n:Nat)(as:Nat->WR):Prop where
 nd:sp.Nodup
 len:sp.length=n
 st:∀j,j<2*n->(as j).st=sp.getD (j%n) ""
 go:∀j,j<2*n->(as j).go=sp.getD (goI n j) ""
noncomputable def pA(sp:List Str)(n st k:Nat):Str:=sp.getD ((st+k)%n) ""
noncomputable def pB(sp:List Str)(n b k:Nat):Str:=sp.getD ((n-(b+k)%n)%n) ""
theorem BaseW.ahead{n st m:Nat}(h:BaseW sp n as)(n2:2<=n)(hs:st<n)(mn:m<n):Rnd (pA sp n st) n (λk=>as ((st+k)%n)) m:=by
 have l:=h.len;refine⟨λi j hi hj e=>?_,λk hk=>?_,λk hk=>?_⟩
 ·have:=e7 h.nd (by rw[l];exact kL _ (by lia)) (by rw[l];exact kL _ (by lia)) e
  rw[mod2 (by lia),mod2 (x:=st+j) (by lia)]at this
  split at this<;>split at this<;>lia
 ·have q:(st+k)%n<n:=kL _ (by lia);rw[h.st _ (by lia),Nat.mod_mod];rfl
 ·have q:(st+k)%n<n:=kL _ (by lia);rw[h.go _ (by lia)];show _=sp.getD ((st+(k+1))%n) ""
  congr 1
  unfold goI;rw[if_pos q,Nat.mod_add_mod];rfl
theorem neg_mod{n y:Nat}(hy:y<n):(n-y)%n=if y=0 then 0 else n-y:=by
 split
 ·rename_i h;rw[h,Nat.sub_zero,Nat.mod_self]
 ·exact Nat.mod_eq_of_lt (by omega)
theorem prev_mod{n y:Nat}(hy:y<n)(n2:2<=n):(n+(n-y)%n-1)%n=(n-(y+1)%n)%n:=by
 by_cases c:y=0
 ·subst c;rw[Nat.sub_zero,Nat.mod_self,Nat.add_zero,Nat.zero_add,Nat.mod_eq_of_lt (show 1<n by omega)]
 ·rw[Nat.mod_eq_of_lt (show n-y<n by omega)];by_cases d:y+1=n
  ·rw[d,Nat.mod_self,Nat.sub_zero,show n+(n-y)-1=n by omega]
  ·rw[Nat.mod_eq_of_lt (show y+1<n by omega),show n+(n-y)-1=n+(n-(y+1))by omega,Nat.add_mod_left]
theorem sum_inj{n b i j:Nat}(hb:b<n)(hi:i<n)(hj:j<n)(e:(b+i)%n=(b+j)%n):i=j:=by
 rw[mod2 (by omega),mod2 (x:=b+j) (by omega)]at e
 split at e<;>split at e<;>omega
theorem BaseW.behind{sp:List Str}{n b m:Nat}{as:Nat->WR}(h:BaseW sp n as)(n2:2<=n)(hs:b<n)(mn:m<n):Rnd (pB sp n b) n (λk=>gu as n ((b+k)%n)) m:=by
 have l:=h.len;refine⟨λi j hi hj e=>?_,λk hk=>?_,λk hk=>?_⟩
 ·have e:=e7 h.nd (by rw[l];exact kL _ (by lia)) (by rw[l];exact kL _ (by lia)) e;have q1:(b+i)%n<n:=kL _ (by lia);have q2:(b+j)%n<n:=kL _ (by lia);refine sum_inj hs hi hj ?_;rw[neg_mod q1,neg_mod q2]at e;clear hi hj hs mn n2;generalize(b+i)%n=x at q1 e⊢;generalize(b+j)%n=y at q2 e⊢
  split at e<;>split at e<;>lia
 ·have q:(n-(b+k)%n)%n<n:=kL _ (by lia);show(as (n+(n-(b+k)%n)%n)).st=_;rw[h.st _ (by lia),Nat.add_mod_left,Nat.mod_mod];rfl
 ·have q:(n-(b+k)%n)%n<n:=kL _ (by lia);show(as (n+(n-(b+k)%n)%n)).go=_;rw[h.go _ (by lia)];show _=sp.getD ((n-(b+(k+1))%n)%n) ""
  congr 1
  unfold goI;rw[if_neg (by lia),<-Nat.add_assoc,<-Nat.mod_add_mod (b+k) n 1];exact prev_mod (kL _ (by lia)) n2
theorem Rnd.nms{P:Nat->Str}(h:Rnd P n ws m)(mn:m<n)(u:∀i j,i<m->j<m->(ws i).nm=(ws j).nm->ws i=ws j):(((List.range m).map ws).map (·.nm)).Nodup:=by
 rw[kO];refine List.pairwise_map.mpr (List.Pairwise.imp_of_mem (λ{i j}hi hj ne e=>ne ?_) List.nodup_range);have hi:=List.mem_range.mp hi;have hj:=List.mem_range.mp hj;have e:=u i j hi hj e;exact h.inj i j (by lia) (by lia) (by rw[<-h.st i hi,<-h.st j hj,e])
theorem le_pow{x:Int}(h:x.natAbs<=2^n):x<=2^n:=by
 have e:((2^n:Nat):Int)=(2:Int)^n:=by rw[Int.natCast_pow];rfl
 lia
noncomputable def DV(r:WR):Prop:=r.t∣181440000/\r.b∣181440000
theorem dv60{t:Int}(h0:1<=t)(h1:t<=5):t∣60:=by
 have:t=1∨t=2∨t=3∨t=4∨t=5:=by lia
 rcases this with rfl|rfl|rfl|rfl|rfl<;>decide
theorem dv840{t:Int}(h0:1<=t)(h1:t<=8):t∣840:=by
 have:t=1∨t=2∨t=3∨t=4∨t=5∨t=6∨t=7∨t=8:=by lia
 rcases this with rfl|rfl|rfl|rfl|rfl|rfl|rfl|rfl<;>decide
theorem dv_base(h:G5 r.t r.b):DV r:=⟨lD (dv60 h.t0 h.t1) (by decide),lD (dv60 h.b0 h.b1) (by decide)⟩
theorem gp_dv(h:∀r∈ws,G5 r.t r.b):(gp ws).1∣60^ws.length/\(gp ws).2∣60^ws.length:=by
 revert h
 refine cu (P:=λws=>(∀r∈ws,G5 r.t r.b)->(gp ws).1∣60^ws.length/\(gp ws).2∣60^ws.length) (λ_=>⟨Int.dvd_refl _,Int.dvd_refl _⟩) (λus u ih h=>?_) ws;obtain⟨h1,h2⟩:=ih λr hr=>h r (jX _ hr);have hu:=h u (by simp);rw[ir,jO,kr,Int.pow_succ];exact⟨Int.mul_dvd_mul h1 (dv60 hu.t0 hu.t1),Int.mul_dvd_mul h2 (dv60 hu.b0 hu.b1)⟩
theorem pow60(h:m<=3):(60:Int)^m∣60^3:=by
 have:m=0∨m=1∨m=2∨m=3:=by lia
 rcases this with rfl|rfl|rfl|rfl<;>decide
structure Rng(sp:List Str)(P:Nat->Str)(n b:Nat)(bs:Nat->WR)(nm:Str):Prop where
 rnd:∀m,m<n->Rnd P n (λk=>bs ((b+k)%n)) m
 gs:∀j,j<n->G5 (bs j).t (bs j).b
 u:∀i j,i<n->j<n->(bs i).nm=(bs j).nm->bs i=bs j
 nn:∀j,j<n->(bs j).nm≠nm
 ins:∀k,P k∈sp
 n2:2<=n
 n5:n<=4
section
variable{sp:List Str}{Pl:Nat->Str}{n b m:Nat}{bs:Nat->WR}{nm:Str}
theorem Rng.mem(h:Rng sp Pl n b bs nm)(hr:r∈aK bs n b m):∃j,j<n/\r=bs j:=by
 obtain⟨k,_,rfl⟩:=jL.mp hr;exact⟨_,kL _ (by have:=h.n2;lia),rfl⟩
theorem Rng.bnd(h:Rng sp Pl n b bs nm):((aK bs n b m).map (·.nm)).Nodup∨n<=m:=by
 by_cases mn:m<n
 ·exact .inl ((h.rnd m mn).nms mn λi j _ _ e=>h.u _ _ (kL _ (by lia)) (kL _ (by lia)) e)
 ·exact .inr (by lia)
theorem Rng.small(h:Rng sp Pl n b bs nm)(hr:r∈aK bs n b m):1<=r.t/\r.t<=2^3/\1<=r.b/\r.b<=2^3:=by
 obtain⟨j,hj,rfl⟩:=h.mem hr;exact gs200 (h.gs j hj)
theorem dY(bs:Nat->WR)(n b m:Nat):(aK bs n b m).length=m:=by unfold aK;rw[jF,lM]
theorem Rng.gpb(h:Rng sp Pl n b bs nm)(mn:m<n):GpB 3 m (gp (aK bs n b m)):=by
 have:=gp_bd (n:=3) (ws:=aK bs n b m) (λr hr=>h.small hr) m (by rw[dY];exact jJ _)
 rw[List.take_of_length_le (by rw[dY];exact jJ _)]at this;exact this
theorem Rng.wst(h:Rng sp Pl n b bs nm)(m1:1<=m)(mn:m<n)(x:Str)(g:Int×Int)(kd:Int):(bS bs n b m x g kd).st=Pl m:=by
 have:=(h.rnd m mn).go (m-1) (by lia)
 rw[show m-1+1=m by lia]at this;exact this
theorem Rng.wgo(h:Rng sp Pl n b bs nm)(m1:1<=m)(mn:m<n)(x:Str)(g:Int×Int)(kd:Int):(bS bs n b m x g kd).go=Pl 0:=(h.rnd m mn).st 0 (by lia)
theorem Rng.g5(h:Rng sp Pl n b bs nm)(hr:r∈aK bs n b m):G5 r.t r.b:=by
 obtain⟨j,hj,rfl⟩:=h.mem hr;exact h.gs j hj
theorem Rng.wbd(h:Rng sp Pl n b bs nm)(mn:m<n)(fb:FB g.1 g.2)(x:Str)(kd:Int):GB (bS bs n b m x g kd).t (bS bs n b m x g kd).b/\DV (bS bs n b m x g kd):=by
 have G:=h.gpb mn;have n5:=h.n5;have t1:=G.t0;have t2:=G.b0;have f1:=fb.t0;have f2:=fb.b0;have up:∀{x:Int},x.natAbs<=2^(3+m*3)->x<=2^12:=λ{x}q=>le_pow (jV q (kG (by decide) (by lia)));obtain⟨d1,d2⟩:=gp_dv (ws:=aK bs n b m) λr hr=>h.g5 hr;rw[dY]at d1 d2;have p6:=pow60 (m:=m) (by lia);refine⟨⟨?_,up (a8 (cF (n:=3) fb.t0 fb.t1) G.b1),?_,up (a8 (cF (n:=3) fb.b0 fb.b1) G.t1)⟩,?_,?_⟩
 ·have:=lF (show 0<g.1 by lia) (show 0<(gp (aK bs n b m)).2 by lia)
  show 1<=g.1*(gp (aK bs n b m)).2
  lia
 ·have:=lF (show 0<g.2 by lia) (show 0<(gp (aK bs n b m)).1 by lia)
  show 1<=g.2*(gp (aK bs n b m)).1
  lia
 ·exact lD (Int.mul_dvd_mul (dv840 fb.t0 fb.t1) (lD d2 p6)) (by decide)
 ·exact lD (Int.mul_dvd_mul (dv840 fb.b0 fb.b1) (lD d1 p6)) (by decide)
structure Prq(ws:List WR):Prop where
 nd:(ws.map (·.nm)).Nodup
 len:ws.length<=4
 gb:∀r∈ws,GB r.t r.b
theorem Prq.nil:Prq []:=⟨lJ,by decide,λr hr=>by cases hr⟩
theorem Rng.bas(h:Rng sp Pl n b bs nm)(mn:m<n):Prq (aK bs n b m):=by
 have n5:=h.n5;refine⟨h.bnd.resolve_right (by lia),by rw[dY];lia,λr hr=>?_⟩;obtain⟨a1,a2,a3,a4⟩:=h.small hr;exact⟨a1,Int.le_trans a2 (by decide),a3,Int.le_trans a4 (by decide)⟩
theorem Rng.ring(h:Rng sp Pl n b bs nm)(mn:m<n)(fb:FB g.1 g.2)(kd:Int):Prq (aK bs n b m++[bS bs n b m nm g kd]):=by
 have n5:=h.n5;have B:=h.bas mn;refine⟨?_,by rw[jO,dY,kr];lia,λr hr=>?_⟩
 ·rw[jM];refine ky.mpr ⟨B.nd,by simp,λx hx y hy e=>?_⟩;obtain⟨r,hr,rfl⟩:=jL.mp hx;obtain⟨j,hj,rfl⟩:=h.mem hr
  have:y=(bS bs n b m nm g kd).nm:=by simpa using hy
  exact h.nn j hj (e.trans this)
 ·rcases jP.mp hr with z|z
  ·exact B.gb r z
  ·cases jN.mp z;exact(h.wbd mn fb nm kd).1
theorem Rng.good(h:Rng sp Pl n b bs nm)(m1:1<=m)(mn:m<n)(fb:FB g.1 g.2)(kd:Int):RGood sp (bS bs n b m nm g kd):=by
 refine⟨(h.wbd mn fb nm kd).1,?_,?_,?_⟩
 ·rw[h.wst m1 mn,h.wgo m1 mn];intro e
  have:=(h.rnd m mn).inj m 0 mn (by lia) e
  lia
 ·rw[h.wst m1 mn];exact h.ins m
 ·rw[h.wgo m1 mn];exact h.ins 0
theorem Rng.cmp(h:Rng sp Pl n b bs nm)(mn:m<n)(g:Int×Int)(kd:Int):((gp (aK bs n b m++[bS bs n b m nm g kd])).1=(gp (aK bs n b m++[bS bs n b m nm g kd])).2↔g.1=g.2)/\((gp (aK bs n b m++[bS bs n b m nm g kd])).1<(gp (aK bs n b m++[bS bs n b m nm g kd])).2↔g.1<g.2):=by
 rw[gp_ring];exact ring_cmp (h.gpb mn).t0 (h.gpb mn).b0
end
structure BsX(sp lb:List Str)(n:Nat)(as:Nat->WR):Prop where
 bw:BaseW sp n as
 nm:∀j,j<2*n->(as j).nm=lb.getD j ""
 gs:∀j,j<2*n->G5 (as j).t (as j).b
 ll:lb.length=2*n+4
 nl:lb.Nodup
 n2:2<=n
 n4:n<=4
section
variable{sp lb:List Str}{n:Nat}{as:Nat->WR}
theorem BsX.u(h:BsX sp lb n as)(hi:i<2*n)(hj:j<2*n)(e:(as i).nm=(as j).nm):as i=as j:=by
 have l:=h.ll;rw[h.nm i hi,h.nm j hj]at e;rw[e7 h.nl (by lia) (by lia) e]
theorem BsX.ne(h:BsX sp lb n as)(hi:i<2*n)(hj:2*n<=j)(hj2:j<2*n+4):(as i).nm≠lb.getD j "":=λe=>by
 have l:=h.ll;rw[h.nm i hi]at e
 have:=e7 h.nl (by lia) (by lia) e
 lia
theorem BsX.ins(h:BsX sp lb n as)(hk:k<n):sp.getD k ""∈sp:=jI (cD (by rw[h.bw.len];exact hk))
theorem BsX.one(h:BsX sp lb n as)(hs:st<n)(hj:2*n<=j)(hj2:j<2*n+4):Rng sp (pA sp n st) n st as (lb.getD j ""):=by
 have n2:=h.n2;exact⟨λm mn=>h.bw.ahead n2 hs mn,λj hj=>h.gs j (by lia),λi j hi hj=>h.u (by lia) (by lia),λi hi=>h.ne (by lia) hj hj2,λk=>h.ins (kL _ (by lia)),n2,h.n4⟩
theorem BsX.two(h:BsX sp lb n as)(hs:b<n)(hj:2*n<=j)(hj2:j<2*n+4):Rng sp (pB sp n b) n b (gu as n) (lb.getD j ""):=by
 have n2:=h.n2;have q:∀i,n+(n-i)%n<2*n:=λi=>by have:=kL (n-i) (show n>0 by lia);lia
 exact⟨λm mn=>h.bw.behind n2 hs mn,λj _=>h.gs _ (q j),λi j _ _=>h.u (q i) (q j),λi _=>h.ne (q i) hj hj2,λk=>h.ins (kL _ (by lia)),n2,h.n4⟩
theorem BsX.good(h:BsX sp lb n as)(jl:j<2*n):RGood sp (as j):=by
 have n2:=h.n2;obtain⟨a1,a2,a3,a4⟩:=gs200 (h.gs j jl);have p:(2:Int)^3<=2^12:=by decide
 have m1:j%n<n:=kL _ (by lia);have m2:goI n j<n:=kL _ (by lia);refine⟨⟨a1,Int.le_trans a2 p,a3,Int.le_trans a4 p⟩,?_,?_,?_⟩
 ·rw[h.bw.st j jl,h.bw.go j jl];intro e
  have:=e7 h.bw.nd (by rw[h.bw.len];exact m1) (by rw[h.bw.len];exact m2) e
  unfold goI at this;rw[mod2 jl]at this
  split at this
  ·rw[mod2 (by lia)]at this
   split at this<;>lia
  ·rw[mod2 (by lia)]at this
   split at this<;>lia
 ·rw[h.bw.st j jl];exact h.ins m1
 ·rw[h.bw.go j jl];exact h.ins m2
end
structure SdO(rs hd pa ta:List WR)(c:Int×Int):Prop where
 ph:Prq hd
 pp:Prq pa
 pt:Prq ta
 ih:∀r∈hd,r∈rs
 ip:∀r∈pa,r∈rs
 it:∀r∈ta,r∈rs
 cb:CB c
 he:hd≠[]->(gp hd).1=(gp hd).2/\pa=[]/\ta=[]∨(gp hd).2<(gp hd).1
 te:ta≠[]->(gp ta).1<(gp ta).2
 hf:hd≠[]->∃u v,FB u v/\(gp hd).1*v=u*(gp hd).2
 tf:ta≠[]->∃u v,FB u v/\(gp ta).1*v=u*(gp ta).2
 lp:pa.length<=3
theorem SdO.mono(h:SdO rs hd pa ta c)(s:∀r∈rs,r∈rs'):SdO rs' hd pa ta c:=⟨h.ph,h.pp,h.pt,λr hr=>s r (h.ih r hr),λr hr=>s r (h.ip r hr),λr hr=>s r (h.it r hr),h.cb,h.he,h.te,h.hf,h.tf,h.lp⟩
theorem str_pure(B:BsX sp lb n as)(hw:wh<=1)(h:StrR as n (lb.getD (2*n+2*wh) "") (lb.getD (2*n+2*wh+1) "") c0 W1 W2 hd pa ta c):(RGood sp W1/\DV W1/\W1.nm=lb.getD (2*n+2*wh) "")/\(RGood sp W2/\DV W2/\W2.nm=lb.getD (2*n+2*wh+1) "")/\∀rs:List WR,(∀j,j<2*n->as j∈rs)->W1∈rs->W2∈rs->SdO rs hd pa ta c:=by
 obtain⟨st,sz,m1,m2,b0,g1,g2,k1,k2,hst,hsz,szn,m11,m1n,m21,m2n,hb0,fb1,eq1,gt1,fb2,lt2,rfl,rfl,ehd,epa,eta,cb⟩:=h;have n2:=B.n2
 have b0n:b0<n:=by
  have:=Int.emod_lt_of_pos (0-(st:Int)-sz) (show(0:Int)<n by lia)
  lia
 have R1:=B.one hst (show 2*n<=2*n+2*wh by lia) (by lia);have R2:=B.two b0n (show 2*n<=2*n+2*wh+1 by lia) (by lia);have P1:=R1.ring m1n fb1 k1;have P2:=R2.ring m2n fb2 k2;have C1:=R1.cmp m1n g1 k1;have C2:=R2.cmp m2n g2 k2;refine⟨⟨R1.good m11 m1n fb1 k1,(R1.wbd m1n fb1 _ k1).2,rfl⟩,⟨R2.good m21 m2n fb2 k2,(R2.wbd m2n fb2 _ k2).2,rfl⟩,λrs hb i1 i2=>?_⟩;have p0:sz=0->aK as n st sz=[]:=λz=>by rw[z];rfl
 have szp:(c0%8%2=1/\1<=sz)∨(c0%8%2≠1/\sz=0):=by
  unfold szI at hsz;obtain⟨a1,a2⟩:=aW (c0/40) (show(0:Int)<(n:Int)-1 by lia)
  split at hsz<;>lia
 have eh:hd≠[]->hd=aK as n st m1++[bS as n st m1 (lb.getD (2*n+2*wh) "") g1 k1]:=λz=>by
  rw[ehd]at z⊢
  split at z
  ·rename_i q;rw[if_pos q]
  ·exact absurd rfl z
 have et:ta≠[]->ta=aK (gu as n) n b0 m2++[bS (gu as n) n b0 m2 (lb.getD (2*n+2*wh+1) "") g2 k2]:=λz=>by
  rw[eta]at z⊢
  split at z
  ·exact absurd rfl z
  ·rename_i q;rw[if_neg q]
 have fx:∀p1 p2 u v:Int,p1*(u*p2)*v=u*(p2*(v*p1)):=λp1 p2 u v=>by
  rw[kN p1,lS,lS,kN p1 v]
 refine⟨?_,by rw[epa];exact R1.bas szn,?_,λr hr=>?_,λr hr=>?_,λr hr=>?_,cb,λz=>?_,λz=>?_,λz=>⟨g1.1,g1.2,fb1,by rw[eh z,gp_ring];exact fx _ _ _ _⟩,λz=>⟨g2.1,g2.2,fb2,by rw[et z,gp_ring];exact fx _ _ _ _⟩,by have:=B.n4;rw[epa,dY];lia⟩
 ·rw[ehd]
  split
  ·exact P1
  ·exact Prq.nil
 ·rw[eta]
  split
  ·exact Prq.nil
  ·exact P2
 ·rw[ehd]at hr
  split at hr
  ·rcases jP.mp hr with q|q
   ·obtain⟨j,hj,rfl⟩:=R1.mem q;exact hb j (by lia)
   ·rw[jN.mp q];exact i1
  ·cases hr
 ·rw[epa]at hr;obtain⟨j,hj,rfl⟩:=R1.mem hr;exact hb j (by lia)
 ·rw[eta]at hr
  split at hr
  ·cases hr
  ·rcases jP.mp hr with q|q
   ·obtain⟨j,hj,rfl⟩:=R2.mem q
    have:=kL (n-j) (show n>0 by lia)
    exact hb (n+(n-j)%n) (by lia)
   ·rw[jN.mp q];exact i2
 ·rw[eh z];by_cases k0:c0%8=0
  ·refine .inl ⟨C1.1.mpr (eq1 k0),?_,?_⟩
   ·rw[epa];exact p0 (by lia)
   ·rw[eta,if_pos (by lia)]
  ·have gt:=gt1 k0;refine .inr ?_;have a1:¬(gp (aK as n st m1++[bS as n st m1 (lb.getD (2*n+2*wh) "") g1 k1])).1=(gp (aK as n st m1++[bS as n st m1 (lb.getD (2*n+2*wh) "") g1 k1])).2:=λz=>by have:=C1.1.mp z;lia
   have a2:¬(gp (aK as n st m1++[bS as n st m1 (lb.getD (2*n+2*wh) "") g1 k1])).1<(gp (aK as n st m1++[bS as n st m1 (lb.getD (2*n+2*wh) "") g1 k1])).2:=λz=>by have:=C1.2.mp z;lia
   lia
 ·rw[et z];exact C2.2.mpr lt2
theorem SqL.kpd(h:SqL K H l xs)(hd:H d=some (.dK kvs))(kp:KpD d H H'):SqL K H' l xs:=by
 rcases h with(e|⟨o,e⟩)|z
 ·exact .inl (.inl (kp _ _ (aG e hd (by intro z;cases z)) e))
 ·exact .inl (.inr ⟨o,kp _ _ (aG e hd (by intro z;cases z)) e⟩)
 ·exact .inr z
structure DS where
 hd:List WR
 pa:List WR
 ta:List WR
 c:Int×Int
noncomputable def nmR(ws:List WR):List V:=ws.map λr=>V.str r.nm
noncomputable def SdAt(q:Addr)(H:Hp)(v:V)(s:DS):Prop:=∃t lh lp lt g,v=.ref t/\H t=some (.tup [.ref lh,.ref lp,.ref lt,.ref g])/\H lh=some (.lst (nmR s.hd))/\H lp=some (.lst (nmR s.pa))/\H lt=some (.lst (nmR s.ta))/\H g=some (.tup [.int s.c.1,.int s.c.2])/\lh≠q/\lp≠q/\lt≠q
theorem SdAt.by(h:SdAt q H v s)(kt:∀b xs,H b=some (.tup xs)->H' b=some (.tup xs))(kl:∀b xs,b≠q->H b=some (.lst xs)->H' b=some (.lst xs)):SdAt q H' v s:=by
 obtain⟨t,lh,lp,lt,g,e,h1,h2,h3,h4,h5,n1,n2,n3⟩:=h;exact⟨t,lh,lp,lt,g,e,kt _ _ h1,kl _ _ n1 h2,kl _ _ n2 h3,kl _ _ n3 h4,kt _ _ h5,n1,n2,n3⟩
theorem SdAt.mono(h:SdAt q H v s)(k:Same H H'):SdAt q H' v s:=h.by (λ_ _ e=>k _ _ e) λ_ _ _ e=>k _ _ e
structure RsG(sp:List Str)(rs:List WR):Prop where
 nd:(rs.map (·.nm)).Nodup
 len:rs.length<=12
 all:∀r∈rs,RGood sp r/\DV r
inductive IspStrands(K:W.Frag)(vs:List V)(H:Hp)(Q:VK):Prop
 |mk(l d ll:Addr)(ns:List Int)(rs:List WR)(sp lb:List Str)(as:Nat->WR)(n:Nat)(h1:vs=[.ref l,.ref d,.ref ll,.int n,.int 2])(h2:SqL K H l (ns.map V.int))(h3:RowsAt H d rs)(h4:BsX sp lb n as)(h5:rs.length=2*n)(h6:(∀j,j<2*n->rs[j]?=some (as j)))(h7:H ll=some (.lst (lb.map V.str)))(h8:∀s H' ts ds rs',H s=none->H' s=some (.lst ts)->KpD d H H'->RowsAt H' d rs'->RowAt (SdAt s) H' ts ds->ds.length=2->RsG sp rs'->(∀x∈ds,SdO rs' x.hd x.pa x.ta x.c)->Q (.ref s) H'):IspStrands K vs H Q
noncomputable def spStrands(K:W.Frag):Sp:=λvs H Q _=>IspStrands K vs H Q
theorem ok_law_strands(T:TX K mg a):FnB P w K mg base CX0 "_law_strands" 4 ["_law_script","_law_ways_here","_law_labels","_law_count","_law_many_here"] (spStrands K):=by
 refine T.d_law_strands.okA sc_law_strands λf cdv A outer s H vs Q E hr h=>?_;obtain⟨l,d,ll,ns,rs,sp,lb,as,n,rfl,hS,hR,B,lrs,hat,hll,k⟩:=h
 refine⟨_,(af (aj (i:=5) sc_law_strands.nd (aR ae))
  (af (aQ jR rfl (bO rfl T.z_range (aa (pv 4) ae)) (aw (i:=6) sc_law_strands.nd) (af (dA (i:=7) (xs:=["_law_j"]) (rest:=["_law_k","_law_script"]) sc_law_strands.nd rfl rfl rfl (bO rfl T.z_range (aa ab ae))
  (λpins fp C' s' H'=>(aw (i:=0) (show(["_law_j","_law_k","_law_script"]:List Str).Nodup by decide+kernel))) (λpins fp C' s' H'=>cA)
  (λpins fp C' s' H'=>(az (a7 T) hr aq (aa (pv 2) (aa (ao aO (ao aO ab (ao bE ab (pv 1))) (pv 0)) ae))))
  (Clos.many (ys:=["_law_script","_law_k"]) rfl ⟨rfl,rfl,True.intro⟩ rfl (by decide+kernel)) (Reads.many (ys:=["_law_k","_law_script"]) (js:=[6,0]) ⟨⟨rfl,rfl,rfl⟩,⟨rfl,rfl,rfl⟩,True.intro⟩))
  (ah (aT (gi ki kC kD bJ (pv 5) (aa (az (ok_law_strand T) hr aq (aa (pv 1) (aa (pv 2) (aa (pv 3) (aa (pv 6) (aa (pv 7) ae)))))) ae))))))
  (ah (ax (pv 5))))),?_⟩
 walk_at"q"
 have n2:=B.n2;have n4:=B.n4;have lbl:=B.ll;refine⟨zL0,λq nq=>?_⟩;obtain⟨H0,zq,s0,h0⟩:=uG (o:=.lst []) nq;rw[zq]
 have nms0:rs.map (·.nm)=lb.take (2*n):=by
  apply List.ext_getElem?
  intro j;rw[jK,lI];by_cases hj:j<2*n
  ·rw[if_pos hj,hat j hj,cD (by lia)];show some (as j).nm=_;rw[B.nm j hj]
  ·rw[if_neg hj,List.getElem?_eq_none (by lia)];rfl
 have good0:∀r∈rs,RGood sp r/\DV r:=λr hr=>by
  obtain⟨j,hj⟩:=kh.mp hr;have jl:=(jG.mp hj).1;rw[lrs]at jl;rw[hat j jl]at hj
  cases hj;exact⟨B.good jl,dv_base (B.gs j jl)⟩
 refine⟨_,rfl,_,rfl,by decide,by decide,dW (λi σ H2=>i<=2/\∃z6 z7 ts ds ri,σ=[some (.ref l),some (.ref d),some (.ref ll),some (.int n),some (.int 2),some (.ref q),z6,z7]/\KpD d H H2/\H2 q=some (.lst ts)/\RowsAt H2 d ri/\RowAt (SdAt q) H2 ts ds/\ds.length=i/\ri.map (·.nm)=lb.take (2*n+2*i)/\(∀r∈rs,r∈ri)/\(∀r∈ri,RGood sp r/\DV r)/\∀x∈ds,SdO ri x.hd x.pa x.ta x.c) ⟨by decide,none,none,[],[],rs,rfl,KpD.of s0,h0,hR.mono s0,RowAt.nil,rfl,nms0,(λr hr=>hr),good0,λx hx=>by cases hx⟩ ?_ ?_⟩
 ·rintro i σ H2 hi⟨_,z6,z7,ts,ds,ri,rfl,kp,hq,hRi,hds,lds,nmi,hin,good,sdo⟩;have hi':i<2:=by lia
  rw[Int.zero_add]
  have lri:ri.length=2*n+2*i:=by
   have:=kA List.length nmi
   rw[jF,jT]at this
   lia
  obtain⟨kvd,hd2,_⟩:=id hRi;obtain⟨kv0,hd0,_⟩:=id hR
  have hS2:∀{H3:Hp},Same H2 H3->SqL K H3 l (ns.map V.int):=λ{H3}s=>by
   refine s.seq ?_;exact SqL.kpd hS hd0 kp
  refine⟨_,rfl,by decide,by decide,λlc nlc=>?_⟩;refine cQ (λj H3=>j<=4/\Same H2 H3/\∃cs:List Int,cs.length=j/\H3 lc=some (.lst (cs.map V.int))) ⟨jU _,aC nlc,[],rfl,ag⟩ ?_ ?_
  ·rintro j H3 hj⟨_,s2,cs,lcs,h2⟩;have hj':j<4:=by lia
   refine L2.g1 ⟨⟨[_],rfl,rfl⟩,yes ?_⟩;refine⟨_,rfl,_,rfl,_,_,rfl,rfl,⟨Sm.of_le (n:=10) (by decide) (by decide),Sm.of_le (n:=10) (by lia) (by decide)⟩,_,_,rfl,rfl,_,rfl,_,_,rfl,rfl,l,ns,_,rfl,hS2 s2,by lia,by lia,λc=>?_⟩;refine⟨_,h2,ay (by rw[jF];lia),dD hj ⟨hj',aF nlc s2,cs++[c],by rw[jO,lcs];rfl,?_⟩⟩;rw[ag,jM];rfl
  ·rintro H3⟨_,s2,cs,lcs,h2⟩;have lcs:cs.length=4:=lcs
   match cs,lcs with
   |[c0,c1,c2,c3],_=>
    have fresh:∀r∈ri,r.nm≠lb.getD (2*n+2*i) ""/\r.nm≠lb.getD (2*n+2*i+1) "":=λr hr=>by
     have hm:r.nm∈lb.take (2*n+2*i):=by rw[<-nmi];exact jL.mpr ⟨r,hr,rfl⟩
     obtain⟨j,hj⟩:=kh.mp hm;rw[lI]at hj
     split at hj
     ·rename_i hlt;have ej:=cD (xs:=lb) (i:=j) (by lia);rw[ej]at hj;have e:=kg hj;exact⟨λz=>by have:=e7 B.nl (by lia) (by lia) (e.trans z);lia,λz=>by have:=e7 B.nl (by lia) (by lia) (e.trans z);lia⟩
     ·cases hj
    have ndi:(ri.map (·.nm)).Nodup:=by rw[nmi];exact(List.take_sublist _ _).nodup B.nl
    have hll2:H2 ll=some (.lst (lb.map V.str)):=kp _ _ (aG hll hd0 (by intro z;cases z)) hll;refine⟨_,rfl,.inl ⟨rfl,_,SqL.of (s2 _ _ hq)⟩,_,rfl,_,rfl,_,rfl,_,rfl,_,rfl,d,ll,lc,ri,lb,as,n,i,c0,c1,c2,c3,rfl,hRi.mono s2,ndi,by lia,s2 _ _ hll2,by lia,by lia,λj hj=>⟨hin _ (jI (hat j hj)),B.nm j hj,B.gs j hj⟩,n2,by lia,by lia,B.nl,fresh,h2,λt lh lp lt g H4 W1 W2 hd pa ta c n1 n2' n3 kp4 hR4 ht hlh hlp hlt hg sr=>?_⟩;obtain⟨⟨gw1,dw1,nw1⟩,⟨gw2,dw2,nw2⟩,mk⟩:=str_pure B (by lia) sr;have hq3:=s2 _ _ hq;obtain⟨kvd3,hd3,_⟩:=hRi.mono s2;have hq4:=kp4 _ _ (aG hq3 hd3 (by intro z;cases z)) hq3;have nq':∀{b:Addr},H3 b=none->b≠q:=λe z=>by rw[z,hq3]at e;cases e
    have ku:∀{b:Addr}{o:HO},b≠q->H4 b=some o->upd H4 q (.lst (ts++[.ref t])) b=some o:=λn e=>by rw[ai n];exact e
    have ty:∀{b:Addr}{o:HO},H4 b=some o->(∀xs,o≠.lst xs)->b≠q:=λe n=>aG e hq4 (n _);refine⟨q,ts,_,rfl,rfl,hq4,ay (by rw[hds.1,lds];lia),?_⟩;refine⟨hi',_,_,_,ds++[⟨hd,pa,ta,c⟩],ri++[W1]++[W2],rfl,?_,ag,?_,?_,by rw[jO,lds];rfl,?_,λr hr=>jX _ (jX _ (hin r hr)),λr hr=>?_,λx hx=>?_⟩
    ·intro b o nb e;refine ku (λz=>by rw[z,nq]at e;cases e) (kp4 b o nb (s2 _ _ (kp b o nb e)))
    ·obtain⟨kv,e1,e2,e3⟩:=hR4;exact⟨kv,ku (ty e1 (by intro _ z;cases z)) e1,e2,e3.mono λv x z=>z.put hq4 (by intro _ z;cases z)⟩
    ·refine RowAt.snoc (hds.mono λv x z=>(z.mono s2).by (λb xs e=>ku (ty (kp4 _ _ (aG e hd3 (by intro z;cases z)) e) (by intro _ z;cases z)) (kp4 _ _ (aG e hd3 (by intro z;cases z)) e)) λb xs nb e=>ku nb (kp4 _ _ (aG e hd3 (by intro z;cases z)) e)) ?_;exact⟨t,lh,lp,lt,g,rfl,ku (ty ht (by intro _ z;cases z)) ht,ku (nq' n1) hlh,ku (nq' n2') hlp,ku (nq' n3) hlt,ku (ty hg (by intro _ z;cases z)) hg,nq' n1,nq' n2',nq' n3⟩
    ·rw[jM,jM,nmi,show 2*n+2*(i+1)=2*n+2*i+1+1 by lia,jS,jS,cD (by lia),cD (by lia),List.map_singleton,List.map_singleton,nw1,nw2];rfl
    ·rcases jP.mp hr with z|z
     ·rcases jP.mp z with z|z
      ·exact good r z
      ·rw[jN.mp z];exact⟨gw1,dw1⟩
     ·rw[jN.mp z];exact⟨gw2,dw2⟩
    ·rcases jP.mp hx with z|z
     ·exact(sdo x z).mono λr hr=>jX _ (jX _ hr)
     ·rw[jN.mp z];exact mk _ (λj hj=>jX _ (jX _ (hin _ (jI (hat j hj))))) (jX _ (j8 _ (by simp))) (j8 _ (by simp))
 ·rintro σ H2⟨_,z6,z7,ts,ds,ri,rfl,kp,hq,hRi,hds,lds,nmi,hin,good,sdo⟩;have lds:ds.length=2:=lds;refine⟨_,rfl,k q H2 ts ds ri nq hq kp hRi hds lds ⟨by rw[nmi];exact(List.take_sublist _ _).nodup B.nl,?_,good⟩ sdo⟩
  have:=kA List.length nmi
  rw[jF,jT]at this
  lia
noncomputable abbrev DuS:=(Str->Int×Int)×(Int×Int)
noncomputable def bY(st:DuS)(r:WR):DuS:=(upf st.1 r.nm ((st.1 r.nm).1*st.2.2+st.2.1*(st.1 r.nm).2,(st.1 r.nm).2*st.2.2),(st.2.1*r.t,st.2.2*r.b))
noncomputable def aX(st:DuS)(ws:List WR):DuS:=ws.foldl bY st
theorem sendS_snoc(st:DuS)(ws:List WR)(r:WR):aX st (ws++[r])=bY (aX st ws) r:=by unfold aX;rw[lL];rfl
theorem jd:∀{ws:List WR}{st:DuS},n∉ws.map (·.nm)->(aX st ws).1 n=st.1 n
 |[],_,_=>rfl
 |r::ws,st,h=>by
  rw[lv,j3,not_or]at h;show(aX (bY st r) ws).1 n=_;rw[jd h.2];exact iS h.1
theorem sendS_two(st:DuS)(ws:List WR):(aX st ws).2=(st.2.1*(gp ws).1,st.2.2*(gp ws).2):=by
 refine cu (P:=λws=>(aX st ws).2=(st.2.1*(gp ws).1,st.2.2*(gp ws).2)) ?_ ?_ ws
 ·show st.2=(st.2.1*1,st.2.2*1);rw[Int.mul_one,Int.mul_one]
 ·intro ws r ih;rw[sendS_snoc,ir];show((aX st ws).2.1*r.t,(aX st ws).2.2*r.b)=_;rw[ih,lS,lS]
theorem RowIs.kp(h:RowIs H v r)(hq:H q=some (.dK kvs))(kp:KpD q H H'):RowIs H' v r:=by
 obtain⟨p,g,e,h1,h2⟩:=h;exact⟨p,g,e,kp _ _ (aG h1 hq (by intro z;cases z)) h1,kp _ _ (aG h2 hq (by intro z;cases z)) h2⟩
theorem RowsAt.kp(h:RowsAt H d rs)(ne:d≠q)(hq:H q=some (.dK kvs))(kp:KpD q H H'):RowsAt H' d rs:=by
 obtain⟨kv,h1,h2,h3⟩:=h;exact⟨kv,kp _ _ ne h1,h2,h3.mono λv x z=>z.kp hq kp⟩
structure DueAt(H:Hp)(q:Addr)(ns:List Str)(f:Str->Int×Int):Prop where
 ex:∃kvs,H q=some (.dK kvs)/\Tab DueIs H kvs (a9 ns) f
 no:∀n,n∉ns->f n=(0,1)
inductive IspSend(vs:List V)(H:Hp)(Q:VK):Prop
 |mk(q d wl g:Addr)(rs ws:List WR)(ns:List Str)(st:DuS)(N M:Nat)(h1:vs=[.ref q,.ref d,.ref wl,.ref g])(h2:q≠d)(h3:DueAt H q ns st.1)(h4:ns.length<=800)(h5:(∀n,Nx N (st.1 n)))(h6:N+M+200<=900000)(h7:RowsAt H d rs)(h8:(rs.map (·.nm)).Nodup)(h9:H wl=some (.lst (ws.map λr=>.str r.nm)))(h10:(∀r∈ws,r∈rs))(h11:(∀r∈ws,GB r.t r.b))(h12:(ws.map (·.nm)).Nodup)(h13:ws.length<=4)(h14:H g=some (.tup [.int st.2.1,.int st.2.2]))(h15:Nx M st.2)(h16:∀g' H',KpD q H H'->DueAt H' q (ns++ws.map (·.nm)) (aX st ws).1->H' g'=some (.tup [.int (aX st ws).2.1,.int (aX st ws).2.2])->Q (.ref g') H'):IspSend vs H Q
noncomputable def spSend(K:W.Frag):Sp:=λvs H Q _=>IspSend vs H Q
theorem fJ(T:TX K mg a):FnB P w K mg base CX0 "_law_send" 2 ["_law_due_here","_law_ways_here","_law_walk","_law_put"] (spSend K):=by
 refine T.d_law_send.okA sc_law_send λf cdv A outer s H vs Q E hr h=>?_;obtain⟨q,d,wl,g0,rs,ws,ns,st,N,M,rfl,nqd,⟨⟨kv0,hq,tb0⟩,no0⟩,lns,bf,hN,hR,nd,hw,sub,gbs,ndw,lw,hg0,hc,k⟩:=h
 refine⟨_,(af (aQ jR rfl (a5 (pv 2)) (aw (i:=4) sc_law_send.nd) (af (bB (aJ hr) (pv 0) (pv 4) (az (fK T) hr aq (aa (gf (aJ hr) (pv 0) (pv 4) (aU (aa ab (aa ab ae))) ⟨rfl,rfl,rfl,rfl⟩) (aa (pv 3) ae))) rfl)
  (ah (aj (i:=3) sc_law_send.nd (az (dQ T) hr aq (aa (pv 3) (aa (al av (aV (aJ hr) (pv 1) (pv 4) (λ_ _=>rfl)) ab) ae)))))))
  (ah (ax (pv 3)))),?_⟩
 walk_at"q"
 have nwq:wl≠q:=aG hw hq (by intro z;cases z);have bd:=gp_bd (n:=40) (ws:=ws) λr hr=>(gbs r hr).all
 refine⟨_,rfl,wl,rfl,⟨_,SqL.of hw⟩,ba (K:=K) (a:=wl) (xs:=ws.map λr=>V.str r.nm) (λi σ H2=>i<=ws.length/\∃z g kvs,σ=[some (.ref q),some (.ref d),some (.ref wl),some (.ref g),z]/\KpD q H H2/\H2 g=some (.tup [.int (aX st (ws.take i)).2.1,.int (aX st (ws.take i)).2.2])/\H2 q=some (.dK kvs)/\Tab DueIs H2 kvs (a9 (ns++(ws.take i).map (·.nm))) (aX st (ws.take i)).1)
  ⟨jU _,_,g0,kv0,rfl,λb o _ e=>e,hg0,hq,by rw[lP,l9,ly];exact tb0⟩ ((by rintro i σ H2 _⟨_,_,_,_,_,s2,_⟩;exact SqL.of (s2 _ _ nwq hw))) ?_ ?_⟩
 ·rintro i t σ H2 ht⟨_,z,g,kvs,rfl,s2,hg,hr2,tb⟩;rw[jK]at ht;obtain⟨y,ey,rfl⟩:=lH.mp ht;have hi:=(jG.mp ey).1;have my:=jI ey;have b:=bd i (by lia);have tk:ws.take (i+1)=ws.take i++[y]:=by rw[jS,ey];rfl
  have ny:y.nm∉(ws.take i).map (·.nm):=by
   intro z;obtain⟨u,hu,eu⟩:=jL.mp z;obtain⟨j,hj⟩:=kh.mp hu;rw[lI]at hj
   split at hj
   ·rename_i hji;have g1:(ws.map (·.nm))[j]?=some y.nm:=by rw[jK,hj,<-eu];rfl
    have g2:(ws.map (·.nm))[i]?=some y.nm:=by rw[jK,ey];rfl
    have:=(kR (by rw[jF];lia) ndw).mp (g1.trans g2.symm)
    lia
   ·cases hj
  have ef:(aX st (ws.take i)).1 y.nm=st.1 y.nm:=jd ny;have e2:=sendS_two st (ws.take i)
  have m1:(aX st (ws.take i)).2.1.natAbs<=2^(M+i*40):=by
   rw[e2,lN];show(st.2.1*(gp (ws.take i)).1).natAbs<=_;rw[kB];exact lO hc.t b.t1
  have m2:(aX st (ws.take i)).2.2.natAbs<=2^(M+i*40):=by
   rw[e2,lN];show(st.2.2*(gp (ws.take i)).2).natAbs<=_;rw[kB];exact lO hc.b b.b1
  have hMi:N+(M+i*40)<=1000000:=by lia
  obtain⟨n1,n2⟩:=bf y.nm;rw[<-ef]at n1 n2;have no:y.nm∉ns->(aX st (ws.take i)).1 y.nm=(0,1):=λz=>by rw[ef];exact no0 _ z
  rw[tk,sendS_snoc,jM,lv,l9,<-List.append_assoc,fO];have lk0:=cy (ns++(ws.take i).map (·.nm));rw[jO,jF,jT]at lk0;clear ef e2 b tk;generalize aX st (ws.take i)=st' at hg tb no n1 n2 m1 m2⊢;obtain⟨f,c⟩:=st';refine⟨_,rfl,q,rfl,.inl ⟨kvs,.inl hr2⟩,_,rfl,zL2,λe ne=>?_⟩;obtain⟨H3,zq,s3,he⟩:=uG (o:=.tup [.int 0,.int 1]) ne;rw[zq];have tb3:=tb.mono λv x z=>z.mono s3;refine⟨_,DGet.k (k:=Sum.inr y.nm) (s3 _ _ hr2),?_⟩
  have hval:DueIs H3 ((bI kvs (Sum.inr y.nm)).getD (.ref e)) (f y.nm):=by
   by_cases hn:y.nm∈a9 (ns++(ws.take i).map (·.nm))
   ·obtain⟨v,ev,r⟩:=tb3.vals _ hn;rw[ev];exact r
   ·rw[tb3.none hn,show f y.nm=(0,1) from no λz=>hn (mem_keysOf.mpr (jX _ z))];exact⟨e,rfl,he⟩
  generalize(bI kvs (Sum.inr y.nm)).getD (.ref e)=vl at hval⊢;obtain⟨e1,rfl,he1⟩:=hval;refine⟨_,rfl,e1,g,f y.nm,c,N,M+i*40,rfl,he1,s3 _ _ hg,⟨n1,n2⟩,⟨m1,m2⟩,hMi,λe2 ne2=>?_⟩;dsimp only[plP]at ne2⊢;obtain⟨H4,zq,s4,he2⟩:=uG (o:=.tup [.int ((f y.nm).1*c.2+c.1*(f y.nm).2),.int ((f y.nm).2*c.2)]) ne2;rw[zq];have s24:=s3.trans s4
  have lk:kvs.length<=900:=by
   rw[tb.len]
   lia
  refine⟨_,rfl,_,rfl,q,_,rfl,DPut.k (k:=Sum.inr y.nm) (s24 _ _ hr2) (ay (by lia)),?_⟩;have kp:KeepD H4 (upd H4 q (.dK (bv kvs (Sum.inr y.nm) (.ref e2)))):=KeepD.put (s24 _ _ hr2);have tb5:=Tab.put (n:=y.nm) (tb3.mono λv x z=>(z.mono s4).keep kp) (DueIs.keep (c:=((f y.nm).1*c.2+c.1*(f y.nm).2,(f y.nm).2*c.2)) ⟨e2,rfl,he2⟩ kp);have s5:KpD q H (upd H4 q (.dK (bv kvs (Sum.inr y.nm) (.ref e2)))):=(s2.trans (KpD.of s24)).trans KpD.put;have hr5:upd H4 q (.dK (bv kvs (Sum.inr y.nm) (.ref e2))) q=some (.dK (bv kvs (Sum.inr y.nm) (.ref e2))):=ag;have hg5:=kp _ _ (s24 _ _ hg) (by intro _ z;cases z) (by intro _ _ z;cases z);generalize upd H4 q (.dK (bv kvs (Sum.inr y.nm) (.ref e2)))=H5 at kp tb5 s5 hr5 hg5⊢;obtain⟨v,gv,p1,gy,rfl,x1,x2⟩:=(hR.kp nqd.symm hq s5).get nd (sub y my);obtain⟨q1,q2,q3,q4⟩:=(gbs y my).all;refine⟨_,rfl,_,rfl,_,rfl,d,_,rfl,gv,p1,_,_,_,rfl,rfl,SqT.of x1,rfl,g,gy,c,(y.t,y.b),M+i*40,40,rfl,hg5,x2,⟨m1,m2⟩,⟨cF q1 q2,cF q3 q4⟩,by lia,λr' nr'=>?_⟩;have s6:=aC (o:=.tup [.int (c.1*y.t),.int (c.2*y.b)]) nr';exact⟨hi,_,r',_,rfl,s5.trans (KpD.of s6),ag,s6 _ _ hr5,tb5.mono λv x z=>z.mono s6⟩
 ·rintro σ H2⟨_,z,g,kvs,rfl,s2,hg,hr2,tb⟩;rw[jF,jQ]at tb hg;refine⟨_,rfl,k g H2 s2 ⟨⟨kvs,hr2,tb⟩,λn hn=>?_⟩ hg⟩;rw[jP,not_or]at hn;rw[jd hn.2];exact no0 n hn.1
theorem sendS_bd:∀{ws:List WR}{st:DuS}{N M:Nat},(ws.map (·.nm)).Nodup->(∀r∈ws,GB r.t r.b)->(st.1 n).1.natAbs<=2^N->(st.1 n).2.natAbs<=2^N->st.2.1.natAbs<=2^M->st.2.2.natAbs<=2^M->((aX st ws).1 n).1.natAbs<=2^(N+M+40*ws.length+1)/\((aX st ws).1 n).2.natAbs<=2^(N+M+40*ws.length+1)
 |[],st,N,M,_,_,f1,f2,_,_=>⟨jV f1 (kG (by decide) (by omega)),jV f2 (kG (by decide) (by omega))⟩
 |r::ws,st,N,M,nd,gb,f1,f2,c1,c2=>by
  rw[lv,kM]at nd;show((aX (bY st r) ws).1 n).1.natAbs<=_/\((aX (bY st r) ws).1 n).2.natAbs<=_;by_cases hn:n=r.nm
  ·subst hn;rw[jd nd.1];dsimp only[bY];rw[upf_same];have p1:(2:Nat)^(N+M+1)<=2^(N+M+40*(r::ws).length+1):=kG (by decide) (by omega);have a1:((st.1 r.nm).1*st.2.2).natAbs<=2^(N+M):=by rw[kB,lN];exact lO f1 c2
   have a2:(st.2.1*(st.1 r.nm).2).natAbs<=2^(N+M):=by rw[kB,Nat.add_comm,lN];exact lO c1 f2
   have a3:((st.1 r.nm).2*st.2.2).natAbs<=2^(N+M):=by rw[kB,lN];exact lO f2 c2
   have p2:(2:Nat)^(N+M+1)=2^(N+M)+2^(N+M):=by rw[Nat.pow_succ];omega
   have a4:=Int.natAbs_add_le ((st.1 r.nm).1*st.2.2) (st.2.1*(st.1 r.nm).2);exact⟨by show((st.1 r.nm).1*st.2.2+st.2.1*(st.1 r.nm).2).natAbs<=_;omega,by show((st.1 r.nm).2*st.2.2).natAbs<=_;omega⟩
  ·obtain⟨q1,q2,q3,q4⟩:=(gb r (by simp)).all
   have:=sendS_bd (n:=n) (ws:=ws) (st:=bY st r) (N:=N) (M:=M+40) nd.2 (λx hx=>gb x (jW _ hx)) (by dsimp only[bY];rw[iS hn];exact f1) (by dsimp only[bY];rw[iS hn];exact f2) (by show(st.2.1*r.t).natAbs<=_;rw[kB,lN];exact lO c1 (cF q1 q2)) (by show(st.2.2*r.b).natAbs<=_;rw[kB,lN];exact lO c2 (cF q3 q4))
   rw[kz,show N+M+40*(ws.length+1)+1=N+(M+40)+40*ws.length+1 by omega];exact this
structure Leg(H:Hp)(rs:List WR)(l:Addr)(ws:List WR):Prop where
 hl:H l=some (.lst (ws.map λr=>.str r.nm))
 sub:∀r∈ws,r∈rs
 gb:∀r∈ws,GB r.t r.b
 nd:(ws.map (·.nm)).Nodup
 ln:ws.length<=4
theorem Leg.kp(h:Leg H rs l ws)(hq:H q=some (.dK kvs))(s:KpD q H H'):Leg H' rs l ws:=⟨s _ _ (aG h.hl hq (by intro z;cases z)) h.hl,h.sub,h.gb,h.nd,h.ln⟩
theorem Leg.gpb(h:Leg H rs l ws):Nx 160 (gp ws):=by
 have b:=gp_bd (n:=40) (ws:=ws) (λr hr=>(h.gb r hr).all) ws.length (jJ _);rw[jQ]at b;have l:=h.ln;exact⟨jV b.t1 (kG (by decide) (by lia)),jV b.b1 (kG (by decide) (by lia))⟩
theorem gW(nd:(ws.map (·.nm)).Nodup)(gb:∀r∈ws,GB r.t r.b)(ln:ws.length<=4)(hf:∀n,Nx N (st.1 n))(hc:Nx M st.2)(n:Str):Nx (N+M+161) ((aX st ws).1 n):=by
 have b:=sendS_bd (n:=n) (ws:=ws) (st:=st) (N:=N) (M:=M) nd gb (hf n).t (hf n).b hc.t hc.b;exact(Nx.mk b.1 b.2).mono (by lia)
noncomputable def pH(c g:Int×Int):Int×Int:=(c.1*g.2,c.2*(g.1-g.2))
noncomputable def pT(c g:Int×Int):Int×Int:=(c.1*g.2,c.2*(g.2-g.1))
theorem sub_nx{x y:Int}(h1:x.natAbs<=2^n)(h2:y.natAbs<=2^n):(x-y).natAbs<=2^(n+1):=by rw[Nat.pow_succ];omega
theorem pH_nx(h:Nx M c)(k:Nx 160 g):Nx (M+161) (pH c g):=⟨jV (a8 h.t k.b) (kG (by decide) (by lia)),a8 h.b (sub_nx k.t k.b)⟩
theorem pT_nx(h:Nx M c)(k:Nx 160 g):Nx (M+161) (pT c g):=⟨jV (a8 h.t k.b) (kG (by decide) (by lia)),a8 h.b (sub_nx k.b k.t)⟩
noncomputable def hdF(f:Str->Int×Int)(c:Int×Int)(hd:List WR):Str->Int×Int:=if hd=[]then f else(aX (f,pH c (gp hd)) hd).1
noncomputable def taF(st:DuS)(ta:List WR):Str->Int×Int:=if ta=[]then st.1 else(aX (st.1,pT st.2 (gp ta)) ta).1
noncomputable def plF(f:Str->Int×Int)(c:Int×Int)(hd pa ta:List WR):Str->Int×Int:=if hd≠[]/\(gp hd).1=(gp hd).2 then(aX (f,c) hd).1 else taF (aX (hdF f c hd,c) pa) ta
theorem sendS_put(hc:Nx M st.2)(hg:Nx 160 (gp ws)):Nx (M+160) (aX st ws).2:=by
 rw[sendS_two];exact hc.times hg
theorem hdF_nx(h:Leg H rs l hd)(hf:∀n,Nx N (f n))(hc:Nx M c)(n:Str):Nx (N+M+322) (hdF f c hd n):=by
 unfold hdF
 split
 ·exact(hf n).mono (by lia)
 ·exact(gW (N:=N) (M:=M+161) h.nd h.gb h.ln hf (pH_nx hc h.gpb) n).mono (by lia)
theorem plF_nx(h1:Leg H rs l1 hd)(h2:Leg H rs l2 pa)(h3:Leg H rs l3 ta)(hf:∀n,Nx N (f n))(hc:Nx M c)(n:Str):Nx (N+3*M+1000) (plF f c hd pa ta n):=by
 unfold plF
 split
 ·exact(gW (N:=N) (M:=M) h1.nd h1.gb h1.ln hf hc n).mono (by lia)
 ·have a1:=gW (N:=N+M+322) (M:=M) (st:=(hdF f c hd,c)) h2.nd h2.gb h2.ln (λn=>hdF_nx h1 hf hc n) hc;unfold taF
  split
  ·exact(a1 n).mono (by lia)
  ·exact(gW (N:=N+M+322+M+161) (M:=M+160+161) (st:=((aX (hdF f c hd,c) pa).1,pT (aX (hdF f c hd,c) pa).2 (gp ta))) h3.nd h3.gb h3.ln a1 (pT_nx (sendS_put (st:=(hdF f c hd,c)) hc h2.gpb) h3.gpb) n).mono (by lia)
theorem DueAt.mono(h:DueAt H q ns f)(s:Same H H'):DueAt H' q ns f:=⟨let⟨kv,e,tb⟩:=h.ex;⟨kv,s _ _ e,tb.mono λv x z=>z.mono s⟩,h.no⟩
inductive IspPlanned(vs:List V)(H:Hp)(Q:VK):Prop
 |mk(q d t lh lp lt g:Addr)(rs hd pa ta:List WR)(c:Int×Int)(ns:List Str)(f:Str->Int×Int)(N M:Nat)(h1:vs=[.ref q,.ref d,.ref t])(h2:q≠d)(h3:DueAt H q ns f)(h4:ns.length<=780)(h5:(∀n,Nx N (f n)))(h6:N+3*M+1000<=800000)(h7:RowsAt H d rs)(h8:(rs.map (·.nm)).Nodup)(h9:H t=some (.tup [.ref lh,.ref lp,.ref lt,.ref g]))(h10:Leg H rs lh hd)(h11:Leg H rs lp pa)(h12:Leg H rs lt ta)(h13:H g=some (.tup [.int c.1,.int c.2]))(h14:Nx M c)(h15:(hd≠[]/\(gp hd).1=(gp hd).2->pa=[]/\ta=[]))(h16:∀H',KpD q H H'->DueAt H' q (ns++hd.map (·.nm)++pa.map (·.nm)++ta.map (·.nm)) (plF f c hd pa ta)->Q .non H'):IspPlanned vs H Q
noncomputable def spPlanned(K:W.Frag):Sp:=λvs H Q _=>IspPlanned vs H Q
theorem hG(T:TX K mg a):FnB P w K mg base CX0 "_law_planned" 3 ["_law_due_here","_law_ways_here","_law_strand_here"] (spPlanned K):=by
 refine T.d_law_planned.okA sc_law_planned λf cdv A outer s H vs Q E hr h=>?_;obtain⟨q,d,t,lh,lp,lt,g,rs,hd,pa,ta,c,ns,f,N,M,rfl,nqd,du0,lns,hf,hNM,hR,nd,ht,Lh,Lp,Lt,hg,hc,rd,k⟩:=h
 refine⟨_,(af (aj (i:=3) sc_law_planned.nd (al av (pv 2) ab))
  (af (aj (i:=4) sc_law_planned.nd (az (eT T) hr aq (aa (pv 1) (aa (al av (pv 2) ab) ae))))
  (aE (aN (PW.pt (c8 (au (g9 hr.units0) (al av (pv 2) ab) (aR ae)) (cH (au cT (al av (pv 4) ab) (al av (pv 4) ab))))) (af (aT (az (fJ T) hr aq (aa (pv 0) (aa (pv 1) (aa (al av (pv 2) ab) (aa (pv 3) ae))))))
  (ah ps_retN)) aA)
  (aE (aN (au (g9 hr.units0) (al av (pv 2) ab) (aR ae)) (ah (aT (az (fJ T) hr aq (aa (pv 0) (aa (pv 1) (aa (al av (pv 2) ab) (aa (aU (aa (ao cS (al av (pv 3) ab) (al av (pv 4) ab)) (aa (ao cS (al av (pv 3) ab) (ao cv (al av (pv 4) ab) (al av (pv 4) ab))) ae))) ae))))))) aA)
  (af (aj (i:=5) sc_law_planned.nd (az (fJ T) hr aq (aa (pv 0) (aa (pv 1) (aa (al av (pv 2) ab) (aa (pv 3) ae))))))
  (ah (aN (au (g9 hr.units0) (al av (pv 2) ab) (aR ae)) (af (aj (i:=4) sc_law_planned.nd (az (eT T) hr aq (aa (pv 1) (aa (al av (pv 2) ab) ae))))
  (ah (aT (az (fJ T) hr aq (aa (pv 0) (aa (pv 1) (aa (al av (pv 2) ab) (aa (aU (aa (ao cS (al av (pv 5) ab) (al av (pv 4) ab)) (aa (ao cS (al av (pv 5) ab) (ao cv (al av (pv 4) ab) (al av (pv 4) ab))) ae))) ae)))))))) aA))))))),?_⟩
 walk_at"q"
 generalize hk9:iy _ _=k9
 revert k9
 refine fP λk9 hk9=>?_;obtain⟨kvq,hq,_⟩:=du0.ex;refine⟨_,rfl,t,_,_,_,rfl,rfl,SqT.of ht,rfl,?_⟩;refine⟨_,rfl,_,rfl,t,_,_,_,rfl,rfl,SqT.of ht,rfl,d,lh,rs,hd,rfl,hR,nd,SqL.of Lh.hl,Lh.sub,Lh.gb,by have:=Lh.ln;lia,λg1 H1 s1 hg1=>?_⟩;subst hk9;refine bM (λσ' H'=>σ'=[some (.ref q),some (.ref d),some (.ref t),some (.ref g),some (.ref g1),none]/\Same H1 H'/\¬(hd≠[]/\(gp hd).1=(gp hd).2)) ?_ ?_
 ·refine⟨_,rfl,t,_,_,_,rfl,rfl,SqT.of (s1 _ _ ht),rfl,zL0,λx nx=>?_⟩;obtain⟨H2,zq,sx,hx⟩:=uG (o:=.lst []) nx;rw[zq];have s2:=s1.trans sx;refine⟨lh,x,_,rfl,rfl,SqL.of (s2 _ _ Lh.hl),SqL.of hx,?_⟩
  cases hd with
  |nil=>exact⟨_,rfl,iteF (iteF ⟨rfl,sx,λz=>z.1 rfl⟩)⟩
  |cons r hd=>
   refine⟨_,rfl,iteT ?_⟩;have hg2:=SqT.of (K:=K) (sx _ _ hg1);refine⟨_,rfl,g1,_,_,_,rfl,rfl,hg2,rfl,_,rfl,g1,_,_,_,rfl,rfl,hg2,rfl,rfl,_,rfl,ifV (λe=>?_) (λe=>⟨rfl,sx,λz=>e z.2⟩)⟩;have rr:r::hd≠[]/\(gp (r::hd)).1=(gp (r::hd)).2:=⟨by simp,e⟩;obtain⟨rfl,rfl⟩:=rd rr;refine⟨_,rfl,_,rfl,_,rfl,t,_,_,_,rfl,rfl,SqT.of (s2 _ _ ht),rfl,_,rfl,q,d,lh,g,rs,r::hd,ns,(f,c),N,M,rfl,nqd,du0.mono s2,by lia,hf,by lia,hR.mono s2,nd,s2 _ _ Lh.hl,Lh.sub,Lh.gb,Lh.nd,Lh.ln,s2 _ _ hg,hc,λg' H' kp du hg'=>?_⟩;refine k H' ((KpD.of s2).trans kp) ?_;unfold plF;rw[if_pos rr,l9,ly,ly];exact du
 rintro zU hzU σ' H2⟨rfl,sx,nr⟩;have s2:=s1.trans sx;subst hzU;refine bM (λσ' H'=>σ'=[some (.ref q),some (.ref d),some (.ref t),some (.ref g),some (.ref g1),none]/\KpD q H2 H'/\DueAt H' q (ns++hd.map (·.nm)) (hdF f c hd)) ?_ ?_
 ·refine⟨_,rfl,t,_,_,_,rfl,rfl,SqT.of (s2 _ _ ht),rfl,zL0,λx nx=>?_⟩;obtain⟨H3,zq,sy,hx⟩:=uG (o:=.lst []) nx;rw[zq];have s3:=s2.trans sy;have gc3:=SqT.of (K:=K) (s3 _ _ hg);have hg3:=SqT.of (K:=K) ((sx.trans sy) _ _ hg1);refine⟨lh,x,_,rfl,rfl,SqL.of (s3 _ _ Lh.hl),SqL.of hx,?_⟩;have y:=Lh.gpb
  cases hd with
  |nil=>exact⟨_,rfl,iteF ⟨rfl,KpD.of sy,by rw[l9,ly];exact du0.mono s3⟩⟩
  |cons r hd=>
   refine⟨_,rfl,iteT ?_⟩;generalize hW:r::hd=W at*;have nW:W≠[]:=by rw[<-hW];simp
   refine⟨_,rfl,_,rfl,_,rfl,t,_,_,_,rfl,rfl,SqT.of (s3 _ _ ht),rfl,?_⟩;refine⟨_,rfl,g,_,_,_,rfl,rfl,gc3,rfl,_,rfl,g1,_,_,_,rfl,rfl,hg3,rfl,_,_,rfl,rfl,eY hc.t y.b (by lia),?_⟩;refine⟨_,rfl,g,_,_,_,rfl,rfl,gc3,rfl,_,rfl,g1,_,_,_,rfl,rfl,hg3,rfl,_,rfl,g1,_,_,_,rfl,rfl,hg3,rfl,_,_,rfl,rfl,_,_,rfl,rfl,eY hc.b (sub_nx y.t y.b) (by lia),zL2,λtp ntp=>?_⟩;obtain⟨H4,zq,s4,h4⟩:=uG (o:=.tup [.int (c.1*(gp W).2),.int (c.2*((gp W).1-(gp W).2))]) ntp;rw[zq];have s34:=s3.trans s4;refine⟨q,d,lh,tp,rs,W,ns,(f,pH c (gp W)),N,M+161,rfl,nqd,du0.mono s34,by lia,hf,by lia,hR.mono s34,nd,s34 _ _ Lh.hl,Lh.sub,Lh.gb,Lh.nd,Lh.ln,h4,pH_nx hc y,λg' H' kp du hg'=>?_⟩;refine⟨rfl,(KpD.of (sy.trans s4)).trans kp,?_⟩;unfold hdF;rw[if_neg nW];exact du
 rintro zU hzU σ' H3⟨rfl,k3,du3⟩;have k13:KpD q H H3:=(KpD.of s2).trans k3;have R3:=hR.kp nqd.symm hq k13;have P3:=Lp.kp hq k13;have T3:=Lt.kp hq k13;have ht3:=k13 _ _ (aG ht hq (by intro z;cases z)) ht;have gc3:=k13 _ _ (aG hg hq (by intro z;cases z)) hg;have bf:=λn=>hdF_nx Lh hf hc n;have l1:=Lh.ln;have l2:=Lp.ln;subst hzU;refine⟨_,rfl,_,rfl,_,rfl,t,_,_,_,rfl,rfl,SqT.of ht3,rfl,_,rfl,q,d,lp,g,rs,pa,_,(hdF f c hd,c),N+M+322,M,rfl,nqd,du3,by rw[jO,jF];lia,bf,by lia,R3,nd,P3.hl,P3.sub,P3.gb,P3.nd,P3.ln,gc3,hc,λg4 H4 k4 du4 hg4=>?_⟩;have b4:=gW (N:=N+M+322) (M:=M) (st:=(hdF f c hd,c)) Lp.nd Lp.gb Lp.ln bf hc;have m4:=sendS_put (st:=(hdF f c hd,c)) (M:=M) hc Lp.gpb;have fin:plF f c hd pa ta=taF (aX (hdF f c hd,c) pa) ta:=by unfold plF;rw[if_neg nr]
 rw[fin]at k;clear fin bf;generalize aX (hdF f c hd,c) pa=st at k du4 hg4 b4 m4⊢;have k14:=k13.trans k4;obtain⟨kv3,hq3,_⟩:=du3.ex;have ht4:=k4 _ _ (aG ht3 hq3 (by intro z;cases z)) ht3;have T4:=T3.kp hq3 k4;have R4:=R3.kp nqd.symm hq3 k4;have y:=Lt.gpb;refine⟨_,rfl,t,_,_,_,rfl,rfl,SqT.of ht4,rfl,zL0,λx nx=>?_⟩;obtain⟨H5,zq,sy,hx⟩:=uG (o:=.lst []) nx;rw[zq];refine⟨lt,x,_,rfl,rfl,SqL.of (sy _ _ T4.hl),SqL.of hx,?_⟩
 cases ta with
 |nil=>
  refine⟨_,rfl,iteF ?_⟩;refine k H5 (k14.trans (KpD.of sy)) ?_;rw[l9,ly];unfold taF;rw[if_pos rfl];exact du4.mono sy
 |cons r ta=>
  refine⟨_,rfl,iteT ?_⟩;generalize hW:r::ta=W at*;have nW:W≠[]:=by rw[<-hW];simp
  refine⟨_,rfl,_,rfl,t,_,_,_,rfl,rfl,SqT.of (sy _ _ ht4),rfl,d,lt,rs,W,rfl,R4.mono sy,nd,SqL.of (sy _ _ T4.hl),Lt.sub,Lt.gb,by have:=Lt.ln;lia,λg6 H6 s6 hg6=>?_⟩;have s46:=sy.trans s6;have go6:=SqT.of (K:=K) (s46 _ _ hg4);have gg6:=SqT.of (K:=K) hg6;refine⟨_,rfl,_,rfl,_,rfl,t,_,_,_,rfl,rfl,SqT.of (s46 _ _ ht4),rfl,?_⟩;refine⟨_,rfl,g4,_,_,_,rfl,rfl,go6,rfl,_,rfl,g6,_,_,_,rfl,rfl,gg6,rfl,_,_,rfl,rfl,eY m4.t y.b (by lia),?_⟩;refine⟨_,rfl,g4,_,_,_,rfl,rfl,go6,rfl,_,rfl,g6,_,_,_,rfl,rfl,gg6,rfl,_,rfl,g6,_,_,_,rfl,rfl,gg6,rfl,_,_,rfl,rfl,_,_,rfl,rfl,eY m4.b (sub_nx y.b y.t) (by lia),zL2,λtp ntp=>?_⟩;obtain⟨H7,zq,s7,h7⟩:=uG (o:=.tup [.int (st.2.1*(gp W).2),.int (st.2.2*((gp W).2-(gp W).1))]) ntp;rw[zq];have s47:=s46.trans s7;refine⟨q,d,lt,tp,rs,W,_,(st.1,pT st.2 (gp W)),N+M+322+M+161,M+160+161,rfl,nqd,du4.mono s47,by rw[jO,jO,jF,jF];lia,b4,by lia,R4.mono s47,nd,s47 _ _ T4.hl,Lt.sub,Lt.gb,Lt.nd,Lt.ln,h7,pT_nx m4 y,λg' H' kp du hg'=>?_⟩;refine k H' ((k14.trans (KpD.of s47)).trans kp) ?_;unfold taF;rw[if_neg nW];exact du
noncomputable def vl(c:Int×Int):Rat:=Rat.divInt c.1 c.2
theorem cE(c:Int×Int):vl c=(c.1:Rat)/(c.2:Rat):=lA _ _
theorem cf{z:Int}(h:z≠0):(z:Rat)≠0:=λe=>h (by exact_mod_cast e)
theorem vl_plus(hc:c.2≠0)(he:e.2≠0):vl (plP c e)=vl c+vl e:=by
 have h1:=cf hc;have h2:=cf he;rw[cE,cE,cE];show((c.1*e.2+e.1*c.2:Int):Rat)/((c.2*e.2:Int):Rat)=_;rw[Rat.intCast_add,k8,k8,k8];have a1:=j7 _ h1;have a2:=j7 _ h2;have a3:=j7 ((c.2:Rat)*(e.2:Rat)) (λz=>(Rat.mul_eq_zero.mp z).elim h1 h2);rw[kH,kH,kH];grind
theorem vl_times(hc:c.2≠0)(he:e.2≠0):vl (tmP c e)=vl c*vl e:=by
 have h1:=cf hc;have h2:=cf he;rw[cE,cE,cE];show((c.1*e.1:Int):Rat)/((c.2*e.2:Int):Rat)=_;rw[k8,k8];have a1:=j7 _ h1;have a2:=j7 _ h2;have a3:=j7 ((c.2:Rat)*(e.2:Rat)) (λz=>(Rat.mul_eq_zero.mp z).elim h1 h2);rw[kH,kH,kH];grind
theorem cj:∀{ws:List WR}{st:DuS},(∀r∈ws,GB r.t r.b)->st.2.2≠0->(∀m,(st.1 m).2≠0)->vl ((aX st ws).1 n)=vl (st.1 n)+sA (vl st.2) (ws.map WR.d) n/\(∀m,((aX st ws).1 m).2≠0)/\(aX st ws).2.2≠0/\vl (aX st ws).2=going (vl st.2) (ws.map WR.d)
 |[],st,_,h1,h2=>⟨by rw[l9,sA_nil];show vl (st.1 n)=_;grind,h2,h1,rfl⟩
 |r::ws,st,gb,h1,h2=>by
  have hr:=gb r j4;have b0:r.b≠0:=by have:=hr.b0;omega
  have g:vl (bY st r).2=vl st.2*aD r.d.kd r.d.x:=by
   rw[WR.d_gain hr];exact vl_times (c:=st.2) (e:=(r.t,r.b)) h1 b0
  have f1:∀m,((bY st r).1 m).2≠0:=λm=>by
   show(upf st.1 r.nm _ m).2≠0;unfold upf
   split
   ·exact Int.mul_ne_zero (h2 _) h1
   ·exact h2 m
  obtain⟨i1,i2,i3,i4⟩:=cj (n:=n) (ws:=ws) (st:=bY st r) (λx hx=>gb x (jW _ hx)) (Int.mul_ne_zero h1 b0) f1;refine⟨?_,i2,i3,?_⟩
  ·show vl ((aX (bY st r) ws).1 n)=_;rw[i1,lv,ii,<-g,WR.d_nm]
   have:vl ((bY st r).1 n)=vl (st.1 n)+if n=r.nm then vl st.2 else 0:=by
    show vl (upf st.1 r.nm _ n)=_;unfold upf
    split
    ·rename_i e;rw[e];exact vl_plus (h2 _) h1
    ·grind
   rw[this];grind
  ·show vl (aX (bY st r) ws).2=_;rw[i4,lv,going_cons,<-g]
theorem iY(gb:∀r∈ws,GB r.t r.b):aB (ws.map WR.d)=vl (gp ws)/\1<=(gp ws).1/\1<=(gp ws).2:=by
 have b:=gp_bd (n:=40) (ws:=ws) (λr hr=>(gb r hr).all) ws.length (jJ _);rw[jQ]at b;have h:=(cj (n:="") (ws:=ws) (st:=(λ_=>(0,1),(1,1))) gb (by decide) λ_=>by show(1:Int)≠0;decide).2.2.2;rw[sendS_two]at h;refine⟨?_,b.t0,b.b0⟩;have e:((1:Int)*(gp ws).1,(1:Int)*(gp ws).2)=gp ws:=by rw[Int.one_mul,Int.one_mul]
 show going 1 (ws.map WR.d)=_;have h:vl ((1:Int)*(gp ws).1,(1:Int)*(gp ws).2)=going (vl (1,1)) (ws.map WR.d):=h;rw[e,show vl (1,1)=1 from rfl]at h;exact h.symm
theorem gU(h:1<=c.2):(vl c=1↔c.1=c.2)/\(1<vl c↔c.2<c.1)/\(vl c<1↔c.1<c.2)/\(0<=vl c↔0<=c.1):=by
 have hp:(0:Rat)<(c.2:Rat):=by exact_mod_cast(show(0:Int)<c.2 by lia)
 have e:vl c*(c.2:Rat)=(c.1:Rat):=by rw[cE];exact kX (by grind)
 have m1:∀{x y:Rat},x<y->x*(c.2:Rat)<y*(c.2:Rat):=λ{x y}q=>by have:=cK (show 0<y-x by grind) hp;grind
 have t1:=Rat.lt_irrefl (a:=vl c);have tri:vl c<1∨vl c=1∨1<vl c:=by grind
 have z1:vl c<1->c.1<c.2:=λq=>by have:=m1 q;rw[e,Rat.one_mul]at this;exact_mod_cast this
 have z2:1<vl c->c.2<c.1:=λq=>by have:=m1 q;rw[e,Rat.one_mul]at this;exact_mod_cast this
 have z3:vl c=1->c.1=c.2:=λq=>by rw[q,Rat.one_mul]at e;exact_mod_cast e.symm
 refine⟨⟨z3,λq=>?_⟩,⟨z2,λq=>?_⟩,⟨z1,λq=>?_⟩,⟨λq=>?_,λq=>?_⟩⟩
 ·rcases tri with z|z|z
  ·have:=z1 z;lia
  ·exact z
  ·have:=z2 z;lia
 ·rcases tri with z|z|z
  ·have:=z1 z;lia
  ·have:=z3 z;lia
  ·exact z
 ·rcases tri with z|z|z
  ·exact z
  ·have:=z3 z;lia
  ·have:=z2 z;lia
 ·have:=eZ q (kI hp)
  rw[e]at this
  exact_mod_cast this
 ·refine kn λz=>?_
  have:vl c<0:=by grind
  have:=m1 this
  rw[e,Rat.zero_mul]at this
  have:c.1<0:=by exact_mod_cast this
  lia
theorem pH_val(hc:c.2≠0)(hg:1<=g.2)(h:g.2<g.1):vl (pH c g)=vl c/df (vl g):=by
 have h1:=cf hc;have h2:=cf (show g.2≠0 by lia);have h3:=cf (show g.1-g.2≠0 by lia);have e:df (vl g)=vl g-1:=if_pos ((gU hg).2.1.mpr h);rw[e];have ev:vl g*(g.2:Rat)=(g.1:Rat):=by rw[cE];exact kX h2
 have ec:vl c*(c.2:Rat)=(c.1:Rat):=by rw[cE];exact kX h1
 rw[Rat.intCast_sub]at h3;have hd:vl g-1≠0:=λz=>h3 (by rw[<-ev];grind);rw[cE];show((c.1*g.2:Int):Rat)/((c.2*(g.1-g.2):Int):Rat)=_;rw[k8,k8,Rat.intCast_sub,<-ec,<-ev];have a1:=j7 _ hd;have a2:=j7 ((c.2:Rat)*(vl g*(g.2:Rat)-(g.2:Rat))) (λz=>(Rat.mul_eq_zero.mp z).elim h1 λq=>hd (by have:=j7 _ h2;grind));rw[kH,kH];grind
theorem pT_val(hc:c.2≠0)(hg:1<=g.2)(h:g.1<g.2):vl (pT c g)=vl c/df (vl g):=by
 have h1:=cf hc;have h2:=cf (show g.2≠0 by lia);have h3:=cf (show g.2-g.1≠0 by lia);have lt:=(gU hg).2.2.1.mpr h;have e:df (vl g)=1-vl g:=if_neg (by grind);rw[e];have ev:vl g*(g.2:Rat)=(g.1:Rat):=by rw[cE];exact kX h2
 have ec:vl c*(c.2:Rat)=(c.1:Rat):=by rw[cE];exact kX h1
 rw[Rat.intCast_sub]at h3;have hd:1-vl g≠0:=λz=>h3 (by rw[<-ev];grind);rw[cE];show((c.1*g.2:Int):Rat)/((c.2*(g.2-g.1):Int):Rat)=_;rw[k8,k8,Rat.intCast_sub,<-ec,<-ev];have a1:=j7 _ hd;have a2:=j7 ((c.2:Rat)*((g.2:Rat)-vl g*(g.2:Rat))) (λz=>(Rat.mul_eq_zero.mp z).elim h1 λq=>hd (by have:=j7 _ h2;grind));rw[kH,kH];grind
structure StV(hd pa ta:List WR)(c:Int×Int):Prop where
 g1:∀r∈hd,GB r.t r.b
 g2:∀r∈pa,GB r.t r.b
 g3:∀r∈ta,GB r.t r.b
 c2:c.2≠0
 he:hd≠[]->(gp hd).1=(gp hd).2/\pa=[]/\ta=[]∨(gp hd).2<(gp hd).1
 te:ta≠[]->(gp ta).1<(gp ta).2
theorem mapE:ws.map WR.d=[]↔ws=[]:=List.map_eq_nil_iff
theorem plF_val(h:StV hd pa ta c)(hf:∀m,(f m).2≠0)(ad:List Addr):(∀n,vl (plF f c hd pa ta n)=vl (f n)+sdA ⟨hd.map WR.d,pa.map WR.d,ta.map WR.d,vl c,ad⟩ n)/\∀m,(plF f c hd pa ta m).2≠0:=by
 obtain⟨gh,h1,h2⟩:=iY h.g1;obtain⟨gt,t1,t2⟩:=iY h.g3;unfold plF;by_cases e:hd≠[]/\(gp hd).1=(gp hd).2
 ·rw[if_pos e];obtain⟨_,rfl,rfl⟩:=(h.he e.1).resolve_right λz=>by have:=e.2;lia
  refine⟨λn=>?_,(cj (n:="") (st:=(f,c)) h.g1 h.c2 hf).2.1⟩;rw[(cj (n:=n) (st:=(f,c)) h.g1 h.c2 hf).1];unfold sdA;show _=vl (f n)+((if hd.map WR.d≠[]/\aB (hd.map WR.d)=1 then sA (vl c) (hd.map WR.d) n else _)+sA (vl c) [] n+enA [] _ n);rw[if_pos ⟨λz=>e.1 (mapE.mp z),by rw[gh];exact(gU h2).1.mpr e.2⟩,sA_nil];unfold enA;rw[if_pos rfl];show vl (f n)+sA (vl c) (hd.map WR.d) n=_;grind
 ·rw[if_neg e]
  have eh:∀n,vl (hdF f c hd n)=vl (f n)+enA (hd.map WR.d) (vl c) n:=λn=>by
   unfold hdF enA;by_cases z:hd=[]
   ·rw[if_pos z,if_pos (mapE.mpr z)];grind
   ·have lt:=(h.he z).resolve_left λq=>e ⟨z,q.1⟩;rw[if_neg z,if_neg λq=>z (mapE.mp q),(cj (n:=n) (st:=(f,pH c (gp hd))) h.g1 (Int.mul_ne_zero h.c2 (by lia)) hf).1];show vl (f n)+sA (vl (pH c (gp hd))) _ n=_;rw[pH_val h.c2 h2 lt,gh,eM]
  have fh:∀m,(hdF f c hd m).2≠0:=by
   unfold hdF;by_cases z:hd=[]
   ·rw[if_pos z];exact hf
   ·have lt:=(h.he z).resolve_left λq=>e ⟨z,q.1⟩;rw[if_neg z];exact(cj (n:="") (st:=(f,pH c (gp hd))) h.g1 (Int.mul_ne_zero h.c2 (by lia)) hf).2.1
  obtain⟨_,p2,p3,p4⟩:=cj (n:="") (st:=(hdF f c hd,c)) h.g2 h.c2 fh;have p1:=λn=>(cj (n:=n) (st:=(hdF f c hd,c)) h.g2 h.c2 fh).1;have hx:(if hd.map WR.d≠[]/\aB (hd.map WR.d)=1 then sA (vl c) (hd.map WR.d)=sA (vl c) (hd.map WR.d) else True):=by split<;>trivial
  have nf:¬(hd.map WR.d≠[]/\aB (hd.map WR.d)=1):=λq=>e ⟨λz=>q.1 (mapE.mpr z),(gU h2).1.mp (by rw[<-gh];exact q.2)⟩;unfold taF sdA;dsimp only;by_cases z:ta=[]
  ·rw[if_pos z];refine⟨λn=>?_,p2⟩;rw[if_neg nf,p1 n];show vl (hdF f c hd n)+sA (vl c) _ n=_;rw[eh n,z];unfold enA;rw[l9,if_pos (c:=([]:List WD)=[]) rfl];grind
  ·have lt:=h.te z;rw[if_neg z];have c3:(pT (aX (hdF f c hd,c) pa).2 (gp ta)).2≠0:=Int.mul_ne_zero p3 (by lia);refine⟨λn=>?_,(cj (n:="") (st:=((aX (hdF f c hd,c) pa).1,pT (aX (hdF f c hd,c) pa).2 (gp ta))) h.g3 c3 p2).2.1⟩;rw[if_neg nf,(cj (n:=n) (st:=((aX (hdF f c hd,c) pa).1,pT (aX (hdF f c hd,c) pa).2 (gp ta))) h.g3 c3 p2).1,p1 n];show vl (hdF f c hd n)+sA (vl c) _ n+sA (vl (pT (aX (hdF f c hd,c) pa).2 (gp ta))) _ n=_;rw[eh n,pT_val p3 t2 lt,p4];show _+_+sA (going (vl c) (pa.map WR.d)/_) _ n=_;rw[iw,eM (_/_)];unfold enA;rw[if_neg (c:=ta.map WR.d=[]) λq=>z (mapE.mp q),gt];grind
theorem fT:∀{ws:List WR}{st:DuS},(∀r∈ws,GB r.t r.b)->0<st.2.2->(∀m,0<(st.1 m).2)->(∀m,0<((aX st ws).1 m).2)/\0<(aX st ws).2.2
 |[],_,_,h,k=>⟨k,h⟩
 |r::ws,st,g,h,k=>by
  have b0:=(g r (j4 ..)).b0;refine fT (ws:=ws) (st:=bY st r) (λx hx=>g x (jW _ hx)) (lF h (by omega)) λm=>?_;show 0<(upf st.1 r.nm _ m).2;unfold upf
  split
  ·exact lF (k r.nm) h
  ·exact k m
theorem plF_pos(h:StV hd pa ta c)(hc:0<c.2)(hf:∀m,0<(f m).2):∀m,0<(plF f c hd pa ta m).2:=by
 unfold plF
 split
 ·exact(fT h.g1 (st:=(f,c)) hc hf).1
 ·rename_i z
  have fh:∀m,0<(hdF f c hd m).2:=by
   unfold hdF
   split
   ·exact hf
   ·rename_i ne;have gt:=(h.he ne).resolve_left λq=>z ⟨ne,q.1⟩;exact(fT h.g1 (st:=(f,pH c (gp hd))) (lF hc (by lia)) hf).1
  obtain⟨p1,p2⟩:=fT h.g2 (st:=(hdF f c hd,c)) hc fh;unfold taF
  split
  ·exact p1
  ·rename_i ne;have lt:=h.te ne;exact(fT h.g3 (st:=((aX (hdF f c hd,c) pa).1,pT (aX (hdF f c hd,c) pa).2 (gp ta))) (lF p2 (by lia)) p1).1
noncomputable abbrev EE:Nat:=181440000
noncomputable def DD:Nat:=60*420*EE^6
theorem gq_divInt{D:Nat}(hb:b∣(D:Int))(b0:b≠0):Gq D (Rat.divInt t b):=by
 obtain⟨k,hk⟩:=hb;refine⟨t*k,?_⟩;have h:=cf b0;rw[lA,k8]
 have e:((D:Nat):Rat)=(b:Rat)*(k:Rat):=by
  rw[<-k8,<-hk];rfl
 rw[e,<-Rat.mul_assoc,kX h]
theorem gnE(h:GB r.t r.b)(dv:DV r):GnE EE r.d:=by
 have b0:r.b≠0:=by have:=h.b0;omega
 have t0:r.t≠0:=by have:=h.t0;omega
 have h1:=cf b0;have h2:=cf t0;have hb:(0:Rat)<(r.b:Rat):=by exact_mod_cast(show(0:Int)<r.b by have:=h.b0;omega)
 have ht:(0:Rat)<(r.t:Rat):=by exact_mod_cast(show(0:Int)<r.t by have:=h.t0;omega)
 have e:=WR.d_gain h;refine⟨?_,by rw[e];exact gq_divInt dv.2 b0,?_⟩
 ·rw[e,lA,kH];exact cK ht (gC hb)
 ·have:(Rat.divInt r.t r.b)⁻¹=Rat.divInt r.b r.t:=by
   rw[lA,lA,kH,kH];have a1:=j7 _ h1;have a2:=j7 _ h2;have a3:=j7 ((r.t:Rat)*(r.b:Rat)⁻¹) (λz=>(Rat.mul_eq_zero.mp z).elim h2 λq=>by rw[q]at a1;grind);grind
  rw[e,this];exact gq_divInt dv.1 t0
theorem RsG.gn(h:RsG sp rs)(hr:r∈rs):GnE EE r.d/\SmR r.d.x/\Bd 12 (aD r.d.kd r.d.x):=by
 obtain⟨g,dv⟩:=h.all r hr;exact⟨gnE g.gb dv,(WR.d_sm g.gb).1,(WR.d_sm g.gb).2.1⟩
theorem dv420{t:Int}(h0:1<=t)(h1:t<=7):t∣420:=by
 have:t=1∨t=2∨t=3∨t=4∨t=5∨t=6∨t=7:=by lia
 rcases this with rfl|rfl|rfl|rfl|rfl|rfl|rfl<;>decide
theorem dvsix{t:Int}(h0:1<=t)(h1:t<=6):t∣60:=by
 have:t=1∨t=2∨t=3∨t=4∨t=5∨t=6:=by lia
 rcases this with rfl|rfl|rfl|rfl|rfl|rfl<;>decide
theorem szD{D m:Nat}(hb:b∣(D:Int))(b0:1<=b)(t0:0<=t)(tm:t<=((2^m:Nat):Int)):SzQ D m (Rat.divInt t b):=by
 have hp:(0:Rat)<(b:Rat):=by exact_mod_cast(show(0:Int)<b by lia)
 have e:Rat.divInt t b*(b:Rat)=(t:Rat):=by rw[lA];exact kX (by grind)
 have n0:0<=Rat.divInt t b:=by
  rw[lA,kH];exact eZ (by exact_mod_cast t0) (kI (gC hp))
 refine⟨n0,gq_divInt hb (by lia),?_⟩;have b1:(1:Rat)<=(b:Rat):=by exact_mod_cast b0
 have:=Rat.mul_le_mul_of_nonneg_left b1 n0
 have tm':(t:Rat)<=((2^m:Nat):Rat):=by exact_mod_cast tm
 grind
theorem df_sz(h2:1<=g.2)(fb:FB u v)(e:g.1*v=u*g.2)(ne:g.1≠g.2):SzQ 420 3 (df (vl g))⁻¹:=by
 have hv:(0:Rat)<(v:Rat):=by exact_mod_cast(show(0:Int)<v by have:=fb.b0;lia)
 have hg:(0:Rat)<(g.2:Rat):=by exact_mod_cast(show(0:Int)<g.2 by lia)
 have ev:vl g*(g.2:Rat)=(g.1:Rat):=by rw[cE];exact kX (by grind)
 have er:(g.1:Rat)*(v:Rat)=(u:Rat)*(g.2:Rat):=by rw[<-k8,<-k8,e]
 have ex:vl g*(v:Rat)=(u:Rat):=by
  have:(vl g*(v:Rat)-(u:Rat))*(g.2:Rat)=0:=by grind
  rcases Rat.mul_eq_zero.mp this with z|z
  ·grind
  ·grind
 have t0:=fb.t0;have t1:=fb.t1;have b0:=fb.b0;have b1:=fb.b1;have ne':u≠v:=λz=>ne (by rw[z]at e;exact Int.eq_of_mul_eq_mul_right (show v≠0 by lia) (by rw[e,kN]))
 have key:∀w:Int,1<=w->w<=7->df (vl g)*(v:Rat)=(w:Rat)->SzQ 420 3 (df (vl g))⁻¹:=λw w0 w1 ew=>by
  have hw:(0:Rat)<(w:Rat):=by exact_mod_cast(show(0:Int)<w by lia)
  have dn:df (vl g)≠0:=λz=>by rw[z,Rat.zero_mul]at ew;grind
  have:(df (vl g))⁻¹=Rat.divInt v w:=by
   rw[lA,<-ew,kH];have a1:=j7 _ dn;have a2:=j7 _ (show(v:Rat)≠0 by grind);have a3:=j7 (df (vl g)*(v:Rat)) (by rw[ew];grind);grind
  rw[this];exact szD (dv420 w0 w1) w0 (by lia) (by show v<=8;lia)
 by_cases c:1<vl g
 ·refine key (u-v) ?_ (by lia) (by unfold df;rw[if_pos c,Rat.intCast_sub];grind)
  have:(v:Rat)<(u:Rat):=by have:=cK (show 0<vl g-1 by grind) hv;grind
  have:v<u:=by exact_mod_cast this
  lia
 ·refine key (v-u) ?_ (by lia) (by unfold df;rw[if_neg c,Rat.intCast_sub];grind)
  have:(u:Rat)<=(v:Rat):=by have:=eZ (show 0<=1-vl g by grind) (kI hv);grind
  have:u<=v:=by exact_mod_cast this
  lia
theorem SzQ.add(h:SzQ D m x)(k:SzQ D m y):SzQ D (m+1) (x+y):=by
 refine⟨by have:=h.nn;have:=k.nn;grind,h.gq.add k.gq,?_⟩;have e:((2^(m+1):Nat):Rat)=((2^m:Nat):Rat)+((2^m:Nat):Rat):=by rw[Nat.pow_succ,Nat.mul_two,Rat.natCast_add]
 rw[e]
 have:=h.le
 have:=k.le
 grind
theorem SdO.sz(h:SdO rs hd pa ta c)(G:RsG sp rs)(ad:List Addr)(n:Str):SzQ DD 81 (sdA ⟨hd.map WR.d,pa.map WR.d,ta.map WR.d,vl c,ad⟩ n):=by
 have gE:∀{ws:List WR},(∀r∈ws,r∈rs)->∀d∈ws.map WR.d,GnE EE d/\SmR d.x/\Bd 12 (aD d.kd d.x):=λ{ws}s d hd=>by
  obtain⟨r,hr,rfl⟩:=jL.mp hd;exact G.gn (s r hr)
 have nD:∀{ws:List WR},(ws.map (·.nm)).Nodup->((ws.map WR.d).map (·.nm)).Nodup:=λ{ws}q=>by
  rw[kO,show((λx:WD=>x.nm)∘WR.d)=(λr:WR=>r.nm) from funext λr=>WR.d_nm r];exact q
 have sa:∀{ws:List WR},Prq ws->(∀r∈ws,r∈rs)->SzQ (EE^3) 36 (sA 1 (ws.map WR.d) n):=λ{ws}q s=>(sA_sz (B:=12) (m:=3) (nD q.nd) (gE s) (by rw[jF];have:=q.len;lia)).1 n;have x1:SzQ 60 4 (vl c):=szD (dvsix h.cb.b0 h.cb.b1) h.cb.b0 (by have:=h.cb.t0;lia) (by have:=h.cb.t1;show c.1<=16;lia);obtain⟨gh,_,h2⟩:=iY h.ph.gb;obtain⟨gt,_,t2⟩:=iY h.pt.gb
 have up:∀{i j m:Nat}{y:Rat},SzQ (60*EE^i) m y->i<=6->m<=79->SzQ DD 79 y:=λ{i j m y}q hi hm=>q.mono (by
  unfold DD;rw[Nat.mul_assoc];exact Nat.mul_dvd_mul_left _ (Nat.dvd_trans (Nat.pow_dvd_pow EE hi) (Nat.dvd_mul_left _ _))) hm
 have up2:∀{i m:Nat}{y:Rat},SzQ (60*EE^i*420) m y->i<=6->m<=79->SzQ DD 79 y:=λ{i m y}q hi hm=>q.mono (by
  unfold DD;rw[Nat.mul_assoc,Nat.mul_comm (EE^i),<-Nat.mul_assoc];exact Nat.mul_dvd_mul_left _ (Nat.pow_dvd_pow EE hi)) hm
 have x0:SzQ (60*EE^0) 4 (vl c):=x1
 have e1:SzQ DD 79 (if hd.map WR.d≠[]/\aB (hd.map WR.d)=1 then sA (vl c) (hd.map WR.d) n else enA (hd.map WR.d) (vl c) n):=by
  split
  ·rw[eM];exact up (j:=0) (x0.mulE (sa h.ph h.ih)) (by decide) (by decide)
  ·rename_i nf;unfold enA
   split
   ·exact SzQ.zero
   ·rename_i nh;have nh':hd≠[]:=λz=>nh (mapE.mpr z);obtain⟨u,v,fb,e⟩:=h.hf nh';have ne:(gp hd).1≠(gp hd).2:=λz=>nf ⟨nh,by rw[gh];exact(gU h2).1.mpr z⟩;have d:=df_sz h2 fb e ne;rw[<-gh]at d;rw[kH,Rat.mul_assoc,Rat.mul_comm (df _)⁻¹,<-Rat.mul_assoc];exact up2 ((x0.mulE (sa h.ph h.ih)).mul d) (by decide) (by decide)
 have e2:SzQ DD 79 (sA (vl c) (pa.map WR.d) n):=by
  rw[eM];exact up (j:=0) (x0.mulE (sa h.pp h.ip)) (by decide) (by decide)
 have e3:SzQ DD 79 (enA (ta.map WR.d) (vl c*aB (pa.map WR.d)) n):=by
  unfold enA
  split
  ·exact SzQ.zero
  ·rename_i nt;have nt':ta≠[]:=λz=>nt (mapE.mpr z);obtain⟨u,v,fb,e⟩:=h.tf nt';have d:=df_sz t2 fb e (by have:=h.te nt';lia);rw[<-gt]at d;rw[kH,Rat.mul_assoc,Rat.mul_comm (df _)⁻¹,<-Rat.mul_assoc];have gz:SzQ (EE^3) 36 (aB (pa.map WR.d)):=(jz (B:=12) (m:=3) (gE h.ip) (by rw[jF];exact h.lp)).1;exact up2 (((x0.mulE gz).mulE (sa h.pt h.it)).mul d) (by decide) (by decide)
 unfold sdA;exact(e1.add e2).add (e3.mono (Nat.dvd_refl _) (by decide))
structure DuO(rs:List WR)(m N:Nat)(ks:List Str)(f:Str->Int×Int):Prop where
 nx:∀n,Nx N (f n)
 b0:∀n,0<(f n).2
 sz:∀n,SzQ DD m (vl (f n))
 inn:∀n∈ks,n∈rs.map (·.nm)
theorem Prq.leg(h:Prq ws)(s:∀r∈ws,r∈rs)(hl:H l=some (.lst (nmR ws))):Leg H rs l ws:=⟨hl,s,h.gb,h.nd,h.len⟩
theorem SdO.v(h:SdO rs hd pa ta c):StV hd pa ta c:=⟨h.ph.gb,h.pp.gb,h.pt.gb,by have:=h.cb.b0;lia,h.he,h.te⟩
theorem SdO.ev(h:SdO rs hd pa ta c)(z:hd≠[]/\(gp hd).1=(gp hd).2):pa=[]/\ta=[]:=((h.he z.1).resolve_right λq=>by have:=z.2;lia).2
theorem CB.nx(h:CB c):Nx 4 c:=⟨by have:=h.t0;have:=h.t1;show c.1.natAbs<=16;omega,by have:=h.b0;have:=h.b1;show c.2.natAbs<=16;omega⟩
inductive IspDue(K:W.Frag)(vs:List V)(H:Hp)(Q:VK):Prop
 |mk(l d s q:Addr)(ns:List Int)(sp:List Str)(rs:List WR)(ts:List V)(ds:List DS)(h1:vs=[.ref l,.ref d,.ref s])(h2:SqL K H l (ns.map V.int))(h3:RowsAt H d rs)(h4:RsG sp rs)(h5:H s=some (.lst ts))(h6:RowAt (SdAt q) H ts ds)(h7:ds.length<=2)(h8:(∀x∈ds,SdO rs x.hd x.pa x.ta x.c))(h9:∀e H' ks f,H e=none->Same H H'->DueAt H' e ks f->ks.length<=100->DuO rs 100 3000 ks f->Q (.ref e) H'):IspDue K vs H Q
noncomputable def spDue(K:W.Frag):Sp:=λvs H Q _=>IspDue K vs H Q
theorem ok_law_due(T:TX K mg a):FnB P w K mg base CX0 "_law_due" 4 ["_law_script","_law_ways_here","_law_strands_here"] (spDue K):=by
 refine T.d_law_due.okA sc_law_due λf cdv A outer s H vs Q E hr h=>?_;obtain⟨l,d,s,qq,ns,sp,rs,ts,ds,rfl,hS,hR,G,hs,hds,lds,sdo,k⟩:=h
 refine⟨_,(af (aj (i:=3) sc_law_due.nd bK)
  (aE (aQ jR rfl (a5 (pv 2)) (aw (i:=4) sc_law_due.nd) (ah (aT (az (hG T) hr aq (aa (pv 3) (aa (pv 1) (aa (pv 4) ae)))))))
  (af (aj (i:=5) sc_law_due.nd (bj (cX hr.hd) (by rfl) T.z_list kK (aa (pv 1) ae)))
  (af (aQ jR rfl (bO rfl T.z_range (aa (aI a6 (by rfl) T.z_len km (aa (pv 5) ae)) ae)) (aw (i:=6) sc_law_due.nd) (af (aj (i:=7) sc_law_due.nd (az (a7 T) hr aq (aa (pv 0) (aa (ao aO ab (pv 6)) ae))))
  (ah (aN (au cT (ao aL (pv 7) ab) ab) (ah (bB (aJ hr) (pv 3) (al aM (pv 5) (pv 6)) (az (fK T) hr aq (aa (gf (aJ hr) (pv 3) (al aM (pv 5) (pv 6)) (aU (aa ab (aa ab ae))) ⟨rfl,rfl,rfl,rfl⟩) (aa (aU (aa (ao aL (ao br (pv 7) ab) ab) (aa (ao aO ab (ao aL (ao br (pv 7) ab) ab)) ae))) ae))) rfl)) aA))))
  (ah (ax (pv 3))))))),?_⟩
 walk_at"q"
 intro e ne;obtain⟨H0,zq,s0,h0⟩:=uG (o:=.dK []) ne;rw[zq];obtain⟨kvd,hd0,_⟩:=id hR;have ned:e≠d:=(ar hd0 ne).symm;have lts:ts.length=ds.length:=hds.1;refine bM (λσ' H'=>∃z4 ks f,σ'=[some (.ref l),some (.ref d),some (.ref s),some (.ref e),z4,none,none,none]/\Same H H'/\DueAt H' e ks f/\ks.length<=24/\DuO rs 84 2100 ks f) ?_ ?_
 ·refine⟨_,rfl,s,rfl,⟨_,SqL.of (s0 _ _ hs)⟩,ba (K:=K) (a:=s) (xs:=ts) (λi σ H2=>i<=ds.length/\∃z4 ks f,σ=[some (.ref l),some (.ref d),some (.ref s),some (.ref e),z4,none,none,none]/\Same H H2/\DueAt H2 e ks f/\ks.length<=12*i/\DuO rs (82+i) (1020*i) ks f)
   ⟨jU _,_,[],λ_=>(0,1),rfl,s0,⟨⟨[],h0,Tab.nil⟩,λ_ _=>rfl⟩,jJ _,⟨λ_=>⟨jU _,jJ _⟩,λ_=>zI1,λ_=>by rw[show vl (0,1)=0 from rfl];exact SzQ.zero,λn hn=>by cases hn⟩⟩ ((by rintro i σ H2 _⟨_,_,_,_,_,s2,_⟩;exact SqL.of (s2 _ _ hs))) ?_ ?_⟩
  ·rintro i v σ H2 hv⟨_,z4,ks,f,rfl,s2,du,lks,D⟩;obtain⟨x,ex,t,lh,lp,lt,g,rfl,t1,t2,t3,t4,t5,_⟩:=hds.get hv;have hi:i<ds.length:=(jG.mp ex).1;have xo:=sdo x (jI ex);have Lh:=xo.ph.leg xo.ih (s2 _ _ t2);have Lp:=xo.pp.leg xo.ip (s2 _ _ t3);have Lt:=xo.pt.leg xo.it (s2 _ _ t4);have l1:=xo.ph.len;have l2:=xo.lp;have l3:=xo.pt.len;refine⟨_,rfl,_,rfl,_,rfl,e,d,t,lh,lp,lt,g,rs,x.hd,x.pa,x.ta,x.c,ks,f,1020*i,4,rfl,ned,du,by lia,D.nx,by lia,hR.mono s2,G.nd,s2 _ _ t1,Lh,Lp,Lt,s2 _ _ t5,xo.cb.nx,xo.ev,λH3 k3 du3=>?_⟩;obtain⟨v1,v2⟩:=plF_val xo.v (λn=>lY (D.b0 n)) [];refine⟨hi,_,_,_,rfl,k3.same ne s2,du3,by simp only[jO,jF];lia,⟨λn=>(plF_nx Lh Lp Lt D.nx xo.cb.nx n).mono (by lia),plF_pos xo.v (by have:=xo.cb.b0;lia) D.b0,λn=>?_,λn hn=>?_⟩⟩
   ·rw[v1 n];exact(D.sz n).add ((xo.sz G [] n).mono (Nat.dvd_refl _) (by lia))
   ·have inR:∀{ws:List WR},(∀r∈ws,r∈rs)->n∈ws.map (·.nm)->n∈rs.map (·.nm):=λ{ws}q z=>by
     obtain⟨r,hr,rfl⟩:=jL.mp z;exact jL.mpr ⟨r,q r hr,rfl⟩
    rcases jP.mp hn with z|z
    ·rcases jP.mp z with z|z
     ·rcases jP.mp z with z|z
      ·exact D.inn n z
      ·exact inR xo.ih z
     ·exact inR xo.ip z
    ·exact inR xo.it z
  ·rintro σ H2⟨_,z4,ks,f,rfl,s2,du,lks,D⟩;rw[lts]at lks D;exact⟨z4,ks,f,rfl,s2,du,by lia,⟨λn=>(D.nx n).mono (by lia),D.b0,λn=>(D.sz n).mono (Nat.dvd_refl _) (by lia),D.inn⟩⟩
 rintro zU hzU σ' H2⟨z4,ks,f,rfl,s2,du,lks,D⟩;obtain⟨kvs,hd2,hk,_⟩:=hR.mono s2;subst hzU;refine⟨_,rfl,d,kvs,rfl,.inl hd2,λll nll=>?_⟩;rw[rows_keys hk];obtain⟨H3,zq,s3,h3⟩:=uG (o:=.lst ((rs.map (·.nm)).map V.str)) nll;rw[zq];have r12:=G.len;refine⟨_,rfl,ll,_,rfl,.inl (SqL.of h3),?_⟩;rw[jF,jF];refine⟨_,rfl,by lia,by lia,?_⟩;refine dW (λi σ H4=>i<=rs.length/\∃z4 z6 z7 ks f,σ=[some (.ref l),some (.ref d),some (.ref s),some (.ref e),z4,some (.ref ll),z6,z7]/\Same H H4/\H4 ll=some (.lst ((rs.map (·.nm)).map V.str))/\DueAt H4 e ks f/\ks.length<=24+i/\DuO rs (84+i) (2100+5*i) ks f) ⟨jU _,_,_,_,ks,f,rfl,s2.trans s3,h3,du.mono s3,by lia,D⟩ ?_ ?_
 ·rintro i σ H4 hi⟨_,z4,z6,z7,ks,f,rfl,s4,h4,du,lk,D⟩;have hi':i<rs.length:=by lia
  rw[Int.zero_add];refine⟨_,rfl,_,rfl,_,_,rfl,rfl,l,ns,_,rfl,s4.seq hS,by lia,by lia,λc=>?_⟩;refine⟨_,rfl,_,_,rfl,rfl,zI4,rfl,_,rfl,ifV (λe1=>?_) (λe1=>?_)⟩
  case refine_2=>exact⟨hi',_,_,_,ks,f,rfl,s4,h4,du,by lia,⟨λn=>(D.nx n).mono (by lia),D.b0,λn=>(D.sz n).mono (Nat.dvd_refl _) (by lia),D.inn⟩⟩
  obtain⟨r,er⟩:∃r,rs[i]?=some r:=⟨_,jH hi'⟩;have enm:(rs.map (·.nm))[i]?=some r.nm:=by rw[jK,er];rfl
  obtain⟨⟨kve,he,tb⟩,no⟩:=du;refine⟨_,rfl,e,rfl,.inl ⟨kve,.inl he⟩,_,rfl,_,rfl,ll,_,_,_,rfl,rfl,SqL.of h4,dh enm,zL2,λe0 ne0=>?_⟩;obtain⟨H5,zq,s5,h5⟩:=uG (o:=.tup [.int 0,.int 1]) ne0;rw[zq];have tb5:=tb.mono λv x z=>z.mono s5;refine⟨_,DGet.k (k:=Sum.inr r.nm) (s5 _ _ he),?_⟩
  have hval:DueIs H5 ((bI kve (Sum.inr r.nm)).getD (.ref e0)) (f r.nm):=by
   by_cases hn:r.nm∈a9 ks
   ·obtain⟨v,ev,z⟩:=tb5.vals _ hn;rw[ev];exact z
   ·rw[tb5.none hn,no _ λz=>hn (mem_keysOf.mpr z)];exact⟨e0,rfl,h5⟩
  generalize(bI kve (Sum.inr r.nm)).getD (.ref e0)=vv at hval⊢;obtain⟨e1',rfl,he1⟩:=hval;obtain⟨p0,p1⟩:=aW (c/4) (show(0:Int)<12 by decide);obtain⟨q0,q1⟩:=aW (c/48) (show(0:Int)<6 by decide);refine⟨_,rfl,_,_,rfl,rfl,⟨by decide,by decide⟩,_,_,rfl,rfl,zI12,_,rfl,_,_,rfl,rfl,⟨by decide,by decide⟩,_,_,rfl,rfl,zI6,_,_,rfl,rfl,zL2,λg ng=>?_⟩;obtain⟨H6,zq,s6,h6⟩:=uG (o:=.tup [.int (c/4%12),.int (1+c/48%6)]) ng;rw[zq];obtain⟨pc,epc⟩:∃pc:Int×Int,pc=(c/4%12,1+c/48%6):=⟨_,rfl⟩;have pn:Nx 4 pc:=by rw[epc];exact⟨by show(c/4%12).natAbs<=16;lia,by show(1+c/48%6).natAbs<=16;lia⟩
  have pb:0<pc.2:=by rw[epc];show 0<1+c/48%6;lia
  have ps:SzQ DD 4 (vl pc):=by
   rw[epc];exact(szD (D:=60) (dvsix (show 1<=1+c/48%6 by lia) (by lia)) (by lia) p0 (by show c/4%12<=16;lia)).mono (by unfold DD;rw[Nat.mul_assoc];exact Nat.dvd_mul_right _ _) (jJ _)
  have h6':H6 g=some (.tup [.int pc.1,.int pc.2]):=by rw[epc];exact h6
  refine⟨e1',g,f r.nm,pc,2100+5*i,4,rfl,s6 _ _ he1,h6',D.nx _,pn,by lia,λe2 ne2=>?_⟩;obtain⟨H7,zq,s7,h7⟩:=uG (o:=.tup [.int (plP (f r.nm) pc).1,.int (plP (f r.nm) pc).2]) ne2;rw[zq];have s57:=s6.trans s7;have s47:=s5.trans s57
  have lkv:kve.length<=900:=by
   rw[tb.len]
   have:=cy ks
   lia
  refine⟨_,rfl,_,rfl,_,rfl,ll,_,_,_,rfl,rfl,SqL.of (s47 _ _ h4),dh enm,e,_,rfl,DPut.k (k:=Sum.inr r.nm) (s47 _ _ he) (ay (by lia)),?_⟩;have kp:KeepD H7 (upd H7 e (.dK (bv kve (Sum.inr r.nm) (.ref e2)))):=KeepD.put (s47 _ _ he);have tb8:=Tab.put (n:=r.nm) (tb5.mono λv x z=>(z.mono s57).keep kp) (DueIs.keep (c:=plP (f r.nm) pc) ⟨e2,rfl,h7⟩ kp);refine⟨hi',_,_,_,ks++[r.nm],upf f r.nm (plP (f r.nm) pc),rfl,aF ne (s4.trans s47),?_,⟨⟨_,ag,by rw[fO];exact tb8⟩,λn hn=>?_⟩,by rw[jO,kr];lia,⟨λn=>?_,λn=>?_,λn=>?_,λn hn=>?_⟩⟩
  ·rw[ai (aG (s47 _ _ h4) (s47 _ _ he) (by intro z;cases z))];exact s47 _ _ h4
  ·rw[jP,not_or]at hn;rw[iS λz=>hn.2 (by rw[z];simp)];exact no n hn.1
  ·unfold upf
   split
   ·exact((D.nx _).plus pn).mono (by lia)
   ·exact(D.nx n).mono (by lia)
  ·unfold upf
   split
   ·exact lF (D.b0 _) pb
   ·exact D.b0 n
  ·unfold upf
   split
   ·rw[vl_plus (lY (D.b0 _)) (lY pb)];exact(D.sz _).add (ps.mono (Nat.dvd_refl _) (by lia))
   ·exact(D.sz n).mono (Nat.dvd_refl _) (by lia)
  ·rcases jP.mp hn with z|z
   ·exact D.inn n z
   ·rw[jN.mp z];exact jL.mpr ⟨r,jI er,rfl⟩
 ·rintro σ H4⟨_,z4,z6,z7,ks,f,rfl,s4,_,du4,lk4,D4⟩;have r13:(rs.length:Int).toNat=rs.length:=by lia
  exact⟨_,rfl,k e H4 ks f ne s4 du4 (by lia) ⟨λn=>(D4.nx n).mono (by lia),D4.b0,λn=>(D4.sz n).mono (Nat.dvd_refl _) (by lia),D4.inn⟩⟩
theorem neg_div(t b:Int):Rat.divInt (0-t) b=-Rat.divInt t b:=by
 rw[lA,lA,Int.zero_sub,Rat.intCast_neg];grind
theorem RowsAt.but(h:RowsAt H d rs)(he:H e=some (.dK kvs))(ne:d≠e)(k:∀b ob,H b=some ob->b≠e->H' b=some ob):RowsAt H' d rs:=by
 obtain⟨kv,h1,h2,h3⟩:=h;exact⟨kv,k _ _ h1 ne,h2,h3.mono (by rintro v x⟨p,g,z,x1,x2⟩;exact⟨p,g,z,k _ _ x1 (aG x1 he (by intro z;cases z)),k _ _ x2 (aG x2 he (by intro z;cases z))⟩)⟩
theorem two_conG(O:NsOk E ps ns)(hd:d∈ns):aZ (λm=>if m=d.nm then A m+x else A m) ns s=upf (upf (aZ A ns) d.st (aZ A ns d.st+-x)) d.go (aZ A ns d.go+x*aD d.kd d.x) s:=by
 rw[(sumF_upd ns O.ne O.nd s).2 d hd rfl];unfold con upf;have ne:=O.ne d hd;by_cases c1:s=d.go
 ·rw[if_pos c1,if_pos c1,c1]
 ·rw[if_neg c1,if_neg c1];by_cases c2:s=d.st
  ·rw[if_pos c2,if_pos c2,c2]
  ·rw[if_neg c2,if_neg c2];grind
theorem sumF_zero(O:NsOk E ps ns)(h:∀n,A n=0)(s:Str):aZ A ns s=0:=by
 have nn:∀n,0<=A n:=λn=>by rw[h n];exact Rat.le_refl
 have h1:=(no_out nn ns O.ne (λd hd=>(O.g1 d hd).1.ps) (s:=s) λd hd _=>h _).1;have h2:=(no_in nn ns O.ne (s:=s) λd hd _=>h _).1;grind
structure BrO(sp:List Str)(S:Str->Rat)(N:Nat)(F:Str->Int×Int):Prop where
 nx:∀s∈sp,Nx N (F s)
 b0:∀s∈sp,0<(F s).2
 v:∀s∈sp,vl (F s)=S s
inductive IspBrought(K:W.Frag)(vs:List V)(H:Hp)(Q:VK):Prop
 |mk(ls d e:Addr)(sp:List Str)(rs:List WR)(E:Nat)(ps:List (Str×Rat))(kvs:List (Key×V))(ks:List Str)(f:Str->Int×Int)(h1:vs=[.ref ls,.ref d,.ref e])(h2:SqL K H ls (sp.map V.str))(h3:sp.Nodup)(h4:sp.length<=12)(h5:RowsAt H d rs)(h6:RsG sp rs)(h7:NsOk E ps (rs.map WR.d))(h8:d≠e)(h9:H e=some (.dK kvs))(h10:Tab DueIs H kvs ks f)(h11:ks.Nodup)(h12:(∀n∈ks,n∈rs.map (·.nm)))(h13:(∀n,Nx 3000 (f n)/\0<(f n).2))(h14:∀r H' kvr F,H r=none->Same H H'->H' r=some (.dK kvr)->Tab DueIs H' kvr sp F->BrO sp (aZ (aS ks λn=>vl (f n)) (rs.map WR.d)) 40000 F->Q (.ref r) H'):IspBrought K vs H Q
noncomputable def spBrought(K:W.Frag):Sp:=λvs H Q _=>IspBrought K vs H Q
theorem ok_law_brought(T:TX K mg a):FnB P w K mg base CX0 "_law_brought" 3 ["_law_spots","_law_ways_here","_law_due_here"] (spBrought K):=by
 refine T.d_law_brought.okA sc_law_brought λf cdv A outer s H vs Q E hr h=>?_;obtain⟨ls,d,e,sp,rs,E',ps,kvs,ks,f,rfl,hS,ndsp,lsp,hR,G,O,nde,he,tb,ndk,hin,hf,k⟩:=h
 refine⟨_,(af (aj (i:=3) sc_law_brought.nd bK)
  (aE (aQ jR rfl (a5 (pv 0)) (aw (i:=4) sc_law_brought.nd) (ah (bB (aJ hr) (pv 3) (pv 4) (aU (aa ab (aa ab ae))) rfl)))
  (af (cB (aQ jR rfl (dO (pv 2)) (aw (i:=5) sc_law_brought.nd) (af (aj (i:=6) sc_law_brought.nd (aV (aJ hr) (pv 1) (pv 5) (λ_ _=>rfl)))
  (af (aj (i:=7) sc_law_brought.nd (aV (aJ hr) (pv 2) (pv 5) (λ_ _=>rfl)))
  (af (bB (aJ hr) (pv 3) (al av (pv 6) ab) (az (fK T) hr aq (aa (aV (aJ hr) (pv 3) (al av (pv 6) ab) (λ_ _=>rfl)) (aa (aU (aa (ao cv ab (al av (pv 7) ab)) (aa (al av (pv 7) ab) ae))) ae))) rfl)
  (ah (bB (aJ hr) (pv 3) (al av (pv 6) ab) (az (fK T) hr aq (aa (aV (aJ hr) (pv 3) (al av (pv 6) ab) (λ_ _=>rfl)) (aa (az (dQ T) hr aq (aa (pv 7) (aa (al av (pv 6) ab) ae))) ae))) rfl)))))))
  (ah (ax (pv 3)))))),?_⟩
 walk_at"q"
 intro r nr;obtain⟨H1,zq,s1,h1⟩:=uG (o:=.dK []) nr;rw[zq];refine bM (λσ' H'=>∃z4 kvr,σ'=[some (.ref ls),some (.ref d),some (.ref e),some (.ref r),z4,none,none,none]/\Same H H'/\H' r=some (.dK kvr)/\Tab DueIs H' kvr sp (λ_=>(0,1))) ?_ ?_
 ·refine⟨_,rfl,ls,rfl,⟨_,s1.seq hS⟩,ba (K:=K) (a:=ls) (xs:=sp.map V.str) (λi σ H2=>i<=sp.length/\∃z4 kvr,σ=[some (.ref ls),some (.ref d),some (.ref e),some (.ref r),z4,none,none,none]/\Same H H2/\H2 r=some (.dK kvr)/\Tab DueIs H2 kvr (sp.take i) (λ_=>(0,1))) ⟨jU _,_,[],rfl,s1,h1,by rw[lP];exact Tab.nil⟩ ((by rintro i σ H2 _⟨_,_,_,_,s2,_⟩;exact s2.seq hS)) ?_ ?_⟩
  ·rintro i v σ H2 hv⟨_,z4,kvr,rfl,s2,hr2,tbr⟩;rw[jK]at hv;obtain⟨y,ey,rfl⟩:=lH.mp hv;have hi:=(jG.mp ey).1;refine⟨zL2,λu nu=>?_⟩;obtain⟨H3,zq,s3,h3⟩:=uG (o:=.tup [.int 0,.int 1]) nu;rw[zq];have lk:kvr.length<=900:=by rw[tbr.len,jT];lia
   refine⟨_,rfl,_,rfl,r,_,rfl,DPut.k (k:=Sum.inr y) (s3 _ _ hr2) (ay (by lia)),?_⟩;have kp:KeepD H3 (upd H3 r (.dK (bv kvr (Sum.inr y) (.ref u)))):=KeepD.put (s3 _ _ hr2);have tbp:=Tab.put (n:=y) (tbr.mono λv x z=>(z.mono s3).keep kp) (DueIs.keep (c:=(0,1)) ⟨u,rfl,h3⟩ kp);obtain⟨tk,ntk⟩:=cz ndsp ey;rw[fe ntk,<-tk]at tbp;exact⟨hi,_,_,rfl,aF nr (s2.trans s3),ag,tbp.congr λn _=>by unfold upf;split<;>rfl⟩
  ·rintro σ H2⟨_,z4,kvr,rfl,s2,hr2,tbr⟩;rw[jF,jQ]at tbr;exact⟨z4,kvr,rfl,s2,hr2,tbr⟩
 rintro zU hzU σ' H2⟨z4,kvr,rfl,s2,hr2,tbr⟩;have he2:=s2 _ _ he;have ner:e≠r:=ar he nr;subst hzU;refine⟨e,.dK kvs,he2,(by intro o z q;cases q),_,rfl,e,kvs,rfl,he2,λo=>?_⟩
 refine e9 (a:=e) (o:=o) (kvs:=kvs) (λi σ H3=>i<=ks.length/\∃z4 z5 z6 z7 kvr F,σ=[some (.ref ls),some (.ref d),some (.ref e),some (.ref r),z4,z5,z6,z7]/\H3 e=some (.frz o (.dK kvs))/\(∀b ob,H b=some ob->b≠e->H3 b=some ob)/\H3 r=some (.dK kvr)/\Tab DueIs H3 kvr sp F/\BrO sp (aZ (aS (ks.take i) λn=>vl (f n)) (rs.map WR.d)) (3030*i) F)
  ⟨jU _,_,_,_,_,kvr,λ_=>(0,1),rfl,ag,(λb ob q ne=>by rw[ai ne];exact s2 _ _ q),by rw[ai ner.symm];exact hr2,tbr.mono ((by rintro v x⟨t,z,g⟩;exact⟨t,z,by rw[ai (aG g he2 (by intro z;cases z))];exact g⟩)),⟨λs _=>⟨jU _,jJ _⟩,λs _=>zI1,λs _=>?_⟩⟩ ((by rintro i σ H3 _⟨_,_,_,_,_,_,_,_,h,_⟩;exact h)) ?_ ?_
 ·rw[sumF_zero O λn=>by rw[lP];rfl];rfl
 ·rintro i kv σ H3 hkv⟨_,z4,z5,z6,z7,kvr,F,rfl,hfz,k3,hr3,tbr,B⟩;obtain⟨n,en,e1,ev,t,et,ht⟩:=tb.at_ ndk hkv;have hi:i<ks.length:=(jG.mp en).1;have gn:=hin n (jI en);have ekv:kV kv.1=.str n:=by rw[e1];rfl
  rw[ekv];rw[et]at ev;obtain⟨w_,hw,rfl⟩:=jL.mp gn;have hwd:w_.d∈rs.map WR.d:=jL.mpr ⟨w_,hw,rfl⟩
  have i12:ks.length<=12:=by
   have:=ce ndk (ys:=rs.map (·.nm)) hin
   rw[jF]at this
   have:=G.len
   lia
  obtain⟨wg,_⟩:=G.all w_ hw;have nsg:=wg.ne;have lkr:kvr.length<=900:=by rw[tbr.len];lia
  have ht3:=k3 _ _ ht (aG ht he (by intro z;cases z));obtain⟨v,gv,p1,gy,rfl,y1,y2⟩:=(hR.but he nde k3).get G.nd hw;refine⟨_,rfl,_,rfl,d,_,rfl,gv,?_⟩;refine⟨_,rfl,_,rfl,e,.ref t,rfl,.inl ⟨kvs,Sum.inr w_.nm,.inr ⟨o,hfz⟩,rfl,ev.symm⟩,?_⟩;have S1:=SqT.of (K:=K) y1;have S2:=SqT.of (K:=K) ht3;obtain⟨v1,ev1,t1,rfl,ht1⟩:=tbr.vals w_.st wg.i1;refine⟨_,rfl,_,rfl,p1,_,_,_,rfl,rfl,S1,rfl,r,.ref t1,rfl,.inl ⟨kvr,Sum.inr w_.st,.inl hr3,rfl,ev1.symm⟩,_,rfl,t,_,_,_,rfl,rfl,S2,rfl,_,_,rfl,rfl,_,rfl,t,_,_,_,rfl,rfl,S2,rfl,zL2,λu nu=>?_⟩;obtain⟨H4,zq,s4,hu⟩:=uG (o:=.tup [.int (0-(f w_.nm).1),.int (f w_.nm).2]) nu;rw[zq];obtain⟨fn,fb⟩:=hf w_.nm;have ng:Nx 3000 (0-(f w_.nm).1,(f w_.nm).2):=⟨by show(0-(f w_.nm).1).natAbs<=_;rw[Int.zero_sub,Int.natAbs_neg];exact fn.t,fn.b⟩;refine⟨t1,u,F w_.st,(0-(f w_.nm).1,(f w_.nm).2),3030*i,3000,rfl,s4 _ _ ht1,hu,B.nx _ wg.i1,ng,by lia,λe2 ne2=>?_⟩;generalize hq1:plP (F w_.st) (0-(f w_.nm).1,(f w_.nm).2)=q1 at ne2⊢;obtain⟨H5,zq,s5,h5⟩:=uG (o:=.tup [.int q1.1,.int q1.2]) ne2;rw[zq];have s35:=s4.trans s5;refine⟨_,rfl,_,rfl,p1,_,_,_,rfl,rfl,SqT.of (s35 _ _ y1),rfl,r,_,rfl,DPut.k (k:=Sum.inr w_.st) (s35 _ _ hr3) (ay (by lia)),?_⟩;have kp6:KeepD H5 (upd H5 r (.dK (bv kvr (Sum.inr w_.st) (.ref e2)))):=KeepD.put (s35 _ _ hr3);have tb6:=Tab.put (n:=w_.st) (tbr.mono λv x z=>(z.mono s35).keep kp6) (DueIs.keep (c:=q1) ⟨e2,rfl,h5⟩ kp6);rw[show addK sp w_.st=sp from if_pos wg.i1]at tb6;have k6:∀{b:Addr}{ob:HO},H3 b=some ob->b≠r->upd H5 r (.dK (bv kvr (Sum.inr w_.st) (.ref e2))) b=some ob:=λz ne=>by rw[ai ne];exact s35 _ _ z
  have hr6:upd H5 r (.dK (bv kvr (Sum.inr w_.st) (.ref e2))) r=some (.dK (bv kvr (Sum.inr w_.st) (.ref e2))):=ag;have nd6:∀{b:Addr}{xs:List V},H3 b=some (.tup xs)->b≠r:=λz=>aG z hr3 (by intro q;cases q);have y16:=k6 y1 (nd6 y1);have y26:=k6 y2 (nd6 y2);have ht6:=k6 ht3 (nd6 ht3);have hf6:=k6 hfz ner;have k36:∀b ob,H b=some ob->b≠e->upd H5 r (.dK (bv kvr (Sum.inr w_.st) (.ref e2))) b=some ob:=λb ob z ne=>k6 (k3 _ _ z ne) (ar z nr);generalize upd H5 r (.dK (bv kvr (Sum.inr w_.st) (.ref e2)))=H6 at tb6 hr6 y16 y26 ht6 hf6 k36⊢;generalize bv kvr (Sum.inr w_.st) (.ref e2)=kvr6 at tb6 hr6⊢;clear kp6 nd6;have lkr6:kvr6.length<=900:=by rw[tb6.len];lia
  obtain⟨v2,ev2,t2,rfl,ht2⟩:=tb6.vals w_.go wg.i2;have fgo:upf F w_.st q1 w_.go=F w_.go:=iS nsg.symm;rw[fgo]at ht2;refine⟨_,rfl,_,rfl,p1,_,_,_,rfl,rfl,SqT.of y16,rfl,r,.ref t2,rfl,.inl ⟨kvr6,Sum.inr w_.go,.inl hr6,rfl,ev2.symm⟩,_,rfl,_,rfl,p1,_,_,_,rfl,rfl,SqT.of y16,rfl,?_⟩;have gn':Nx 12 (w_.t,w_.b):=⟨cF wg.gb.t0 wg.gb.t1,cF wg.gb.b0 wg.gb.b1⟩;refine⟨t,gy,f w_.nm,(w_.t,w_.b),3000,12,rfl,ht6,y26,fn,gn',by lia,λu2 nu2=>?_⟩;generalize hq2:tmP (f w_.nm) (w_.t,w_.b)=q2 at nu2⊢;obtain⟨H7,zq,s7,h7⟩:=uG (o:=.tup [.int q2.1,.int q2.2]) nu2;rw[zq];have nq2:Nx 3012 q2:=by rw[<-hq2];exact fn.times gn'
  refine⟨t2,u2,F w_.go,q2,3030*i,3012,rfl,s7 _ _ ht2,h7,B.nx _ wg.i2,nq2,by lia,λe3 ne3=>?_⟩;generalize hq3:plP (F w_.go) q2=q3 at ne3⊢;obtain⟨H8,zq,s8,h8⟩:=uG (o:=.tup [.int q3.1,.int q3.2]) ne3;rw[zq];have s68:=s7.trans s8;refine⟨_,rfl,_,rfl,p1,_,_,_,rfl,rfl,SqT.of (s68 _ _ y16),rfl,r,_,rfl,DPut.k (k:=Sum.inr w_.go) (s68 _ _ hr6) (ay (by lia)),?_⟩;have kp9:KeepD H8 (upd H8 r (.dK (bv kvr6 (Sum.inr w_.go) (.ref e3)))):=KeepD.put (s68 _ _ hr6);have tb9:=Tab.put (n:=w_.go) (tb6.mono λv x z=>(z.mono s68).keep kp9) (DueIs.keep (c:=q3) ⟨e3,rfl,h8⟩ kp9);rw[show addK sp w_.go=sp from if_pos wg.i2]at tb9
  have eA:(aS (ks.take (i+1)) λn=>vl (f n))=λm=>if m=w_.d.nm then(aS (ks.take i) λn=>vl (f n)) m+vl (f w_.nm) else(aS (ks.take i) λn=>vl (f n)) m:=funext λm=>by
   obtain⟨tk,ntk⟩:=cz ndk en;rw[WR.d_nm,tk];unfold aS;by_cases c:m=w_.nm
   ·rw[if_pos c,c,if_pos (by simp),if_neg ntk];grind
   ·rw[if_neg c];by_cases c2:m∈ks.take i
    ·rw[if_pos c2,if_pos (jX _ c2)]
    ·rw[if_neg c2,if_neg λz=>(jP.mp z).elim c2 λq=>c (jN.mp q)]
  have bq:0<q2.2:=by rw[<-hq2];exact lF fb (by have:=wg.gb.b0;show 0<w_.b;lia)
  have vq2:vl q2=vl (f w_.nm)*aD w_.d.kd w_.d.x:=by
   rw[<-hq2,WR.d_gain wg.gb];exact vl_times (e:=(w_.t,w_.b)) (lY fb) (by have:=wg.gb.b0;show w_.b≠0;lia)
  refine⟨hi,_,_,_,_,_,_,rfl,by rw[ai ner];exact s68 _ _ hf6,(λb ob z ne=>by rw[ai (ar z nr)];exact s68 _ _ (k36 _ _ z ne)),ag,tb9,⟨λs hs=>?_,λs hs=>?_,λs hs=>?_⟩⟩
  ·unfold upf
   split
   ·rw[<-hq3];exact((B.nx _ wg.i2).plus nq2).mono (by lia)
   ·split
    ·rw[<-hq1];exact((B.nx _ wg.i1).plus ng).mono (by lia)
    ·exact(B.nx s hs).mono (by lia)
  ·unfold upf
   split
   ·rw[<-hq3];exact lF (B.b0 _ wg.i2) bq
   ·split
    ·rw[<-hq1];exact lF (B.b0 _ wg.i1) fb
    ·exact B.b0 s hs
  ·rw[eA,two_conG O hwd,WR.d_st,WR.d_go];unfold upf;by_cases c1:s=w_.go
   ·rw[if_pos c1,if_pos c1,<-hq3,vl_plus (lY (B.b0 _ wg.i2)) (lY bq),B.v _ wg.i2,vq2]
   ·rw[if_neg c1,if_neg c1];by_cases c2:s=w_.st
    ·rw[if_pos c2,if_pos c2,<-hq1,vl_plus (e:=(0-(f w_.nm).1,(f w_.nm).2)) (lY (B.b0 _ wg.i1)) (lY fb),B.v _ wg.i1]
     congr 1
     exact neg_div _ _
    ·rw[if_neg c2,if_neg c2];exact B.v s hs
 ·rintro σ H3⟨_,z4,z5,z6,z7,kvr,F,rfl,hfz,k3,hr3,tbr,B⟩;rw[tb.len,jQ]at B
  have i12:ks.length<=12:=by
   have:=ce ndk (ys:=rs.map (·.nm)) hin
   rw[jF]at this
   have:=G.len
   lia
  have sf:Same H (upd H3 e (.dK kvs)):=λb ob q=>by
   by_cases hb:b=e
   ·subst hb;rw[ag,<-he,q]
   ·rw[ai hb];exact k3 _ _ q hb
  exact⟨o,hfz,_,rfl,k r _ kvr F nr sf (by rw[ai ner.symm];exact hr3) (tbr.mono (by rintro v x⟨t,z,g⟩;exact⟨t,z,by rw[ai (aG g hfz (by intro z;cases z))];exact g⟩)) ⟨λs hs=>(B.nx s hs).mono (by lia),B.b0,B.v⟩⟩
noncomputable def spWhole:Sp:=λvs H Q _=>∃i:Int,vs=[.int i]/\Q (.bl true) H
theorem jr(T:TX K mg a):FnB P w K mg base CX0 "_law_whole" 1 ["_law_found"] spWhole:=by
 refine T.d_law_whole.okA sc_law_whole (λf cdv A outer s H vs Q E hr h=>?_) (λvs H Q E h=>?_)
 rotate_left
 ·obtain⟨i,rfl,_⟩:=h;rfl
 ·obtain⟨i,rfl,k⟩:=h;refine⟨_,(ah (ax (pe_and (aI (dG (c:=.type "int")) (by rfl) T.z_isinstance kW (aa (pv 0) (aa (im (v:=.ty "int") (by rfl) T.z_int PyProof.Rows.boot_int rfl) ae))) (pe_one (pe_not (aI (dG (c:=.type "bool")) (by rfl) T.z_isinstance kW (aa (pv 0) (aa (im (v:=.ty "bool") (by rfl) T.z_bool PyProof.Rows.boot_bool rfl) ae)))))))),?_⟩;walk_at"q"
  refine⟨_,rfl,_,_,_,_,rfl,(λu h=>h),TyOf.int i,T.k_int_int,_,rfl,?_⟩;refine iteT ?_;refine⟨_,rfl,_,_,_,_,rfl,(λu h=>h),TyOf.int i,T.k_int_bool,_,rfl,?_⟩;exact k
inductive IspTold39(a:Ad)(vs:List V)(H:Hp)(Q:VK):Prop
 |mk(p:Addr)(x:Rat)(h1:vs=[.ref p])(h2:FrAt a.Fraction H p x)(h3:∀t,H t=none->Q (.ref t) (upd H t (.tup [.int x.num,.int x.den]))):IspTold39 a vs H Q
noncomputable def spTold39(a:Ad):Sp:=λvs H Q _=>IspTold39 a vs H Q
theorem fI(T:TX K mg a):FnB P w K mg base CX0 "_law_told" 2 ["_law_found"] (spTold39 a):=by
 refine T.d_law_told.okA sc_law_told λf cdv A outer s H vs Q E hr h=>?_;obtain⟨p,x,rfl,hp,k⟩:=h
 refine⟨_,(af (aN (PW.pt (fE (dJ (cI (aI (dG (c:=.ref a.Fraction)) (by rfl) T.z_isinstance kW (aa (pv 0) (aa (pe_glob (v:=.ref a.Fraction) (by rfl) T.mg_Fraction rfl) ae))))) (fE (dJ (cI (az (jr T) hr aq (aa (ck T.fr (pv 0)) ae)))) (dI (dJ (cI (az (jr T) hr aq (aa (cm T.fr (pv 0)) ae)))))))) (ah (ax (aU (aa ab (aa ab ae))))) aA)
  (ah (ax (aU (aa (ck T.fr (pv 0)) (aa (cm T.fr (pv 0)) ae)))))),?_⟩
 walk_at"q"
 refine⟨_,rfl,_,_,_,_,rfl,(λu h=>h),FrAt.ty T.fr hp,T.k_Fraction_Fraction,_,rfl,iteF ?_⟩;walk_at"rd"
 exact⟨zL2,λt nt=>k t nt⟩
inductive IspFormed(a:Ad)(vs:List V)(H:Hp)(Q:VK):Prop
 |mk(v:V)(s:SD)(X:List Addr)(h1:vs=[v])(h2:StIs a X H v s)(h3:0<s.am)(h4:∀H',Same H H'->Q (.bl true) H'):IspFormed a vs H Q
noncomputable def spFormed(a:Ad):Sp:=λvs H Q _=>IspFormed a vs H Q
theorem ok_law_formed(T:TX K mg a):FnB P w K mg base CX0 "_law_formed" 3 ["_law_strand_here"] (spFormed a):=by
 refine T.d_law_formed.okA sc_law_formed λf cdv A outer s H vs Q E hr h=>?_;obtain⟨v,s,X,rfl,⟨u,l1,l2,l3,q,rfl,hu,h1,h2,h3,_,_,_,fq,_⟩,am,k⟩:=h
 refine⟨_,(af (aN (PW.pt (fE (dJ (cI (aI (dG (c:=.type "tuple")) (by rfl) T.z_isinstance kW (aa (pv 0) (aa (im (v:=.ty "tuple") (by rfl) T.z_tuple PyProof.Rows.boot_tuple rfl) ae))))) (dI (au fH (aI a6 (by rfl) T.z_len km (aa (pv 0) ae)) ab)))) (ah (ax gj)) aA)
  (af (aQ jR rfl (bO rfl T.z_range (aa ab ae)) (aw (i:=1) sc_law_formed.nd) (ah (aN (dJ (cI (aI (dG (c:=.type "list")) (by rfl) T.z_isinstance kW (aa (al av (pv 0) (pv 1)) (aa (im (v:=.ty "list") (by rfl) T.z_list kK rfl) ae))))) (ah (ax gj)) aA)))
  (af (aj (i:=2) sc_law_formed.nd (az (fI T) hr aq (aa (al av (pv 0) ab) ae)))
  (ah (ax (pe_and (eQ iO (al av (pv 2) ab) ab) (pe_one (eQ iO (al av (pv 2) ab) ab)))))))),?_⟩
 walk_at"q"
 have SU:SqT K H u _:=SqT.of hu;have xp:=den_pos s.am;refine⟨_,rfl,_,_,_,_,rfl,(λu h=>h),TyOf.tup hu,T.k_tuple_tuple,_,rfl,iteF ?_⟩;refine⟨_,rfl,u,_,rfl,.inr SU,rfl,_,rfl,iteNS rfl ?_⟩;refine⟨_,rfl,by decide,by decide,dW (n:=3) (λi σ H2=>H2=H/\∃z1,σ=[some (.ref u),z1,none]) ⟨rfl,_,rfl⟩ ?_ ?_⟩
 ·rintro i σ H2 hi⟨rfl,z1,rfl⟩
  obtain⟨l,ts,hl,el⟩:∃l ts,H2 l=some (.lst ts)/\atI [V.ref l1,.ref l2,.ref l3,.ref q] (0+(i:Int))=some (.ref l):=by
   match i,hi with
   |0,_=>exact⟨l1,_,h1,rfl⟩
   |1,_=>exact⟨l2,_,h2,rfl⟩
   |2,_=>exact⟨l3,_,h3,rfl⟩
  refine⟨_,rfl,_,rfl,u,_,_,_,rfl,rfl,SU,el,_,_,_,_,rfl,(λu h=>h),TyOf.lst hl,T.k_list_list,_,rfl,iteF ?_⟩;exact⟨rfl,_,rfl⟩
 ·rintro σ H2⟨rfl,z1,rfl⟩;refine⟨_,rfl,u,_,_,_,rfl,rfl,SU,rfl,q,s.am,rfl,fq,λt nt=>?_⟩;obtain⟨H3,zq,s1,ht⟩:=uG (o:=.tup [.int s.am.num,.int s.am.den]) nt;rw[zq];have ST:SqT K H3 t _:=SqT.of ht
  have np:0<s.am.num:=by
   have h0:0<=s.am.num:=Rat.num_nonneg.mpr (by grind)
   have hz:s.am.num≠0:=λz=>by
    rw[Rat.num_eq_zero.mp z]at am;grind
   lia
  refine⟨_,rfl,t,_,_,_,rfl,rfl,ST,rfl,_,_,rfl,rfl,_,rfl,iteC (j6 np) ?_⟩;refine⟨_,rfl,t,_,_,_,rfl,rfl,ST,rfl,_,_,rfl,rfl,?_⟩;rw[j6 (show(0:Int)<(s.am.den:Int) from xp)];exact k H3 s1
inductive IspAsPlan(a:Ad)(vs:List V)(H:Hp)(Q:VK):Prop
 |mk(e:Addr)(kvs:List (Key×V))(ks:List Str)(f:Str->Int×Int)(h1:vs=[.ref e])(h2:H e=some (.dK kvs))(h3:Tab DueIs H kvs ks f)(h4:ks.Nodup)(h5:ks.length<=100)(h6:(∀n,Nx 3000 (f n)/\(f n).2≠0))(h7:∀r H' kvp,H r=none->Same H H'->H' r=some (.dK kvp)->Tab (FrIs a) H' kvp ks (λn=>vl (f n))->Q (.ref r) H'):IspAsPlan a vs H Q
noncomputable def spAsPlan(a:Ad):Sp:=λvs H Q _=>IspAsPlan a vs H Q
theorem ok_law_as_plan(T:TX K mg a):FnB P w K mg base CX0 "_law_as_plan" 5 ["_law_due_here"] (spAsPlan a):=by
 refine T.d_law_as_plan.okA sc_law_as_plan λf cdv A outer s H vs Q E hr h=>?_;obtain⟨e,kvs,ks,f,rfl,he,tb,ndk,lks,hf,k⟩:=h
 refine⟨_,(af (aj (i:=1) sc_law_as_plan.nd bK)
  (af (cB (aQ jR rfl (dO (pv 0)) (aw (i:=2) sc_law_as_plan.nd) (ah (bB (aJ hr) (pv 1) (pv 2) (bD (mk2 T) hr T.mg_Fraction aq (aa (al av (aV (aJ hr) (pv 0) (pv 2) (λ_ _=>rfl)) ab) (aa (al av (aV (aJ hr) (pv 0) (pv 2) (λ_ _=>rfl)) ab) ae))) rfl))))
  (ah (ax (pv 1))))),?_⟩
 walk_at"q"
 intro r nr;obtain⟨H1,zq,s1,h1⟩:=uG (o:=.dK []) nr;rw[zq];have he1:=s1 _ _ he;have ner:e≠r:=ar he nr;refine⟨e,.dK kvs,he1,(by intro o z q;cases q),_,rfl,e,kvs,rfl,he1,λo=>?_⟩
 refine e9 (a:=e) (o:=o) (kvs:=kvs) (λi σ H2=>i<=ks.length/\∃z2 kvp,σ=[some (.ref e),some (.ref r),z2]/\H2 e=some (.frz o (.dK kvs))/\(∀b ob,H b=some ob->b≠e->H2 b=some ob)/\H2 r=some (.dK kvp)/\Tab (FrIs a) H2 kvp (ks.take i) (λn=>vl (f n)))
  ⟨jU _,_,[],rfl,ag,(λb ob q ne=>by rw[ai ne];exact s1 _ _ q),by rw[ai ner.symm];exact h1,by rw[lP];exact Tab.nil⟩ ((by rintro i σ H2 _⟨_,_,_,_,h,_⟩;exact h)) ?_ ?_
 ·rintro i kv σ H2 hkv⟨_,z2,kvp,rfl,hfz,k2,hr2,tp⟩;obtain⟨nm,enm,e1,ev,t,et,ht⟩:=tb.at_ ndk hkv;have hi:=(jG.mp enm).1;obtain⟨fn,fb⟩:=hf nm;have ekv:kV kv.1=.str nm:=by rw[e1];rfl
  rw[ekv];rw[et]at ev;have ht2:=k2 _ _ ht (aG ht he (by intro z;cases z));refine⟨_,rfl,_,rfl,e,.ref t,rfl,.inl ⟨kvs,Sum.inr nm,.inr ⟨o,hfz⟩,rfl,ev.symm⟩,t,_,_,_,rfl,rfl,SqT.of ht2,rfl,?_⟩;refine⟨_,rfl,_,rfl,e,.ref t,rfl,.inl ⟨kvs,Sum.inr nm,.inr ⟨o,hfz⟩,rfl,ev.symm⟩,t,_,_,_,rfl,rfl,SqT.of ht2,rfl,_,_,rfl,fb,Sm.of_le fn.b (by decide),λq H3 nq s3 f3=>?_⟩;obtain⟨tk,ntk⟩:=cz ndk enm;refine⟨_,rfl,_,rfl,r,_,rfl,DPut.k (k:=Sum.inr nm) (s3 _ _ hr2) (ay (by rw[tp.len,jT];lia)),?_⟩;have kp:KeepD H3 (upd H3 r (.dK (bv kvp (Sum.inr nm) (.ref q)))):=KeepD.put (s3 _ _ hr2);have tq:=Tab.put (n:=nm) (tp.mono λv x z=>(z.mono s3).keep kp) (FrIs.keep (x:=vl (f nm)) ⟨q,rfl,f3⟩ kp);rw[fe ntk,<-tk]at tq;refine⟨hi,_,_,rfl,by rw[ai ner];exact s3 _ _ hfz,(λb ob z ne=>by rw[ai (ar z nr)];exact s3 _ _ (k2 _ _ z ne)),ag,tq.congr λn _=>?_⟩;unfold upf
  split
  ·rename_i h;rw[h]
  ·rfl
 ·rintro σ H2⟨_,z2,kvp,rfl,hfz,k2,hr2,tp⟩;rw[tb.len,jQ]at tp
  have sf:Same H (upd H2 e (.dK kvs)):=λb ob q=>by
   by_cases hb:b=e
   ·subst hb;rw[ag,<-he,q]
   ·rw[ai hb];exact k2 _ _ q hb
  exact⟨o,hfz,_,rfl,k r _ kvp nr sf (by rw[ai ner.symm];exact hr2) (tp.mono λv x z=>z.keep (.frz hfz))⟩
theorem call_intB:dH X (.type "int") (λxs H Q=>∃k,xs=[.bl k]/\Q (.int (if k then 1 else 0)) H):=λpins s σ H xs us Q I r h=>call_int1 pins s σ H xs us Q I r (.inr h)
noncomputable def nzi(p:Str->Int×Int)(l:List Str):Nat:=(l.filter λx=>decide ((p x).1≠0)).length
theorem nz_one(x:Int):(if(!decide (V.int x=V.int 0))=true then(1:Int)else 0)=if decide (x≠0)=true then 1 else 0:=by
 by_cases h:x=0
 ·subst h;rfl
 ·rw[if_pos (by simp[h]),if_pos (by simp[h])]
theorem nzi_snoc(p:Str->Int×Int)(l:List Str)(x:Str):(nzi p (l++[x]):Int)=nzi p l+(if decide ((p x).1≠0)=true then 1 else 0):=by
 unfold nzi;rw[l7,jO];by_cases h:(p x).1=0
 ·rw[lj (by simp[h]),if_neg (by simp[h])];simp
 ·rw[kS (by simp[h]),if_pos (by simp[h])];simp
inductive IspMany(K:W.Frag)(vs:List V)(H:Hp)(Q:VK):Prop
 |mk(ls d e r:Addr)(sp:List Str)(kvs kvr:List (Key×V))(ks:List Str)(f F:Str->Int×Int)(h1:vs=[.ref ls,.ref d,.ref e,.ref r])(h2:SqL K H ls (sp.map V.str))(h3:H e=some (.dK kvs))(h4:Tab DueIs H kvs ks f)(h5:ks.Nodup)(h6:H r=some (.dK kvr))(h7:Tab DueIs H kvr sp F)(h8:∀H',Same H H'->Q (.int ((nzi f ks+nzi F sp:Nat):Int)) H'):IspMany K vs H Q
noncomputable def spMany(K:W.Frag):Sp:=λvs H Q _=>IspMany K vs H Q
theorem ok_law_many(T:TX K mg a):FnB P w K mg base CX0 "_law_many" 1 ["_law_spots","_law_ways_here","_law_due_here","_law_at_spots"] (spMany K):=by
 refine T.d_law_many.okA sc_law_many λf cdv A outer s H vs Q E hr h=>?_;obtain⟨ls,d,e,r,sp,kvs,kvr,ks,f,F,rfl,hS,he,tb,ndk,hr',tr,k⟩:=h
 refine⟨_,(af (aj (i:=4) sc_law_many.nd ab)
  (aE (cB (aQ jR rfl (dO (pv 2)) (aw (i:=5) sc_law_many.nd) (ah (aj (i:=4) sc_law_many.nd (ao aO (pv 4) (bj call_intB (by rfl) T.z_int PyProof.Rows.boot_int (aa (eQ fH (al av (aV (aJ hr) (pv 2) (pv 5) (λ_ _=>rfl)) ab) ab) ae)))))))
  (af (aQ jR rfl (a5 (pv 0)) (aw (i:=6) sc_law_many.nd) (ah (aj (i:=4) sc_law_many.nd (ao aO (pv 4) (bj call_intB (by rfl) T.z_int PyProof.Rows.boot_int (aa (eQ fH (al av (aV (aJ hr) (pv 3) (pv 6) (λ_ _=>rfl)) ab) ab) ae))))))
  (ah (ax (pv 4)))))),?_⟩
 walk_at"q"
 refine bM (λσ' H'=>∃z5,σ'=[some (.ref ls),some (.ref d),some (.ref e),some (.ref r),some (.int (nzi f ks:Nat)),z5,none]/\Same H H') ?_ ?_
 ·refine⟨e,.dK kvs,he,(by intro o z q;cases q),_,rfl,e,kvs,rfl,he,λo=>?_⟩
  refine e9 (a:=e) (o:=o) (kvs:=kvs) (λi σ H2=>i<=ks.length/\∃z5,σ=[some (.ref ls),some (.ref d),some (.ref e),some (.ref r),some (.int (nzi f (ks.take i):Nat)),z5,none]/\H2 e=some (.frz o (.dK kvs))/\∀b ob,H b=some ob->b≠e->H2 b=some ob)
   ⟨jU _,_,by rw[lP];rfl,ag,λb ob q ne=>by rw[ai ne];exact q⟩ ((by rintro i σ H2 _⟨_,_,_,h,_⟩;exact h)) ?_ ?_
  ·rintro i kv σ H2 hkv⟨_,z5,rfl,hfz,k2⟩;obtain⟨nm,enm,e1,ev,t,et,ht⟩:=tb.at_ ndk hkv;have hi:=(jG.mp enm).1;have ekv:kV kv.1=.str nm:=by rw[e1];rfl
   rw[ekv];rw[et]at ev;have ht2:=k2 _ _ ht (aG ht he (by intro z;cases z));refine⟨_,rfl,_,rfl,_,rfl,e,.ref t,rfl,.inl ⟨kvs,Sum.inr nm,.inr ⟨o,hfz⟩,rfl,ev.symm⟩,t,_,_,_,rfl,rfl,SqT.of ht2,rfl,rfl,_,rfl,_,_,rfl,rfl,hi,some (.str nm),?_,hfz,k2⟩;obtain⟨tk,_⟩:=cz ndk enm;rw[tk,nzi_snoc,<-nz_one];rfl
  ·rintro σ H2⟨_,z5,rfl,hfz,k2⟩;rw[tb.len,jQ];refine⟨o,hfz,_,rfl,λb ob q=>?_⟩;by_cases hb:b=e
   ·subst hb;rw[ag,<-he,q]
   ·rw[ai hb];exact k2 _ _ q hb
 rintro zU hzU σ' H1⟨z5,rfl,s1⟩;subst hzU;refine⟨_,rfl,ls,rfl,⟨_,s1.seq hS⟩,ba (K:=K) (a:=ls) (xs:=sp.map V.str) (λi σ H2=>H2=H1/\∃z6,σ=[some (.ref ls),some (.ref d),some (.ref e),some (.ref r),some (.int ((nzi f ks+nzi F (sp.take i):Nat):Int)),z5,z6]) ⟨rfl,_,by rw[lP];rfl⟩ ((by rintro i σ H2 _⟨e,_⟩;exact by rw[e];exact s1.seq hS)) ?_ ?_⟩
 ·rintro i v σ H2 hv⟨rfl,z6,rfl⟩;rw[jK]at hv;obtain⟨y,ey,rfl⟩:=lH.mp hv;obtain⟨v1,ev1,t1,rfl,ht1⟩:=(tr.mono λv x z=>z.mono s1).vals y (jI ey);refine⟨_,rfl,_,rfl,_,rfl,r,.ref t1,rfl,.inl ⟨kvr,Sum.inr y,.inl (s1 _ _ hr'),rfl,ev1.symm⟩,t1,_,_,_,rfl,rfl,SqT.of ht1,rfl,rfl,_,rfl,_,_,rfl,rfl,rfl,some (.str y),?_⟩
  have e1:((nzi f ks+nzi F (sp.take (i+1)):Nat):Int)=(nzi f ks+nzi F (sp.take i):Nat)+(if(!decide (V.int (F y).1=V.int 0))=true then(1:Int) else 0):=by
   rw[jS,ey,j0,Int.natCast_add,nzi_snoc,nz_one,Int.natCast_add,Int.add_assoc]
  rw[e1];rfl
 ·rintro σ H2⟨rfl,z6,rfl⟩;rw[jF,jQ];exact⟨_,rfl,k H2 s1⟩
noncomputable def ChW(ws:List WR):Prop:=∀(i:Nat)(x y:WR),ws[i]?=some x->ws[i+1]?=some y->x.go=y.st
noncomputable def plW:List WR->List Str
 |[]=>[]
 |r::w=>r.st::(r::w).map (·.go)
theorem plW_snoc(h:ws≠[])(y:WR):plW (ws++[y])=plW ws++[y.go]:=by
 cases ws with
 |nil=>exact absurd rfl h
 |cons x r=>
  show x.st::((x::r)++[y]).map (·.go)=(x.st::(x::r).map (·.go))++[y.go];rw[jM];rfl
theorem plW_last(ws:List WR)(y:WR):(plW (ws++[y])).getLast?=some y.go:=by
 by_cases h:ws=[]
 ·subst h;rfl
 ·rw[plW_snoc h,List.getLast?_append];rfl
theorem plW_len(ws:List WR):(plW ws).length<=ws.length+1:=by cases ws<;>simp[plW]
theorem RowsAt.lst(h:RowsAt H d rs)(hq:H q=some (.lst xs)):RowsAt (upd H q (.lst zs)) d rs:=by
 obtain⟨kv,e1,e2,e3⟩:=h;exact⟨kv,by rw[ai (aG e1 hq (by intro z;cases z))];exact e1,e2,e3.mono λv x z=>z.put hq (by intro _ z;cases z)⟩
inductive IspPlaces(K:W.Frag)(vs:List V)(H:Hp)(Q:VK):Prop
 |mk(d wl:Addr)(rs ws:List WR)(h1:vs=[.ref d,.ref wl])(h2:RowsAt H d rs)(h3:(rs.map (·.nm)).Nodup)(h4:SqL K H wl (ws.map λr=>V.str r.nm))(h5:(∀r∈ws,r∈rs))(h6:ChW ws)(h7:ws.length<=100)(h8:∀r H',H r=none->Same H H'->H' r=some (.lst ((plW ws).map V.str))->Q (.ref r) H'):IspPlaces K vs H Q
noncomputable def spPlaces(K:W.Frag):Sp:=λvs H Q _=>IspPlaces K vs H Q
theorem fS(T:TX K mg a):FnB P w K mg base CX0 "_law_places" 1 ["_law_ways_here","_law_walk"] (spPlaces K):=by
 refine T.d_law_places.okA sc_law_places λf cdv A outer s H vs Q E hr h=>?_;obtain⟨d,wl,rs,ws,rfl,hR,nd,hw,sub,ch,lw,k⟩:=h
 refine⟨_,(af (aj (i:=2) sc_law_places.nd (aR ae))
  (af (aQ jR rfl (a5 (pv 1)) (aw (i:=3) sc_law_places.nd) (af (aN (PW.pt (fE (dJ (cI (aI (dG (c:=.type "str")) (by rfl) T.z_isinstance kW (aa (pv 3) (aa (im (v:=.ty "str") (by rfl) T.z_str PyProof.Rows.boot_str rfl) ae))))) (dI (eN (gk (aJ hr) (pv 3) (pv 0)))))) (ah (ax (aR (aa ab (aa ab ae))))) aA)
  (af (aN (au (iV hr.units0) (pv 2) (aR ae)) (ah (aT (gi ki kC kD bJ (pv 2) (aa (al av (aV (aJ hr) (pv 0) (pv 3) (λ_ _=>rfl)) ab) ae)))) aA)
  (af (aN (au fH (al aM (pv 2) (iN fR ab)) (al av (aV (aJ hr) (pv 0) (pv 3) (λ_ _=>rfl)) ab)) (ah (ax (aR (aa ab (aa ab ae))))) aA)
  (ah (aT (gi ki kC kD bJ (pv 2) (aa (al av (aV (aJ hr) (pv 0) (pv 3) (λ_ _=>rfl)) ab) ae))))))))
  (ah (ax (pv 2))))),?_⟩
 walk_at"q"
 refine⟨zL0,λq nq=>?_⟩;obtain⟨H0,zq,s0,h0⟩:=uG (o:=.lst []) nq;rw[zq];refine⟨_,rfl,wl,rfl,⟨_,s0.seq hw⟩,ba (K:=K) (a:=wl) (xs:=ws.map λr=>V.str r.nm) (λi σ H2=>i<=ws.length/\∃z,σ=[some (.ref d),some (.ref wl),some (.ref q),z]/\Same H H2/\H2 q=some (.lst ((plW (ws.take i)).map V.str))) ⟨jU _,none,rfl,s0,h0⟩ ((by rintro i σ H2 _⟨_,_,_,s2,_⟩;exact s2.seq hw)) ?_ ?_⟩
 ·rintro i t σ H2 ht⟨_,z,rfl,s2,hq⟩;rw[jK]at ht;obtain⟨y,en,rfl⟩:=lH.mp ht;have hi:=(jG.mp en).1;have my:=sub y (jI en);have hd2:=hR.mono s2;refine⟨_,rfl,_,_,_,_,rfl,(λu h=>h),TyOf.str _,T.k_str_str,_,rfl,iteF ?_⟩;obtain⟨v,gv,p1,gy,rfl,x1,x2⟩:=hd2.get nd my;refine⟨_,rfl,_,rfl,d,_,rfl,gv,_,rfl,iteF ?_⟩;have tk:ws.take (i+1)=ws.take i++[y]:=by rw[jS,en];rfl
  refine⟨_,rfl,by decide,λe ne=>?_⟩;obtain⟨H3,zq,s3,h3⟩:=uG (o:=.lst []) ne;rw[zq];have hq3:=s3 _ _ hq;have s23:=s2.trans s3;refine⟨q,e,_,rfl,rfl,SqL.of hq3,SqL.of h3,_,rfl,?_⟩;have hd3:=hd2.mono s3;obtain⟨v3,gv3,p3,gy3,rfl,x3,_⟩:=hd3.get nd my
  cases i with
  |zero=>
   refine iteT ?_;refine⟨_,rfl,.inl ⟨rfl,_,SqL.of hq3⟩,_,rfl,_,rfl,d,_,rfl,gv3,p3,_,_,_,rfl,rfl,SqT.of x3,rfl,q,_,_,rfl,rfl,hq3,by show 0<sizeLine;decide,?_⟩;have hd4:=hd3.lst (zs:=[.str y.st]) hq3;have s4:Same H (upd H3 q (.lst [.str y.st])):=aF nq s23;have hq4:upd H3 q (.lst [.str y.st]) q=some (.lst [.str y.st]):=ag;show tSeq _ _ _ _ (upd H3 q (.lst [.str y.st]));generalize upd H3 q (.lst [.str y.st])=H4 at hd4 s4 hq4⊢;obtain⟨v4,gv4,p4,gy4,rfl,x4,_⟩:=hd4.get nd my;refine⟨_,rfl,_,rfl,q,_,_,_,rfl,rfl,SqL.of hq4,rfl,_,rfl,_,rfl,d,_,rfl,gv4,p4,_,_,_,rfl,rfl,SqT.of x4,rfl,rfl,_,rfl,iteNS rfl ?_⟩;refine⟨_,rfl,.inl ⟨rfl,_,SqL.of hq4⟩,_,rfl,_,rfl,d,_,rfl,gv4,p4,_,_,_,rfl,rfl,SqT.of x4,rfl,q,_,_,rfl,rfl,hq4,by show 1<sizeLine;decide,?_⟩;exact⟨hi,_,rfl,aF nq s4,by rw[ag,tk];rfl⟩
  |succ j=>
   obtain⟨x,ex⟩:∃x,ws[j]?=some x:=⟨_,jH (by lia)⟩;have eg:=ch j x y ex en;have tj:ws.take (j+1)=ws.take j++[x]:=by rw[jS,ex];rfl
   have ne0:ws.take (j+1)≠[]:=by rw[tj];simp
   have lst:(plW (ws.take (j+1))).getLast?=some x.go:=by rw[tj];exact plW_last _ _
   have lpl:=plW_len (ws.take (j+1));rw[jT]at lpl;rw[show(List.map V.str (plW (ws.take (j+1)))).isEmpty=false by rw[List.isEmpty_eq_false_iff];exactλz=>by rw[List.map_eq_nil_iff.mp z]at lst;cases lst];refine iteF ?_;refine⟨_,rfl,_,rfl,q,_,_,_,rfl,rfl,SqL.of hq3,jE (by rw[List.getLast?_map,lst];rfl),_,rfl,_,rfl,d,_,rfl,gv3,p3,_,_,_,rfl,rfl,SqT.of x3,rfl,rfl,_,rfl,iteNS (by rw[eg]) ?_⟩;refine⟨_,rfl,.inl ⟨rfl,_,SqL.of hq3⟩,_,rfl,_,rfl,d,_,rfl,gv3,p3,_,_,_,rfl,rfl,SqT.of x3,rfl,q,_,_,rfl,rfl,hq3,ay (by rw[jF];lia),?_⟩;exact⟨hi,_,rfl,aF nq s23,by rw[ag,tk,plW_snoc ne0,jM];rfl⟩
 ·rintro σ H2⟨_,z,rfl,s2,hq⟩;rw[jF,jQ]at hq;exact⟨_,rfl,k q H2 nq s2 hq⟩
structure RgQ(ws:List WR):Prop where
 two:2<=ws.length
 le:ws.length<=12
 ch:ChW ws
 pl:∃p ms,plW ws=(p::ms)++[p]/\(p::ms).Nodup
noncomputable def sdT(g:Int×Int):Str:=if g.1=g.2 then"even"else if g.2<g.1 then"making"else"eating"
inductive IspSide(K:W.Frag)(vs:List V)(H:Hp)(Q:VK):Prop
 |mk(d wl:Addr)(rs ws:List WR)(h1:vs=[.ref d,.ref wl])(h2:RowsAt H d rs)(h3:(rs.map (·.nm)).Nodup)(h4:SqL K H wl (ws.map λr=>V.str r.nm))(h5:(∀r∈ws,r∈rs/\GB r.t r.b))(h6:RgQ ws)(h7:∀H',Same H H'->Q (.str (sdT (gp ws))) H'):IspSide K vs H Q
noncomputable def spSide(K:W.Frag):Sp:=λvs H Q _=>IspSide K vs H Q
theorem hE(T:TX K mg a):FnB P w K mg base CX0 "_law_side" 3 ["_law_ways_here","_law_walk"] (spSide K):=by
 refine T.d_law_side.okA sc_law_side λf cdv A outer s H vs Q E hr h=>?_;obtain⟨d,wl,rs,ws,rfl,hR,nd,hw,sub,R,k⟩:=h
 refine⟨_,(af (aj (i:=2) sc_law_side.nd (az (fS T) hr aq (aa (pv 0) (aa (pv 1) ae))))
  (af (aN (PW.pt (fE (au gQ (aI a6 (by rfl) T.z_len km (aa (pv 2) ae)) ab) (fE (au fH (al aM (pv 2) ab) (al aM (pv 2) (iN fR ab))) (dI (au fH (aI iR (by rfl) T.z_len km (aa (bj (call_setD hr.hd) (by rfl) T.z_set PyProof.Rows.boot_set (aa (pv 2) ae)) ae)) (ao cv (aI a6 (by rfl) T.z_len km (aa (pv 2) ae)) ab)))))) (ah (ax bW)) aA)
  (af (aj (i:=3) sc_law_side.nd (az (eT T) hr aq (aa (pv 0) (aa (pv 1) ae))))
  (af (aN (au cT (al av (pv 3) ab) (al av (pv 3) ab)) (ah (ax bW)) aA)
  (ah (ax (pe_ifExp (au iO (al av (pv 3) ab) (al av (pv 3) ab)) bW bW))))))),?_⟩
 walk_at"q"
 have two:=R.two;have le:=R.le;obtain⟨p,ms,pl,ndp⟩:=R.pl
 have lpl:(plW ws).length=ws.length+1:=by
  cases ws with
  |nil=>exact absurd two (by decide)
  |cons x r=>show((x::r).map (·.go)).length+1=_;rw[jF]
 refine⟨_,rfl,_,rfl,d,wl,rs,ws,rfl,hR,nd,hw,λr hr=>(sub r hr).1,R.ch,by lia,λq H1 nq s1 hq=>?_⟩;refine⟨_,rfl,q,_,rfl,.inl (SqL.of hq),_,_,rfl,rfl,_,rfl,cL (jY (by rw[jF,lpl];lia)) ?_⟩;have e0:(plW ws)[0]?=some p:=by rw[pl];rfl
 have e1:(plW ws).getLast?=some p:=by rw[pl,List.getLast?_append];rfl
 refine⟨_,rfl,q,_,_,_,rfl,rfl,SqL.of hq,dh (j:=0) e0,_,rfl,_,rfl,q,_,_,_,rfl,rfl,SqL.of hq,jE (by rw[List.getLast?_map,e1];rfl),rfl,_,rfl,cL (by rw[j6 rfl];rfl) ?_⟩;have lw':(plW ws).length<=1000:=by lia
 refine⟨_,rfl,q,plW ws,rfl,SqL.of hq,lw',λz nz=>⟨z,plW ws,rfl,ag,lw',?_⟩⟩;have s2:Same H1 (upd H1 z (SetD P w z (plW ws))):=aC nz;generalize upd H1 z _=H2 at s2⊢;have s12:=s1.trans s2
 have dl:(fk (plW ws)).length=ws.length:=by
  have e:=(dset_nodup _).mpr ndp;rw[pl,dset_snoc,if_pos (mem_dset.mpr (j4 ..)),e];rw[pl,jO]at lpl;exact Nat.succ.inj lpl
 refine⟨_,rfl,q,_,rfl,.inl (SqL.of (s2 _ _ hq)),_,_,rfl,rfl,rfl,_,rfl,?_⟩;rw[jF];refine cL (by rw[j6 (kA V.int (by rw[dl,lpl];lia))];rfl) ?_;refine⟨_,rfl,_,rfl,d,wl,rs,ws,rfl,hR.mono s12,nd,s12.seq hw,λr hr=>(sub r hr).1,λr hr=>(sub r hr).2,le,λg H3 s3 hg3=>?_⟩;have sg:=SqT.of (K:=K) hg3;have k:=k _ (s12.trans s3);unfold sdT at k;refine⟨_,rfl,g,_,_,_,rfl,rfl,sg,rfl,_,rfl,g,_,_,_,rfl,rfl,sg,rfl,rfl,_,rfl,ifV (λe=>?_) (λe=>?_)⟩
 ·rw[if_pos e]at k;exact k
 ·rw[if_neg e]at k;refine⟨_,rfl,g,_,_,_,rfl,rfl,sg,rfl,_,rfl,g,_,_,_,rfl,rfl,sg,rfl,_,_,rfl,rfl,_,rfl,ifB (λe2=>?_) (λe2=>?_)⟩
  ·rw[if_pos e2]at k;exact k
  ·rw[if_neg e2]at k;exact k
theorem mapSE{xs:List WR}:(xs.map λr=>V.str r.nm).isEmpty=xs.isEmpty:=by cases xs<;>rfl
structure FdO(rs hd pa ta:List WR)(b e:Str):Prop where
 sub:∀r∈hd++pa++ta,r∈rs/\GB r.t r.b
 lh:hd.length<=12
 lp:pa.length<=12
 lt:ta.length<=12
 or:(pa=[]/\ta=[]/\RgQ hd/\(gp hd).1=(gp hd).2/\b="a round"/\e="a round")∨
  (hd++pa++ta≠[]/\(hd≠[]->RgQ hd/\(gp hd).2<(gp hd).1)/\(ta≠[]->RgQ ta/\(gp ta).1<(gp ta).2)/\ChW pa/\(plW pa).Nodup/\ChW (hd++pa++ta)/\
   (hd≠[]->b="a ring")/\(hd=[]->(plW (hd++pa++ta))[0]?=some b)/\(ta≠[]->e="a ring")/\(ta=[]->(plW (hd++pa++ta)).getLast?=some e))
inductive IspEnds(vs:List V)(H:Hp)(Q:VK):Prop
 |mk(d t lh lp lt g:Addr)(rs hd pa ta:List WR)(b e:Str)(h1:vs=[.ref d,.ref t])(h2:RowsAt H d rs)(h3:(rs.map (·.nm)).Nodup)(h4:H t=some (.tup [.ref lh,.ref lp,.ref lt,.ref g]))(h5:H lh=some (.lst (hd.map λr=>V.str r.nm)))(h6:H lp=some (.lst (pa.map λr=>V.str r.nm)))(h7:H lt=some (.lst (ta.map λr=>V.str r.nm)))(h8:FdO rs hd pa ta b e)(h9:∀r H',H r=none->Same H H'->H' r=some (.tup [.str b,.str e])->Q (.ref r) H'):IspEnds vs H Q
noncomputable def spEnds(K:W.Frag):Sp:=λvs H Q _=>IspEnds vs H Q
theorem ok_law_ends(T:TX K mg a):FnB P w K mg base CX0 "_law_ends" 4 ["_law_ways_here","_law_strand_here"] (spEnds K):=by
 refine T.d_law_ends.okA sc_law_ends λf cdv A outer s H vs Q E hr h=>?_;obtain⟨d,t,lh,lp,lt,g,rs,hd,pa,ta,b,e,rfl,hR,nd,ht,hlh,hlp,hlt,F,k⟩:=h
 refine⟨_,(af (aj (i:=2) sc_law_ends.nd (al av (pv 1) ab))
  (af (aj (i:=3) sc_law_ends.nd (al av (pv 1) ab))
  (af (aj (i:=4) sc_law_ends.nd (al av (pv 1) ab))
  (aE (aN (PW.pt (c8 (au (iV hr.units0) (pv 3) (aR ae)) (c8 (au (iV hr.units0) (pv 4) (aR ae)) (cH (au cT (az (hE T) hr aq (aa (pv 0) (aa (pv 2) ae))) bW))))) (ah (ax (aU (aa bW (aa bW ae))))) aA)
  (aE (aN (PW.pt (fE (au (iV hr.units0) (ao op_cat (ao op_cat (pv 2) (pv 3)) (pv 4)) (aR ae)) (dI (PW.pt (c8 (au (g9 hr.units0) (pv 2) (aR ae)) (cH (au fH (az (hE T) hr aq (aa (pv 0) (aa (pv 2) ae))) bW))))))) (ah (ax (aU (aa bW (aa bW ae))))) aA)
  (aE (aN (PW.pt (c8 (au (g9 hr.units0) (pv 4) (aR ae)) (cH (au fH (az (hE T) hr aq (aa (pv 0) (aa (pv 4) ae))) bW)))) (ah (ax (aU (aa bW (aa bW ae))))) aA)
  (aE (aj (i:=5) sc_law_ends.nd (az (fS T) hr aq (aa (pv 0) (aa (pv 3) ae))))
  (aE (aj (i:=6) sc_law_ends.nd (az (fS T) hr aq (aa (pv 0) (aa (ao op_cat (ao op_cat (pv 2) (pv 3)) (pv 4)) ae))))
  (aE (aN (PW.pt (fE (au fH (aI iR (by rfl) T.z_len km (aa (bj (call_setD hr.hd) (by rfl) T.z_set PyProof.Rows.boot_set (aa (pv 5) ae)) ae)) (aI a6 (by rfl) T.z_len km (aa (pv 5) ae))) (dI (au (op_eqL hr.units0) (pv 6) (aR (aa ab (aa ab ae))))))) (ah (ax (aU (aa bW (aa bW ae))))) aA)
  (af (aj (i:=7) sc_law_ends.nd bW)
  (af (aj (i:=8) sc_law_ends.nd bW)
  (aE (aN (au (iV hr.units0) (pv 2) (aR ae)) (ah (aj (i:=7) sc_law_ends.nd (al aM (pv 6) ab))) aA)
  (af (aN (au (iV hr.units0) (pv 4) (aR ae)) (ah (aj (i:=8) sc_law_ends.nd (al aM (pv 6) (iN fR ab)))) aA)
  (ah (ax (aU (aa (pv 7) (aa (pv 8) ae)))))))))))))))))),?_⟩
 walk_at"q"
 generalize hk9:iy _ _=k9
 revert k9
 refine fP λk9 hk9=>?_;have l1:=F.lh;have l2:=F.lp;have l3:=F.lt;have fin:∀H',Same H H'->∀r,H' r=none->Q (.ref r) (upd H' r (.tup [.str b,.str e])):=λH' s' r nr=>k r _ (s'.free nr) (s'.trans (aC nr)) ag;have s1:∀r∈hd,r∈rs/\GB r.t r.b:=λr hr=>F.sub r (by simp[hr]);have s2:∀r∈pa,r∈rs/\GB r.t r.b:=λr hr=>F.sub r (by simp[hr]);have s3:∀r∈ta,r∈rs/\GB r.t r.b:=λr hr=>F.sub r (by simp[hr]);have sq:=SqT.of (K:=K) ht;refine⟨_,rfl,t,_,_,_,rfl,rfl,sq,rfl,?_⟩;refine⟨_,rfl,t,_,_,_,rfl,rfl,sq,rfl,?_⟩;refine⟨_,rfl,t,_,_,_,rfl,rfl,sq,rfl,?_⟩;subst hk9;refine bM (λσ' H'=>σ'=[some (.ref d),some (.ref t),some (.ref lh),some (.ref lp),some (.ref lt),none,none,none,none]/\Same H H'/\¬(pa=[]/\ta=[]/\RgQ hd/\(gp hd).1=(gp hd).2)) ?_ ?_
 ·refine⟨_,rfl,by decide,λe1 n1=>?_⟩;obtain⟨H1,zq,t1,h1⟩:=uG (o:=.lst []) n1;rw[zq];refine⟨lp,e1,_,rfl,rfl,SqL.of (t1 _ _ hlp),SqL.of h1,_,rfl,?_⟩;rw[mapSE]
  cases ep:pa.isEmpty with
  |false=>exact iteF (iteF ⟨rfl,t1,λz=>by rw[z.1]at ep;cases ep⟩)
  |true=>
   refine iteT ⟨_,rfl,by decide,λe2 n2=>?_⟩;obtain⟨H2,zq,t2,h2⟩:=uG (o:=.lst []) n2;rw[zq];have t12:=t1.trans t2;refine⟨lt,e2,_,rfl,rfl,SqL.of (t12 _ _ hlt),SqL.of h2,_,rfl,?_⟩;rw[mapSE]
   cases et:ta.isEmpty with
   |false=>exact iteF (iteF ⟨rfl,t12,λz=>by rw[z.2.1]at et;cases et⟩)
   |true=>
    have ep:=List.isEmpty_iff.mp ep;have et:=List.isEmpty_iff.mp et;have rg:RgQ hd:=F.or.elim (λz=>z.2.2.1) λz=>(z.2.1 λy=>z.1 (by rw[y,ep,et];rfl)).1;refine iteT ⟨_,rfl,_,rfl,d,lh,rs,hd,rfl,hR.mono t12,nd,SqL.of (t12 _ _ hlh),s1,rg,λH3 t3=>?_⟩;have t13:=t12.trans t3;refine⟨rfl,_,rfl,?_⟩;unfold sdT;by_cases ev:(gp hd).1=(gp hd).2
    ·rw[if_pos ev];refine iteC (j6 rfl) ⟨zL2,λr nr=>?_⟩;rcases F.or with⟨_,_,_,_,rfl,rfl⟩|⟨nn,y,_⟩
     ·exact fin H3 t13 r nr
     ·exact absurd ev (by have:=(y λy=>nn (by rw[y,ep,et];rfl)).2;lia)
    ·rw[if_neg ev];refine cL (jY λz=>?_) ⟨rfl,t13,λz=>ev z.2.2.2⟩;have z:=V.str.inj z
     split at z<;>exact absurd z (by decide)
 rintro zU hzU σ' H1⟨rfl,t1,c1⟩;obtain⟨nn,o1,o2,chp,np,ch,b1,b2,e1,e2⟩:=F.or.resolve_left λz=>c1 ⟨z.1,z.2.1,z.2.2.1,z.2.2.2.1⟩;have cat:hd.map (λr=>V.str r.nm)++pa.map (λr=>V.str r.nm)++ta.map (λr=>V.str r.nm)=(hd++pa++ta).map λr=>V.str r.nm:=by rw[jM,jM]
 have ne:∀l:List WR,l≠[]->l.isEmpty=false:=λl h=>by cases l with|nil=>exact absurd rfl h|cons _ _=>rfl
 subst hzU;refine bM (λσ' H'=>σ'=[some (.ref d),some (.ref t),some (.ref lh),some (.ref lp),some (.ref lt),none,none,none,none]/\Same H H') ?_ ?_
 ·refine⟨_,rfl,_,rfl,lh,lp,_,_,rfl,rfl,t1 _ _ hlh,t1 _ _ hlp,by rw[jF,jF];exact jV (show hd.length+pa.length<=1000 by lia) (Nat.le_of_lt (ay (jJ 1000))),λla na=>?_⟩;obtain⟨Ha,zq,sa,ha⟩:=uG (o:=.lst (hd.map (λr=>V.str r.nm)++pa.map (λr=>V.str r.nm))) na;rw[zq];refine⟨_,rfl,la,lt,_,_,rfl,rfl,ha,(t1.trans sa) _ _ hlt,by rw[jO,jF,jF,jF];exact jV (show hd.length+pa.length+ta.length<=1000 by lia) (Nat.le_of_lt (ay (jJ 1000))),λlb nb=>?_⟩;rw[cat];obtain⟨Hb,zq,sb,hb⟩:=uG (o:=.lst ((hd++pa++ta).map λr=>V.str r.nm)) nb;rw[zq];have t1b:=t1.trans (sa.trans sb);refine⟨by decide,λe2 n2=>?_⟩;have t2:=aC (o:=.lst []) n2;have h2:upd Hb e2 (.lst []) e2=some (.lst []):=ag;have hb2:=t2 _ _ hb;generalize upd Hb e2 (.lst [])=H2 at t2 h2 hb2⊢;have t12:=t1b.trans t2;refine⟨lb,e2,_,rfl,rfl,SqL.of hb2,SqL.of h2,_,rfl,?_⟩;rw[mapSE,ne _ nn];refine iteF ⟨_,rfl,by decide,λe3 n3=>?_⟩;obtain⟨H3,zq,t3,h3⟩:=uG (o:=.lst []) n3;rw[zq];have t13:=t12.trans t3;refine⟨lh,e3,_,rfl,rfl,SqL.of (t13 _ _ hlh),SqL.of h3,_,rfl,?_⟩;rw[mapSE];by_cases eh:hd=[]
  ·rw[eh];exact iteF (iteF ⟨rfl,t13⟩)
  ·rw[ne _ eh];obtain⟨rg,gt⟩:=o1 eh;refine iteT ⟨_,rfl,_,rfl,d,lh,rs,hd,rfl,hR.mono t13,nd,SqL.of (t13 _ _ hlh),s1,rg,λH4 t4=>⟨rfl,_,rfl,?_⟩⟩;rw[show sdT (gp hd)="making"by unfold sdT;rw[if_neg (by lia),if_pos gt]];exact cL rfl ⟨rfl,t13.trans t4⟩
 clear t1;rintro zU hzU σ' H2⟨rfl,t2⟩;subst hzU;refine bM (λσ' H'=>σ'=[some (.ref d),some (.ref t),some (.ref lh),some (.ref lp),some (.ref lt),none,none,none,none]/\Same H H') ?_ ?_
 ·refine⟨_,rfl,by decide,λe3 n3=>?_⟩;obtain⟨H3,zq,t3,h3⟩:=uG (o:=.lst []) n3;rw[zq];have t13:=t2.trans t3;refine⟨lt,e3,_,rfl,rfl,SqL.of (t13 _ _ hlt),SqL.of h3,_,rfl,?_⟩;rw[mapSE];by_cases eh:ta=[]
  ·rw[eh];exact iteF (iteF ⟨rfl,t13⟩)
  ·rw[ne _ eh];obtain⟨rg,gt⟩:=o2 eh;refine iteT ⟨_,rfl,_,rfl,d,lt,rs,ta,rfl,hR.mono t13,nd,SqL.of (t13 _ _ hlt),s3,rg,λH4 t4=>⟨rfl,_,rfl,?_⟩⟩;rw[show sdT (gp ta)="eating"by unfold sdT;rw[if_neg (by lia),if_neg (by lia)]];exact cL rfl ⟨rfl,t13.trans t4⟩
 clear t2;rintro zU hzU σ' H3⟨rfl,t3⟩;subst hzU;refine bM (λσ' H'=>∃q5,σ'=[some (.ref d),some (.ref t),some (.ref lh),some (.ref lp),some (.ref lt),some (.ref q5),none,none,none]/\Same H H'/\H' q5=some (.lst ((plW pa).map V.str))) ?_ ?_
 ·exact⟨_,rfl,_,rfl,d,lp,rs,pa,rfl,hR.mono t3,nd,SqL.of (t3 _ _ hlp),λr hr=>(s2 r hr).1,chp,by lia,λq H4 nq t4 hq=>⟨q,rfl,t3.trans t4,hq⟩⟩
 clear t3;rintro zU hzU σ' H3⟨q5,rfl,t3,h5⟩;subst hzU;refine bM (λσ' H'=>∃q6,σ'=[some (.ref d),some (.ref t),some (.ref lh),some (.ref lp),some (.ref lt),some (.ref q5),some (.ref q6),none,none]/\Same H3 H'/\H' q6=some (.lst ((plW (hd++pa++ta)).map V.str))) ?_ ?_
 ·refine⟨_,rfl,_,rfl,_,rfl,lh,lp,_,_,rfl,rfl,t3 _ _ hlh,t3 _ _ hlp,by rw[jF,jF];exact jV (show hd.length+pa.length<=1000 by lia) (Nat.le_of_lt (ay (jJ 1000))),λla na=>?_⟩;obtain⟨Ha,zq,sa,ha⟩:=uG (o:=.lst (hd.map (λr=>V.str r.nm)++pa.map (λr=>V.str r.nm))) na;rw[zq];refine⟨_,rfl,la,lt,_,_,rfl,rfl,ha,(t3.trans sa) _ _ hlt,by rw[jO,jF,jF,jF];exact jV (show hd.length+pa.length+ta.length<=1000 by lia) (Nat.le_of_lt (ay (jJ 1000))),λlb nb=>?_⟩;rw[cat];obtain⟨Hb,zq,sb,hb⟩:=uG (o:=.lst ((hd++pa++ta).map λr=>V.str r.nm)) nb;rw[zq];have t3b:=sa.trans sb;exact⟨d,lb,rs,hd++pa++ta,rfl,hR.mono (t3.trans t3b),nd,SqL.of hb,λr hr=>(F.sub r hr).1,ch,by rw[jO,jO];lia,λq H4 nq t4 hq=>⟨q,rfl,t3b.trans t4,hq⟩⟩
 rintro zU hzU σ' H4⟨q6,rfl,t4,h6⟩;replace h5:=t4 _ _ h5;have t14:=t3.trans t4;clear t4 t3;subst hzU;refine bM (λσ' H'=>σ'=[some (.ref d),some (.ref t),some (.ref lh),some (.ref lp),some (.ref lt),some (.ref q5),some (.ref q6),none,none]/\Same H H'/\H' q6=some (.lst ((plW (hd++pa++ta)).map V.str))) ?_ ?_
 ·have lpl:=plW_len pa;refine⟨_,rfl,q5,plW pa,rfl,SqL.of h5,by lia,λz nz=>⟨z,plW pa,rfl,ag,by lia,?_⟩⟩;have t5:Same H4 (upd H4 z (SetD P w z (plW pa))):=aC nz;generalize upd H4 z _=H5 at t5⊢;have t15:=t14.trans t5;refine⟨_,rfl,q5,_,rfl,.inl (SqL.of (t5 _ _ h5)),rfl,_,rfl,?_⟩;rw[jF];refine cL (by rw[j6 (kA V.int (kA Nat.cast ((dset_nodup _).mpr np)))];rfl) ?_;refine⟨_,rfl,zL2,λz0 n0=>?_⟩;obtain⟨H6,zq,t6,h7⟩:=uG (o:=.lst [.int 0,.int 0]) n0;rw[zq];have hq:=(t5.trans t6) _ _ h6;refine⟨q6,z0,_,_,rfl,rfl,SqL.of hq,SqL.of h7,flat_strs _,rfl,_,rfl,cL ?_ ⟨rfl,t15.trans t6,hq⟩⟩
  cases plW (hd++pa++ta)<;>rfl
 clear t14 h5 h6;rintro zU hzU σ' H5⟨rfl,t5,hq⟩;subst hzU;refine bM (λσ' H'=>σ'=[some (.ref d),some (.ref t),some (.ref lh),some (.ref lp),some (.ref lt),some (.ref q5),some (.ref q6),some (.str b),some (.str "a ring")]/\Same H5 H') ?_ ?_
 ·refine⟨_,rfl,by decide,λe3 n3=>?_⟩;obtain⟨H6,zq,t6,h6⟩:=uG (o:=.lst []) n3;rw[zq];refine⟨lh,e3,_,rfl,rfl,SqL.of ((t5.trans t6) _ _ hlh),SqL.of h6,_,rfl,?_⟩;rw[mapSE];by_cases eh:hd=[]
  ·rw[show hd.isEmpty=true by rw[eh];rfl];exact iteT ⟨_,rfl,q6,_,_,_,rfl,rfl,SqL.of (t6 _ _ hq),dh (j:=0) (b2 eh),rfl,t6⟩
  ·rw[ne _ eh];exact iteF ⟨by rw[b1 eh];rfl,t6⟩
 rintro zU hzU σ' H6⟨rfl,t6⟩;have t16:=t5.trans t6;subst hzU;refine⟨_,rfl,by decide,λe3 n3=>?_⟩;obtain⟨H7,zq,t7,h7⟩:=uG (o:=.lst []) n3;rw[zq];have t17:=t16.trans t7;refine⟨lt,e3,_,rfl,rfl,SqL.of (t17 _ _ hlt),SqL.of h7,_,rfl,?_⟩;rw[mapSE];by_cases et:ta=[]
 ·rw[show ta.isEmpty=true by rw[et];rfl];exact iteT ⟨_,rfl,_,rfl,q6,_,_,_,rfl,rfl,SqL.of ((t6.trans t7) _ _ hq),jE (by rw[List.getLast?_map,e2 et];rfl),_,rfl,_,rfl,zL2,λr nr=>fin H7 t17 r nr⟩
 ·rw[ne _ et];exact iteF ⟨_,rfl,_,rfl,zL2,λr nr=>by rw[<-e1 et];exact fin H7 t17 r nr⟩
theorem few_ne{x y:Str}(h:∃s t:Nat,∀c∈x.cps.toList,c=s∨c=t)(hy:∃a b c:Nat,a∈y.cps.toList/\b∈y.cps.toList/\c∈y.cps.toList/\a≠b/\a≠c/\b≠c):x≠y:=λe=>by
 obtain⟨s,t,h⟩:=h;obtain⟨a,b,c,h1,h2,h3,n1,n2,n3⟩:=hy;rw[<-e]at h1 h2 h3
 have:=h a h1
 have:=h b h2
 have:=h c h3
 lia
theorem hZ{x:Str}(h:∃s t:Nat,∀c∈x.cps.toList,c=s∨c=t):x≠"no strand"/\x≠"a ring"/\x≠"a round":=⟨few_ne h ⟨110,111,115,by decide+kernel,by decide+kernel,by decide+kernel,by decide,by decide,by decide⟩,few_ne h ⟨114,105,103,by decide+kernel,by decide+kernel,by decide+kernel,by decide,by decide,by decide⟩,few_ne h ⟨114,111,117,by decide+kernel,by decide+kernel,by decide+kernel,by decide,by decide,by decide⟩⟩
theorem jp{rs:List WR}:∀{l:List WD},(∀x∈l,x∈rs.map WR.d)->∃ws:List WR,l=ws.map WR.d/\∀r∈ws,r∈rs
 |[],_=>⟨[],rfl,λr hr=>by cases hr⟩
 |d::l,h=>by
  obtain⟨ws,e1,e2⟩:=jp (l:=l) λx hx=>h x (jW _ hx);obtain⟨y,hy,rfl⟩:=jL.mp (h d (j4 ..));exact⟨y::ws,by rw[e1];rfl,λx hx=>(j3.mp hx).elim (λz=>by rw[z];exact hy) (e2 x)⟩
theorem PthW.app:∀{l m:List WD}{p q r:Str},PthW p l q->PthW q m r->PthW p (l++m) r
 |[],_,_,_,_,h,k=>by rw[show _=_ from h];exact k
 |_::_,_,_,_,_,h,k=>⟨h.1,PthW.app h.2 k⟩
theorem chw_of(h:PthW p (ws.map WR.d) q):ChW ws:=λi x y hx hy=>by
 have:=h.chain i x.d y.d (by rw[jK,hx];rfl) (by rw[jK,hy];rfl)
 rw[WR.d_go,WR.d_st]at this;exact this
theorem jq:∀{ws:List WR}{p q:Str},PthW p (ws.map WR.d) q->ws≠[]->plW ws=p::ws.map (·.go)/\plW ws=ws.map (·.st)++[q]
 |[],_,_,_,n=>absurd rfl n
 |x::r,p,q,h,_=>by
  have h1:x.d.st=p:=h.1;rw[WR.d_st]at h1;have h2:PthW x.d.go (r.map WR.d) q:=h.2;rw[WR.d_go]at h2;subst h1;refine⟨rfl,?_⟩;show x.st::(x.go::r.map (·.go))=x.st::(r.map (·.st)++[q]);by_cases e:r=[]
  ·subst e;rw[show x.go=q from h2];rfl
  ·obtain⟨a1,a2⟩:=jq h2 e;rw[<-a1,a2]
theorem d_sts(ws:List WR):(ws.map WR.d).map (·.st)=ws.map (·.st):=by rw[kO];exact List.map_congr_left λr _=>WR.d_st r
theorem d_gos(ws:List WR):(ws.map WR.d).map (·.go)=ws.map (·.go):=by rw[kO];exact List.map_congr_left λr _=>WR.d_go r
theorem d_nms(ws:List WR):(ws.map WR.d).map (·.nm)=ws.map (·.nm):=by rw[kO];exact List.map_congr_left λr _=>WR.d_nm r
theorem rgq_of(h:RingW ns (ws.map WR.d))(ln:ws.length<=4)(ne:∀r∈ws,r.st≠r.go):RgQ ws:=by
 obtain⟨n0,_,nd,p,hp⟩:=h;rw[d_sts]at nd
 cases ws with
 |nil=>exact absurd rfl n0
 |cons x r=>
  obtain⟨a1,a2⟩:=jq hp (List.cons_ne_nil _ _);have h1:x.d.st=p:=hp.1;rw[WR.d_st]at h1;refine⟨?_,by lia,chw_of hp,p,r.map (·.st),by rw[a2,<-h1];rfl,by rw[<-h1];exact nd⟩
  cases r with
  |nil=>
   have h2:x.d.go=p:=hp.2;rw[WR.d_go]at h2;exact absurd (h1.trans h2.symm) (ne x (j4 ..))
  |cons y r=>show 2<=r.length+1+1;lia
structure Fnd(A0:Str->Rat)(sp:List Str)(rs:List WR)(s:SD)(hd pa ta:List WR)(b e:Str):Prop where
 e1:s.rg=hd.map WR.d
 e2:s.pa=pa.map WR.d
 e3:s.tl=ta.map WR.d
 fd:FdO rs hd pa ta b e
 n1:(hd.map (·.nm)).Nodup
 n2:(pa.map (·.nm)).Nodup
 n3:(ta.map (·.nm)).Nodup
 l1:hd.length<=4
 l2:pa.length<=4
 l3:ta.length<=4
 he:hd≠[]->(gp hd).1=(gp hd).2/\pa=[]/\ta=[]∨(gp hd).2<(gp hd).1
 te:ta≠[]->(gp ta).1<(gp ta).2
 bb:b="a ring"∨b="a round"∨b∈sp/\aZ A0 (rs.map WR.d) b<0
 ee:e="a ring"∨e="a round"∨0<aZ A0 (rs.map WR.d) e
theorem ring_nms{rs ws:List WR}(R:RsG sp rs)(h:RingW (rs.map WR.d) (ws.map WR.d)):(ws.map (·.nm)).Nodup:=by
 rw[<-d_nms];exact bo (by rw[d_nms];exact R.nd) h.sub h.nd
theorem found_is(R:RsG sp rs)(h:StOk A0 ps (rs.map WR.d) s):∃hd pa ta b e,Fnd A0 sp rs s hd pa ta b e:=by
 have gb:∀{ws:List WR},(∀r∈ws,r∈rs)->∀r∈ws,GB r.t r.b:=λh r hr=>(R.all r (h r hr)).1.gb;have ne:∀{ws:List WR},(∀r∈ws,r∈rs)->∀r∈ws,r.st≠r.go:=λh r hr=>(R.all r (h r hr)).1.ne;rcases h.or with⟨z1,z2,rg,ln,g1⟩|⟨p,q,pt,ndp,sub,ln,o1,o2⟩
 ·obtain⟨hd,e1,s1⟩:=jp rg.sub;rw[e1]at rg ln g1;rw[jF]at ln;obtain⟨gv,_,g2⟩:=iY (gb s1);have ev:(gp hd).1=(gp hd).2:=(gU g2).1.mp (gv.symm.trans g1);refine⟨hd,[],[],"a round","a round",e1,z1,z2,⟨λr hr=>?_,by lia,by decide,by decide,.inl ⟨rfl,rfl,rgq_of rg ln (ne s1),ev,rfl,rfl⟩⟩,ring_nms R rg,lJ,lJ,ln,by decide,by decide,λ_=>.inl ⟨ev,rfl,rfl⟩,λz=>absurd rfl z,.inr (.inl rfl),.inr (.inl rfl)⟩;rw[ly,ly]at hr;exact⟨s1 r hr,gb s1 r hr⟩
 ·obtain⟨pa,e2,s2⟩:=jp sub;rw[e2]at pt ndp ln;rw[d_gos]at ndp;rw[jF]at ln
  have hH:∃hd:List WR,s.rg=hd.map WR.d/\(∀r∈hd,r∈rs)/\hd.length<=4/\PthW p (hd.map WR.d) p/\(hd.map (·.nm)).Nodup/\(hd=[]->aZ A0 (rs.map WR.d) p<0)/\(hd≠[]->RgQ hd/\(gp hd).2<(gp hd).1):=by
   rcases o1 with⟨z,lt⟩|r
   ·exact⟨[],z,(λr hr=>by cases hr),by decide,rfl,lJ,λ_=>lt,λz=>absurd rfl z⟩
   ·obtain⟨hd,e1,s1⟩:=jp r.rg.sub;obtain⟨rg,pt,ln,gn⟩:=r;have e1:s.rg=hd.map WR.d:=e1;have rg:RingW (rs.map WR.d) s.rg:=rg;have pt:PthW p s.rg p:=pt;have ln:s.rg.length<=4:=ln;have gn:1<aB s.rg:=gn;rw[e1]at rg pt ln gn;rw[jF]at ln;obtain⟨gv,_,g2⟩:=iY (gb s1);rw[gv]at gn;exact⟨hd,e1,s1,ln,pt,ring_nms R rg,λz=>absurd (by rw[z];rfl) rg.ne,λ_=>⟨rgq_of rg ln (ne s1),(gU g2).2.1.mp gn⟩⟩
  have hT:∃ta:List WR,s.tl=ta.map WR.d/\(∀r∈ta,r∈rs)/\ta.length<=4/\PthW q (ta.map WR.d) q/\(ta.map (·.nm)).Nodup/\(ta=[]->0<aZ A0 (rs.map WR.d) q)/\(ta≠[]->RgQ ta/\(gp ta).1<(gp ta).2):=by
   rcases o2 with⟨z,lt⟩|r
   ·exact⟨[],z,(λr hr=>by cases hr),by decide,rfl,lJ,λ_=>lt,λz=>absurd rfl z⟩
   ·obtain⟨ta,e1,s1⟩:=jp r.rg.sub;obtain⟨rg,pt,ln,gn⟩:=r;have e1:s.tl=ta.map WR.d:=e1;have rg:RingW (rs.map WR.d) s.tl:=rg;have pt:PthW q s.tl q:=pt;have ln:s.tl.length<=4:=ln;have gn:aB s.tl<1:=gn;rw[e1]at rg pt ln gn;rw[jF]at ln;obtain⟨gv,_,g2⟩:=iY (gb s1);rw[gv]at gn;exact⟨ta,e1,s1,ln,pt,ring_nms R rg,λz=>absurd (by rw[z];rfl) rg.ne,λ_=>⟨rgq_of rg ln (ne s1),(gU g2).2.2.1.mp gn⟩⟩
  obtain⟨hd,e1,s1,l1,p1,n1,b0,b1⟩:=hH;obtain⟨ta,e3,s3,l3,p3,n3,t0,t1⟩:=hT
  have all:PthW p ((hd++pa++ta).map WR.d) q:=by
   rw[jM,jM];exact(p1.app pt).app p3
  have sub3:∀r∈hd++pa++ta,r∈rs:=λr hr=>by
   rcases jP.mp hr with z|z
   ·exact(jP.mp z).elim (s1 r) (s2 r)
   ·exact s3 r z
  have nn:hd++pa++ta≠[]:=λz=>by
   obtain⟨z1,z3⟩:=List.append_eq_nil_iff.mp z;obtain⟨z1,z2⟩:=List.append_eq_nil_iff.mp z1;have a1:=b0 z1;have a2:=t0 z3;rw[z2]at pt;rw[<-show p=q from pt]at a2;grind
  obtain⟨a1,a2⟩:=jq all nn
  have psp:p∈sp:=by
   generalize hd++pa++ta=l at nn all sub3
   cases l with
   |nil=>exact absurd rfl nn
   |cons x r=>
    have h1:x.d.st=p:=all.1;rw[WR.d_st]at h1;rw[<-h1];exact(R.all x (sub3 x (j4 ..))).1.i1
  have np:(plW pa).Nodup/\(pa.map (·.st)).Nodup:=by
   by_cases z:pa=[]
   ·rw[z];exact⟨lJ,lJ⟩
   ·obtain⟨c1,c2⟩:=jq pt z;have n:(plW pa).Nodup:=by rw[c1];exact ndp
    refine⟨n,?_⟩;rw[c2]at n;exact(ky.mp n).1
  refine⟨hd,pa,ta,if hd=[]then p else"a ring",if ta=[]then q else"a ring",e1,e2,e3,⟨λr hr=>⟨sub3 r hr,gb sub3 r hr⟩,by lia,by lia,by lia,.inr ⟨nn,b1,t1,chw_of pt,np.1,chw_of all,λz=>if_neg z,λz=>by rw[if_pos z,a1];rfl,λz=>if_neg z,λz=>by rw[if_pos z,a2,List.getLast?_append];rfl⟩⟩,n1,?_,n3,l1,by lia,l3,λz=>.inr (b1 z).2,λz=>(t1 z).2,?_,?_⟩
  ·rw[<-d_nms];exact bo (by rw[d_nms];exact R.nd) (λx hx=>sub x (by rw[e2];exact hx)) (by rw[d_sts];exact np.2)
  ·by_cases z:hd=[]
   ·rw[if_pos z];exact .inr (.inr ⟨psp,b0 z⟩)
   ·exact .inl (if_neg z)
  ·by_cases z:ta=[]
   ·rw[if_pos z];exact .inr (.inr (t0 z))
   ·exact .inl (if_neg z)
theorem vl_top(h:vl c≠0):c.1≠0:=λz=>h (by rw[cE,z,kH];exact Rat.zero_mul _)
theorem nzc_due(nd:(ns.map (·.nm)).Nodup):nzc (λd:WD=>aS ks (λn=>vl (f n)) d.nm) ns<=nzi f ks:=by
 unfold nzc nzi;rw[<-jF (f:=λd:WD=>d.nm)];refine ce ((List.filter_sublist.map _).nodup nd) λx hx=>?_;obtain⟨d,hd,rfl⟩:=jL.mp hx;have h:aS ks (λn=>vl (f n)) d.nm≠0:=lX (lT.mp hd).2;unfold aS at h
 split at h
 ·rename_i hm;exact lT.mpr ⟨hm,j6 (vl_top h)⟩
 ·exact absurd rfl h
theorem nzc_at(h:BrO sp S N F):nzc S sp<=nzi F sp:=by
 unfold nzc nzi
 have key:∀l:List Str,(∀x∈l,x∈sp)->(l.filter λx=>decide (S x≠0)).length<=(l.filter λx=>decide ((F x).1≠0)).length:=by
  intro l
  induction l with
  |nil=>exactλ_=>jJ _
  |cons x l ih=>
   intro hl;have i:=ih λy hy=>hl y (jW _ hy);by_cases hx:S x=0
   ·rw[lj (by simp[hx])];refine jV i ?_;by_cases hf:(F x).1=0
    ·rw[lj (l:=l) (a:=x) (by simp[hf])];exact jJ _
    ·rw[kS (l:=l) (a:=x) (by simp[hf])];exact Nat.le_succ _
   ·have hf:=vl_top (c:=F x) (by rw[h.v x (hl x (j4 ..))];exact hx);rw[kS (by simp[hx]),kS (by simp[hf])];exact Nat.succ_le_succ i
 exact key sp λx hx=>hx
theorem vl_sgn(hb:0<c.2):(vl c<0->c.1<0)/\(0<vl c->0<c.1):=by
 have hp:(0:Rat)<(c.2:Rat):=by exact_mod_cast hb
 have e:vl c*(c.2:Rat)=(c.1:Rat):=by rw[cE];exact kX (by grind)
 constructor
 ·intro h
  have:=cK (show 0< -vl c by grind) hp
  have:(c.1:Rat)<0:=by grind
  exact_mod_cast this
 ·intro h
  have:=cK h hp
  rw[e]at this
  exact_mod_cast this
theorem vl_cross(hx:x.2≠0)(hy:y.2≠0)(h:vl x=vl y):x.1*y.2=y.1*x.2:=(Rat.divInt_eq_divInt_iff hx hy).mp h
theorem nmV_d(ws:List WR):nmV (ws.map WR.d)=ws.map λr=>V.str r.nm:=by unfold nmV;rw[kO];exact List.map_congr_left λr _=>kA V.str (WR.d_nm r)
theorem StIs.same(h:StIs a X H v s)(k:Same H H'):StIs a X H' v s:=by
 obtain⟨u,l1,l2,l3,q,z,h1,h2,h3,h4,n1,n2,n3,h5,h6⟩:=h;exact⟨u,l1,l2,l3,q,z,k _ _ h1,k _ _ h2,k _ _ h3,k _ _ h4,n1,n2,n3,h5.mono k,h6⟩
inductive IspRight(K:W.Frag)(a:Ad)(vs:List V)(H:Hp)(Q:VK):Prop
 |mk(ls d e l:Addr)(sp:List Str)(rs:List WR)(E:Nat)(ps:List (Str×Rat))(kvs:List (Key×V))(ks:List Str)(f:Str->Int×Int)(X:List Addr)(ts:List V)(ss:List SD)(h1:vs=[.ref ls,.ref d,.ref e,.ref l])(h2:SqL K H ls (sp.map V.str))(h3:sp.Nodup)(h4:sp.length<=12)(h5:(∀x∈sp,∃s t:Nat,∀c∈x.cps.toList,c=s∨c=t))(h6:RowsAt H d rs)(h7:RsG sp rs)(h8:NsOk E ps (rs.map WR.d))(h9:ps.map (·.1)=sp)(h10:d≠e)(h11:H e=some (.dK kvs))(h12:Tab DueIs H kvs ks f)(h13:ks.Nodup)(h14:(∀n∈ks,n∈rs.map (·.nm)))(h15:(∀n,Nx 3000 (f n)/\0<(f n).2))(h16:(∀n,n∉ks->f n=(0,1)))(h17:H l=some (.lst ts))(h18:RowAt (StIs a X) H ts ss)(h19:ApD (aS ks λn=>vl (f n)) ps (rs.map WR.d) ss)(h20:∀H',Same H H'->Q (.bl true) H'):IspRight K a vs H Q
noncomputable def spRight(K:W.Frag)(a:Ad):Sp:=λvs H Q _=>IspRight K a vs H Q
theorem ok_law_right(T:TX K mg a):FnB P w K mg base CX0 "_law_right" 5 ["_law_spots","_law_ways_here","_law_due_here","_law_found"] (spRight K a):=by
 refine T.d_law_right.okA sc_law_right λf cdv A outer s H vs Q E hr h=>?_;obtain⟨ls,d,e,l,sp,rs,E',ps,kvs,ks,f,X,ts,ss,rfl,hS,ndsp,lsp,few,hR,G,O,hps,nde,he,tb,ndk,hin,hf,f0,hl,hss,AD,k⟩:=h
 refine⟨_,(af (aj (i:=4) sc_law_right.nd (az (ok_law_brought T) hr aq (aa (pv 0) (aa (pv 1) (aa (pv 2) ae)))))
  (af (aN (PW.pt (fE (dJ (cI (aI (dG (c:=.type "list")) (by rfl) T.z_isinstance kW (aa (pv 3) (aa (im (v:=.ty "list") (by rfl) T.z_list kK rfl) ae))))) (dI (au iO (aI a6 (by rfl) T.z_len km (aa (pv 3) ae)) (az (ok_law_many T) hr aq (aa (pv 0) (aa (pv 1) (aa (pv 2) (aa (pv 4) ae))))))))) (ah (ax gj)) aA)
  (af (aj (i:=5) sc_law_right.nd bK)
  (aE (aQ jR rfl (a5 (pv 3)) (aw (i:=6) sc_law_right.nd) (af (aN (dJ (cI (az (ok_law_formed T) hr aq (aa (pv 6) ae)))) (ah (ax gj)) aA)
  (af (ps_asg (az (ok_law_ends T) hr aq (aa (pv 1) (aa (pv 6) ae))) (gB (n:=2) rfl (bu (aw (i:=7) sc_law_right.nd) (bu (aw (i:=8) sc_law_right.nd) dP))))
  (af (aN (PW.pt (fE (au cT (pv 7) bW) (dI (PW.pt (c8 (eN (pc_din (aJ hr) (pv 7) (pv 4))) (cH (au op_ge (al av (aV (aJ hr) (pv 4) (pv 7) (λ_ _=>rfl)) ab) ab))))))) (ah (ax gj)) aA)
  (af (aN (PW.pt (c8 (eN (pc_din (aJ hr) (pv 8) (pv 4))) (cH (au op_le (al av (aV (aJ hr) (pv 4) (pv 8) (λ_ _=>rfl)) ab) ab)))) (ah (ax gj)) aA)
  (ah (aT (az (hG T) hr aq (aa (pv 5) (aa (pv 1) (aa (aU (aa (al av (pv 6) ab) (aa (al av (pv 6) ab) (aa (al av (pv 6) ab) (aa (az (fI T) hr aq (aa (al av (pv 6) ab) ae)) ae))))) ae)))))))))))
  (aE (cB (aQ jR rfl (dO (pv 1)) (aw (i:=9) sc_law_right.nd) (af (aj (i:=10) sc_law_right.nd (gf (aJ hr) (pv 5) (pv 9) (aU (aa ab (aa ab ae))) ⟨rfl,rfl,rfl,rfl⟩))
  (af (aj (i:=11) sc_law_right.nd (gf (aJ hr) (pv 2) (pv 9) (aU (aa ab (aa ab ae))) ⟨rfl,rfl,rfl,rfl⟩))
  (ah (aN (au fH (ao cS (al av (pv 10) ab) (al av (pv 11) ab)) (ao cS (al av (pv 11) ab) (al av (pv 10) ab))) (ah (ax gj)) aA))))))
  (ah (ax gj))))))),?_⟩
 walk_at"q"
 refine⟨_,rfl,_,rfl,_,rfl,ls,d,e,sp,rs,E',ps,kvs,ks,f,rfl,hS,ndsp,lsp,hR,G,O,nde,he,tb,ndk,hin,hf,λr H1 kvr F nr s1 hr1 tbr B=>?_⟩
 have cnt:ss.length<=nzi f ks+nzi F sp:=by
  have c:=AD.ct;have c1:=nzc_due (ks:=ks) (f:=f) (ns:=rs.map WR.d) (by rw[d_nms];exact G.nd);have c2:=nzc_at B;rw[hps]at c
  lia
 have l24:ss.length<=24:=by
  have c:=AD.ct;have c1:=fN (λd:WD=>aS ks (λn=>vl (f n)) d.nm) (rs.map WR.d);have c2:=fN (aZ (aS ks λn=>vl (f n)) (rs.map WR.d)) sp;rw[jF]at c1;rw[hps]at c
  have:=G.len
  lia
 have hl1:=s1 _ _ hl;have lts:ts.length=ss.length:=hss.1;refine⟨_,rfl,_,_,_,_,rfl,(λu h=>h),TyOf.lst hl1,T.k_list_list,_,rfl,iteF ?_⟩;refine⟨_,rfl,l,_,rfl,.inl (SqL.of hl1),_,rfl,_,rfl,_,rfl,_,rfl,ls,d,e,r,sp,kvs,kvr,ks,f,F,rfl,s1.seq hS,s1 _ _ he,tb.mono (λv x z=>z.mono s1),ndk,hr1,tbr,λH2 s2=>?_⟩;refine⟨_,_,rfl,rfl,_,rfl,cL (jY (by lia)) ?_⟩;intro q nq;obtain⟨H3,zq,s3,h3⟩:=uG (o:=.dK []) nq;rw[zq];have s12:=s1.trans s2;have s13:=s12.trans s3;obtain⟨kvd,hd0,_⟩:=id hR;have nqd:q≠d:=(ar (s12 _ _ hd0) nq).symm;have fin:∀{i:Nat},i<ss.length->26300*i+3*8400+1000<=800000:=λ{i}h=>by lia
 refine bM (λσ' H'=>∃z6 z7 z8 ns g,σ'=[some (.ref ls),some (.ref d),some (.ref e),some (.ref l),some (.ref r),some (.ref q),z6,z7,z8,none,none,none]/\Same H2 H'/\DueAt H' q ns g/\(∀n,Nx 700000 (g n))/\(∀n,vl (g n)=totA ss n/\0<(g n).2)) ?_ ?_
 ·refine⟨_,rfl,l,rfl,⟨_,SqL.of (s13 _ _ hl)⟩,ba (K:=K) (a:=l) (xs:=ts) (λi σ H4=>i<=ss.length/\∃z6 z7 z8 ns g,σ=[some (.ref ls),some (.ref d),some (.ref e),some (.ref l),some (.ref r),some (.ref q),z6,z7,z8,none,none,none]/\Same H2 H4/\DueAt H4 q ns g/\ns.length<=12*i/\(∀n,Nx (26300*i) (g n))/\(∀n,vl (g n)=totA (ss.take i) n/\0<(g n).2)) ⟨jU _,_,_,_,[],λ_=>(0,1),rfl,s3,⟨⟨[],h3,Tab.nil⟩,λ_ _=>rfl⟩,jJ _,(λ_=>⟨jU _,jJ _⟩),λ_=>⟨(show vl (0,1)=0 from rfl).trans (show(0:Rat)=totA (ss.take 0) _ by rw[lP];unfold totA;rw[List.foldl_nil]),zI1⟩⟩ ((by rintro i σ H4 _⟨_,_,_,_,_,_,_,s4,_⟩;exact SqL.of ((s12.trans s4) _ _ hl))) ?_ ?_⟩
  ·rintro i v σ H4 hv⟨_,z6,z7,z8,ns,g,rfl,s4,du,lns,gN,gv⟩;obtain⟨x,ex,st⟩:=hss.get hv;have hi:=(jG.mp ex).1;have xo:=AD.each x (jI ex);obtain⟨hd,pa,ta,b,e',FN⟩:=found_is G xo;have st4:=st.same (s12.trans s4);refine⟨_,rfl,v,x,X,rfl,st4,xo.am,λH5 s5=>?_⟩;refine⟨_,rfl,iteF ?_⟩;have s45:=s4.trans s5;obtain⟨u,l1,l2,l3,qf,rfl,u0,u1,u2,u3,_,_,_,uf,_⟩:=st4.same s5;rw[FN.e1,nmV_d]at u1;rw[FN.e2,nmV_d]at u2;rw[FN.e3,nmV_d]at u3;refine⟨_,rfl,_,rfl,d,u,l1,l2,l3,qf,rs,hd,pa,ta,b,e',rfl,hR.mono (s12.trans s45),G.nd,u0,u1,u2,u3,FN.fd,λt2 H6 nt s6 ht2=>?_⟩;have s46:=s45.trans s6;have s16:=s2.trans s46
   have bn:b≠"no strand":=by
    rcases FN.bb with z|z|z
    ·rw[z];decide
    ·rw[z];decide
    ·exact(hZ (few b z.1)).1
   have bs:b∈sp->(F b).1<0:=λhb=>by
    rcases FN.bb with z|z|z
    ·exact absurd z (hZ (few b hb)).2.1
    ·exact absurd z (hZ (few b hb)).2.2
    ·exact(vl_sgn (B.b0 b hb)).1 (by rw[B.v b hb];exact z.2)
   have es:e'∈sp->0<(F e').1:=λhb=>by
    rcases FN.ee with z|z|z
    ·exact absurd z (hZ (few _ hb)).2.1
    ·exact absurd z (hZ (few _ hb)).2.2
    ·exact(vl_sgn (B.b0 _ hb)).2 (by rw[B.v _ hb];exact z)
   have hr6:=s16 _ _ hr1;have tbr6:=tbr.mono λv x z=>DueIs.mono z s16;refine⟨t2,_,rfl,SqT.of ht2,rfl,?_⟩;refine⟨_,_,rfl,_,_,rfl,rfl,_,rfl,rfl,_,rfl,cL (jY λz=>bn (V.str.inj z)) ?_⟩
   have dg:∀{x:Str},x∈sp->∃t1,DGet H6 r (.str x) (some (.ref t1))/\H6 t1=some (.tup [.int (F x).1,.int (F x).2]):=λ{x}hx=>by
    obtain⟨v1,ev1,t1,rfl,ht1⟩:=tbr6.vals x hx;exact⟨t1,.inl ⟨kvr,Sum.inr x,.inl hr6,rfl,ev1.symm⟩,ht1⟩
   have dn:∀{x:Str},x∉sp->DGet H6 r (.str x) none:=λ{x}hx=>by
    have g:=DGet.k (k:=(Sum.inr x:Key)) hr6;rw[tbr6.none hx]at g;exact g
   have T1:∀Q,Q false H6->tAnd (tB (tDIn (ix 7) (ix 4))) (tTest (tOp (rI0 λi j=>V.bl (decide (j<=i))) (tOp (rIxT K) (tDGet (ix 4) (ix 7)) (tC (V.int 0))) (tC (V.int 0)))) [some (.ref ls),some (.ref d),some (.ref e),some (.ref l),some (.ref r),some (.ref q),some (.ref u),some (.str b),some (.str e'),none,none,none] H6 Q:=λQ h=>by
    by_cases hb:b∈sp
    ·obtain⟨t1,g1,ht1⟩:=dg hb;refine⟨_,rfl,_,rfl,r,_,rfl,g1,_,rfl,iteT ?_⟩;refine⟨_,rfl,_,rfl,r,_,rfl,g1,t1,_,_,_,rfl,rfl,SqT.of ht1,rfl,_,_,rfl,rfl,_,rfl,?_⟩;rw[jY (by have:=bs hb;lia)];exact h
    ·exact⟨_,rfl,_,rfl,r,_,rfl,dn hb,_,rfl,iteF h⟩
   refine T1 _ (iteF ?_)
   have T2:∀Q,Q false H6->tAnd (tB (tDIn (ix 8) (ix 4))) (tTest (tOp (rI0 λi j=>V.bl (decide (i<=j))) (tOp (rIxT K) (tDGet (ix 4) (ix 8)) (tC (V.int 0))) (tC (V.int 0)))) [some (.ref ls),some (.ref d),some (.ref e),some (.ref l),some (.ref r),some (.ref q),some (.ref u),some (.str b),some (.str e'),none,none,none] H6 Q:=λQ h=>by
    by_cases hb:e'∈sp
    ·obtain⟨t1,g1,ht1⟩:=dg hb;refine⟨_,rfl,_,rfl,r,_,rfl,g1,_,rfl,iteT ?_⟩;refine⟨_,rfl,_,rfl,r,_,rfl,g1,t1,_,_,_,rfl,rfl,SqT.of ht1,rfl,_,_,rfl,rfl,_,rfl,?_⟩;rw[jY (by have:=es hb;lia)];exact h
    ·exact⟨_,rfl,_,rfl,r,_,rfl,dn hb,_,rfl,iteF h⟩
   refine T2 _ (iteF ?_);have S6:=SqT.of (K:=K) (s6 _ _ u0);refine⟨_,rfl,_,rfl,_,rfl,u,_,_,_,rfl,rfl,S6,rfl,_,rfl,u,_,_,_,rfl,rfl,S6,rfl,_,rfl,u,_,_,_,rfl,rfl,S6,rfl,_,rfl,u,_,_,_,rfl,rfl,S6,rfl,qf,x.am,rfl,uf.mono s6,λt3 n3=>?_⟩;obtain⟨H7,zq,s7,h7⟩:=uG (o:=.tup [.int x.am.num,.int x.am.den]) n3;rw[zq];refine⟨zL4,λt4 n4=>?_⟩;have s8:=aC (o:=.tup [.ref l1,.ref l2,.ref l3,.ref t3]) n4;have h8:upd H7 t4 (.tup [.ref l1,.ref l2,.ref l3,.ref t3]) t4=some (.tup [.ref l1,.ref l2,.ref l3,.ref t3]):=ag;show tNil _ (upd H7 t4 (.tup [.ref l1,.ref l2,.ref l3,.ref t3])) _;generalize upd H7 t4 (.tup [.ref l1,.ref l2,.ref l3,.ref t3])=H8 at s8 h8⊢;have s68:=s7.trans s8;have s58:=s6.trans s68;have s28:=s46.trans s68;have Lh:Leg H8 rs l1 hd:=⟨s58 _ _ u1,λr hr=>(FN.fd.sub r (by simp[hr])).1,λr hr=>(FN.fd.sub r (by simp[hr])).2,FN.n1,FN.l1⟩;have Lp:Leg H8 rs l2 pa:=⟨s58 _ _ u2,λr hr=>(FN.fd.sub r (by simp[hr])).1,λr hr=>(FN.fd.sub r (by simp[hr])).2,FN.n2,FN.l2⟩;have Lt:Leg H8 rs l3 ta:=⟨s58 _ _ u3,λr hr=>(FN.fd.sub r (by simp[hr])).1,λr hr=>(FN.fd.sub r (by simp[hr])).2,FN.n3,FN.l3⟩;have cN:Nx 8400 (x.am.num,(x.am.den:Int)):=⟨xo.bd.1,by show((x.am.den:Int)).natAbs<=_;rw[lU];exact xo.bd.2⟩;have cp:(0:Int)<(x.am.den:Int):=by exact_mod_cast x.am.den_pos
   have sv:StV hd pa ta (x.am.num,(x.am.den:Int)):=⟨Lh.gb,Lp.gb,Lt.gb,lY cp,FN.he,FN.te⟩;have q1:=FN.l1;have q2:=FN.l2;have q3:=FN.l3;refine⟨q,d,t4,l1,l2,l3,t3,rs,hd,pa,ta,(x.am.num,(x.am.den:Int)),ns,g,26300*i,8400,rfl,nqd,du.mono (s5.trans s58),by lia,gN,fin hi,hR.mono (s12.trans s28),G.nd,h8,Lh,Lp,Lt,s8 _ _ h7,cN,λz=>((FN.he z.1).resolve_right λy=>by have:=z.2;lia).2,λH9 k9 du9=>?_⟩;obtain⟨v1,_⟩:=plF_val sv (λn=>lY (gv n).2) x.ad;have xe:(⟨hd.map WR.d,pa.map WR.d,ta.map WR.d,vl (x.am.num,(x.am.den:Int)),x.ad⟩:SD)=x:=by rw[<-FN.e1,<-FN.e2,<-FN.e3,show vl (x.am.num,(x.am.den:Int))=x.am from Rat.num_divInt_den x.am]
   refine⟨hi,_,_,_,_,plF g (x.am.num,(x.am.den:Int)) hd pa ta,rfl,k9.same nq s28,du9,by simp only[jO,jF];lia,(λn=>(plF_nx Lh Lp Lt gN cN n).mono (by lia)),λn=>⟨?_,plF_pos sv cp (λn=>(gv n).2) n⟩⟩;rw[jS,ex,j0,totA_snoc,<-(gv n).1,v1 n,xe]
  ·rintro σ H4⟨_,z6,z7,z8,ns,g,rfl,s4,du,lns,gN,gv⟩;rw[lts,jQ]at gv;exact⟨z6,z7,z8,ns,g,rfl,s4,du,(λn=>(gN n).mono (by lia)),gv⟩
 rintro zU hzU σ' H4⟨z6,z7,z8,ns,g,rfl,s4,du,gN,gv⟩;obtain⟨kvd',hd4,hk,_⟩:=hR.mono (s12.trans s4);obtain⟨⟨kvq,hq4,tq⟩,noq⟩:=du;have he4:=(s12.trans s4) _ _ he;have te:=tb.mono λv x z=>DueIs.mono z (s12.trans s4);subst hzU;refine bM (λσ' H'=>Same H H') ?_ ?_
 ·refine⟨d,.dK kvd',hd4,(by intro o z q;cases q),_,rfl,d,kvd',rfl,hd4,λo=>?_⟩
  refine e9 (a:=d) (o:=o) (kvs:=kvd') (λi σ H5=>∃z9 z10 z11,σ=[some (.ref ls),some (.ref d),some (.ref e),some (.ref l),some (.ref r),some (.ref q),z6,z7,z8,z9,z10,z11]/\H5 d=some (.frz o (.dK kvd'))/\∀b ob,H4 b=some ob->b≠d->H5 b=some ob)
   ⟨_,_,_,rfl,ag,λb ob q ne=>by rw[ai ne];exact q⟩ ((by rintro i σ H5 _⟨_,_,_,_,h,_⟩;exact h)) ?_ ?_
  ·rintro i kv σ H5 hkv⟨z9,z10,z11,rfl,hfz,k5⟩
   obtain⟨y,ey,e1⟩:∃y,rs[i]?=some y/\kv.1=Sum.inr y.nm:=by
    have g:=kA (λl=>l[i]?) hk;simp only[jK,hkv,kU]at g
    cases e:rs[i]? with
    |none=>rw[e]at g;cases g
    |some y=>rw[e]at g;exact⟨y,rfl,kg g⟩
   have ekv:kV kv.1=.str y.nm:=by rw[e1];rfl
   rw[ekv];have hq5:=k5 _ _ hq4 nqd;have he5:=k5 _ _ he4 nde.symm;have tq5:=tq.mono ((by rintro v x⟨t,z,g⟩;exact(⟨t,z,k5 _ _ g (aG g hd4 (by intro z;cases z))⟩:DueIs H5 v x)));have te5:=te.mono ((by rintro v x⟨t,z,g⟩;exact(⟨t,z,k5 _ _ g (aG g hd4 (by intro z;cases z))⟩:DueIs H5 v x)));refine⟨_,rfl,q,rfl,.inl ⟨kvq,.inl hq5⟩,_,rfl,zL2,λe0 ne0=>?_⟩;obtain⟨H6,zq,s6,h6⟩:=uG (o:=.tup [.int 0,.int 1]) ne0;rw[zq];refine⟨_,DGet.k (k:=Sum.inr y.nm) (s6 _ _ hq5),?_⟩
   have hv1:DueIs H6 ((bI kvq (Sum.inr y.nm)).getD (.ref e0)) (g y.nm):=by
    by_cases hn:y.nm∈a9 ns
    ·obtain⟨v,ev,z⟩:=tq5.vals _ hn;rw[ev];exact z.mono s6
    ·rw[tq5.none hn,noq _ λz=>hn (mem_keysOf.mpr z)];exact⟨e0,rfl,h6⟩
   generalize(bI kvq (Sum.inr y.nm)).getD (.ref e0)=v1 at hv1⊢;obtain⟨t1,rfl,ht1⟩:=hv1;refine⟨_,rfl,e,rfl,.inl ⟨kvs,.inl (s6 _ _ he5)⟩,_,rfl,zL2,λe2 ne2=>?_⟩;obtain⟨H7,zq,s7,h7⟩:=uG (o:=.tup [.int 0,.int 1]) ne2;rw[zq];have s67:=s6.trans s7;refine⟨_,DGet.k (k:=Sum.inr y.nm) (s67 _ _ he5),?_⟩
   have hv2:DueIs H7 ((bI kvs (Sum.inr y.nm)).getD (.ref e2)) (f y.nm):=by
    by_cases hn:y.nm∈ks
    ·obtain⟨v,ev,z⟩:=te5.vals _ hn;rw[ev];exact z.mono s67
    ·rw[te5.none hn,f0 _ hn];exact⟨e2,rfl,h7⟩
   generalize(bI kvs (Sum.inr y.nm)).getD (.ref e2)=v2 at hv2⊢;obtain⟨t2,rfl,ht2⟩:=hv2;have S1:=SqT.of (K:=K) (s7 _ _ ht1);have S2:=SqT.of (K:=K) ht2
   have cr:(g y.nm).1*(f y.nm).2=(f y.nm).1*(g y.nm).2:=by
    refine vl_cross (lY (gv _).2) (lY (hf _).2) ?_;rw[(gv y.nm).1,<-AD.am y.nm];unfold aS;by_cases hn:y.nm∈ks
    ·rw[if_pos hn]
    ·rw[if_neg hn,f0 _ hn];rfl
   refine⟨_,rfl,t1,_,_,_,rfl,rfl,S1,rfl,_,rfl,t2,_,_,_,rfl,rfl,S2,rfl,_,_,rfl,rfl,eY (gN _).t (hf _).1.b (by decide),?_⟩;refine⟨_,rfl,t2,_,_,_,rfl,rfl,S2,rfl,_,rfl,t1,_,_,_,rfl,rfl,S1,rfl,_,_,rfl,rfl,eY (hf _).1.t (gN _).b (by decide),rfl,_,rfl,iteNS (kA V.int cr) ?_⟩;exact⟨_,_,_,rfl,s67 _ _ hfz,λb ob q ne=>s67 _ _ (k5 _ _ q ne)⟩
  ·rintro σ H5⟨z9,z10,z11,rfl,hfz,k5⟩;refine⟨o,hfz,λb ob q=>?_⟩;have q:=(s12.trans s4) _ _ q;by_cases hb:b=d
   ·subst hb;rw[ag,<-hd4,q]
   ·rw[ai hb];exact k5 _ _ q hb
 rintro zU hzU σ' H5 s5;subst hzU;exact k H5 s5
noncomputable def TpI(N:Addr->Prop)(H:Hp)(v:V)(s:SD):Prop:=∃u l1 l2 l3,v=.ref u/\H u=some (.tup [.ref l1,.ref l2,.ref l3])/\H l1=some (.lst (nmV s.rg))/\H l2=some (.lst (nmV s.pa))/\H l3=some (.lst (nmV s.tl))/\N l1/\N l2/\N l3
theorem TpI.but(h:TpI N H v s)(k:∀b ob,H b=some ob->(∀xs,ob=.lst xs->N b)->H' b=some ob):TpI N H' v s:=by
 obtain⟨u,l1,l2,l3,e,h0,h1,h2,h3,n1,n2,n3⟩:=h;exact⟨u,l1,l2,l3,e,k _ _ h0 (by intro _ z;cases z),k _ _ h1 λ_ _=>n1,k _ _ h2 λ_ _=>n2,k _ _ h3 λ_ _=>n3,n1,n2,n3⟩
theorem nmV_eq(h:H l=some (.lst (nmV ws)))(h':H l'=some (.lst (nmV ws))):EqD K H 19 (.ref l) (.ref l'):=EqD.lst (n:=18) (SqL.of h) (SqL.of h') rfl λj x y hx hy=>by
 rw[hx]at hy
 cases hy;unfold nmV at hx;obtain⟨z,_,rfl⟩:=jL.mp (jI hx);exact .flat rfl
theorem TpI.eq(h:TpI N H v s)(g:TpI M H u s):EqD K H 20 v u:=by
 obtain⟨u,l1,l2,l3,rfl,h0,h1,h2,h3,_⟩:=h;obtain⟨u',l1',l2',l3',rfl,g0,g1,g2,g3,_⟩:=g;refine EqD.tup (n:=19) (SqT.of h0) (SqT.of g0) rfl λj x y hx hy=>?_
 match j,hx,hy with
 |0,hx,hy=>cases hx;cases hy;exact nmV_eq h1 g1
 |1,hx,hy=>cases hx;cases hy;exact nmV_eq h2 g2
 |2,hx,hy=>cases hx;cases hy;exact nmV_eq h3 g3
theorem ad_apart{ss:List SD}(nd:(ss.flatMap (·.ad)).Nodup)(hx:x∈ss.take 1):x.ad.Nodup/\∀y∈ss.drop 1,∀b∈y.ad,¬b∈x.ad:=by
 cases ss with
 |nil=>cases hx
 |cons z r=>
  obtain rfl:x=z:=by simpa using hx
  rw[List.flatMap_cons,ky]at nd;exact⟨nd.1,λy hy b hb g=>nd.2.2 b g b (List.mem_flatMap.mpr ⟨y,hy,hb⟩) rfl⟩
theorem StIs.ls (h:StIs a X H v s)(hb:b∈s.ad):∃xs,H b=some (.lst xs):=by
 obtain⟨u,l1,l2,l3,q,_,_,h1,h2,h3,_,_,_,_,e⟩:=h;rw[e]at hb;simp only[j3,j9,or_false]at hb;rcases hb with rfl|rfl|rfl
 ·exact⟨_,h1⟩
 ·exact⟨_,h2⟩
 ·exact⟨_,h3⟩
inductive IspApL(a:Ad)(vs:List V)(H:Hp)(Q:VK):Prop
 |mk(l:Addr)(X:List Addr)(ts:List V)(ss:List SD)(h1:vs=[.ref l])(h2:H l=some (.lst ts))(h3:RowAt (StIs a X) H ts ss)(h4:(ss.flatMap (·.ad)).Nodup)(h5:ts.length<=100)(h6:(∀s∈ss,s.rg.length<=100/\s.tl.length<=100))(h7:¬l∈ss.flatMap (·.ad))(h8:∀H',(∀b ob,H b=some ob->¬b∈ss.flatMap (·.ad)->H' b=some ob)->Q (.bl true) H'):IspApL a vs H Q
noncomputable def spApL(a:Ad):Sp:=λvs H Q _=>IspApL a vs H Q
theorem iW(T:TX K mg a):FnB P w K mg base CX0 "_law_apart_lists" 1 ["_law_found"] (spApL a):=by
 refine T.d_law_apart_lists.okA sc_law_apart_lists λf cdv A outer s H vs Q E hr h=>?_;obtain⟨l,X,ts,ss,rfl,hl,hss,nda,l100,sl,nl,k⟩:=h
 refine⟨_,(aE (dA (i:=1) (xs:=["_law_strand_here"]) (rest:=[]) sc_law_apart_lists.nd rfl rfl rfl (a5 (dC ig (pv 0) (fF ab) fG))
  (λpins fp C' s' H'=>(aw (i:=0) (show(["_law_strand_here"]:List Str).Nodup by decide+kernel))) (λpins fp C' s' H'=>cA)
  (λpins fp C' s' H'=>(aU (aa (bj (i8 (K:=K) rfl) (by rfl) T.z_list kK (aa (al (r:=rIxT K) av (pv 0) ab) ae)) (aa (bj (i8 (K:=K) rfl) (by rfl) T.z_list kK (aa (al (r:=rIxT K) av (pv 0) ab) ae)) (aa (bj (i8 (K:=K) rfl) (by rfl) T.z_list kK (aa (al (r:=rIxT K) av (pv 0) ab) ae)) ae)))))
  (Clos.none (by decide+kernel) (by decide+kernel)) (Reads.many (ys:=[]) (js:=[]) True.intro))
  (aE (aQ jR rfl (a5 (dC ig (pv 0) fG (fF ab))) (aw (i:=2) sc_law_apart_lists.nd) (af (aT (gi ki kC kD bJ (al av (pv 2) ab) (aa bW ae)))
  (af (aT (pe_bm0 ki PySem.F.slot_list_clear PySem.F.type_list_clear mt_lclear (al av (pv 2) ab)))
  (ah (aT (gi ki kC kD bJ (al av (pv 2) ab) (aa bW ae)))))))
  (ah (ax (eQ (op_eqDL hr.units) (pv 1) (eP (xs:=["_law_strand_here"]) (rest:=[]) rfl (a5 (dC ig (pv 0) (fF ab) fG))
  (λpins fp C' s' H'=>(aw (i:=0) (show(["_law_strand_here"]:List Str).Nodup by decide+kernel))) (λpins fp C' s' H'=>cA)
  (λpins fp C' s' H'=>(aU (aa (al (r:=rIxT K) av (pv 0) ab) (aa (al (r:=rIxT K) av (pv 0) ab) (aa (al (r:=rIxT K) av (pv 0) ab) ae)))))
  (Clos.none (by decide+kernel) (by decide+kernel)) (Reads.many (ys:=[]) (js:=[]) True.intro))))))),?_⟩
 walk_at"q"
 have lts:ts.length=ss.length:=hss.1
 have dr:∀{i:Nat}{v:V},(ts.drop 1)[i]?=some v->∃x,(ss.drop 1)[i]?=some x/\StIs a X H v x:=λ{i v}h=>by
  rw[List.getElem?_drop]at h;obtain⟨x,ex,z⟩:=hss.get h;exact⟨x,by rw[List.getElem?_drop];exact ex,z⟩
 refine bM (λσ' H'=>∃lr us,σ'=[some (.ref l),some (.ref lr),none]/\Same H H'/\H lr=none/\H' lr=some (.lst us)/\RowAt (TpI λb=>H b=none/\b≠lr) H' us (ss.drop 1)) ?_ ?_
 ·refine⟨_,rfl,_,rfl,l,_,rfl,SqL.of hl,λp np=>?_⟩;rw[show cutV ts (some 1) none=ts.drop 1 from cut_drop 1];obtain⟨H0,zq,s0,hp⟩:=uG (o:=.lst (ts.drop 1)) np;rw[zq];refine⟨p,rfl,⟨_,SqL.of hp⟩,λlr nr=>?_⟩;have nrH:=s0.free nr;refine de (K:=K) (a:=p) (xs:=ts.drop 1) (λi H1=>i<=(ss.drop 1).length/\Same H0 H1/\∃us,H1 lr=some (.lst us)/\RowAt (TpI λb=>H b=none/\b≠lr) H1 us ((ss.drop 1).take i)) ⟨jU _,aC nr,[],ag,RowAt.nil⟩ ((by rintro i H1⟨_,s1,_⟩;exact SqL.of (s1 _ _ hp))) ?_ ?_
  ·rintro i v H1 hv⟨_,s1,us,hu,ru⟩;obtain⟨x,ex,z⟩:=dr hv;have hi:=(jG.mp ex).1;have s01:=s0.trans s1;obtain⟨u,l1,l2,l3,q,rfl,h0,h1,h2,h3,_⟩:=z.same s01;refine L2.g1 ⟨⟨[_],rfl,rfl⟩,yes ?_⟩;refine⟨_,rfl,u,_,_,_,rfl,rfl,SqT.of h0,rfl,l1,_,rfl,.inl (SqL.of h1),λm1 e1=>?_⟩;obtain⟨H2,zq,t1,g1⟩:=uG (o:=.lst (nmV x.rg)) e1;rw[zq];refine⟨_,rfl,u,_,_,_,rfl,rfl,SqT.of (t1 _ _ h0),rfl,l2,_,rfl,.inl (SqL.of (t1 _ _ h2)),λm2 e2=>?_⟩;obtain⟨H3,zq,t2,g2⟩:=uG (o:=.lst (nmV x.pa)) e2;rw[zq];have t12:=t1.trans t2;refine⟨_,rfl,u,_,_,_,rfl,rfl,SqT.of (t12 _ _ h0),rfl,l3,_,rfl,.inl (SqL.of (t12 _ _ h3)),λm3 e3=>?_⟩;obtain⟨H4,zq,t3,g3⟩:=uG (o:=.lst (nmV x.tl)) e3;rw[zq];refine⟨zL3,λt nt=>?_⟩;obtain⟨H5,zq,t4,g4⟩:=uG (o:=.tup [.ref m1,.ref m2,.ref m3]) nt;rw[zq];have t34:=t3.trans t4;have t15:=t12.trans t34;have hu5:=t15 _ _ hu;have lu:us.length<=100:=by rw[ru.1,jT,lz];lia
   have nw:∀{b:Addr}{J:Hp},Same H1 J->J b=none->H b=none/\b≠lr:=λ{b J}sJ e=>⟨(s01.trans sJ).free e,λz=>by rw[z,sJ _ _ hu]at e;cases e⟩
   have kp:∀v y,TpI (λb=>H b=none/\b≠lr) H5 v y->TpI (λb=>H b=none/\b≠lr) (upd H5 lr (.lst (us++[.ref t]))) v y:=λv y z=>z.but λb ob e n=>by
    by_cases hb:b=lr
    ·rw[hb,hu5]at e
     cases e;exact absurd hb (n _ rfl).2
    ·rw[ai hb];exact e
   refine⟨_,hu5,ay (by lia),dD (by rw[lz];rw[lz]at hi;lia) ⟨hi,aF nr (s1.trans t15),_,ag,?_⟩⟩;rw[jS,ex,j0];exact RowAt.snoc (ru.mono λv y z=>kp v y (z.but λb ob e _=>t15 _ _ e)) (kp _ _ ⟨t,m1,m2,m3,rfl,g4,t4 _ _ (t3 _ _ (t2 _ _ g1)),t4 _ _ (t3 _ _ g2),t4 _ _ g3,nw (Same.refl _) e1,nw t1 e2,nw t12 e3⟩)
  ·rintro H1⟨_,s1,us,hu,ru⟩;rw[lz,lts,<-lz,jQ]at ru;exact⟨lr,us,rfl,s0.trans s1,nrH,hu,ru⟩
 rintro zU hzU σ' H1⟨lr,us,rfl,s1,nr,hu,ru⟩;subst hzU;refine bM (λσ' H'=>∃z,σ'=[some (.ref l),some (.ref lr),z]/\∀b ob,H1 b=some ob->(∀x∈ss.take 1,¬b∈x.ad)->H' b=some ob) ?_ ?_
 ·refine⟨_,rfl,_,rfl,l,_,rfl,SqL.of (s1 _ _ hl),λp np=>?_⟩;rw[show cutV ts none (some 1)=ts.take 1 from cut_take 1];obtain⟨H2,zq,s2,hp⟩:=uG (o:=.lst (ts.take 1)) np;rw[zq]
  have pn:∀x∈ss.take 1,¬p∈x.ad:=λx hx hb=>by
   obtain⟨j,hj⟩:=List.getElem?_of_mem (kZ hx);obtain⟨v,_,z⟩:=hss.get' hj;obtain⟨xs,e⟩:=z.ls hb;rw[s1 _ _ e]at np
   cases np
  refine⟨p,rfl,⟨_,SqL.of hp⟩,ba (K:=K) (a:=p) (xs:=ts.take 1) (λi σ H3=>(∃z,σ=[some (.ref l),some (.ref lr),z])/\(∀b ob,H2 b=some ob->(∀x∈ss.take 1,¬b∈x.ad)->H3 b=some ob)/\(i=0->H3=H2)) ⟨⟨_,rfl⟩,λb ob e _=>e,λ_=>rfl⟩ ((by rintro i σ H3 _⟨_,z,_⟩;exact SqL.of (z _ _ hp pn))) ?_ ?_⟩
  ·rintro i v σ H3 hv⟨⟨z,rfl⟩,kb,k0⟩
   obtain rfl:i=0:=by
    have:=(jG.mp hv).1
    rw[jT]at this
    lia
   obtain rfl:=k0 rfl;rw[List.getElem?_take_of_lt (by decide)]at hv;obtain⟨x,ex,st⟩:=hss.get hv;have hx:x∈ss.take 1:=jI (i:=0) (by rw[List.getElem?_take_of_lt (by decide)];exact ex);obtain⟨nx,_⟩:=ad_apart nda hx;obtain⟨b1,b2⟩:=sl x (jI ex);obtain⟨u,l1,l2,l3,q,rfl,h0,h1,h2,h3,_,_,_,_,e⟩:=st.same (s1.trans s2);rw[e]at nx;simp only[kM,j3,j9,or_false,not_or]at nx;obtain⟨⟨n12,n13⟩,n23,_⟩:=nx;have lw:∀ws:List WD,ws.length<=100->(nmV ws).length<sizeLine:=λws h=>ay (by unfold nmV;rw[jF];lia);refine⟨_,rfl,u,_,_,_,rfl,rfl,SqT.of h0,rfl,.inl ⟨rfl,_,SqL.of h1⟩,l1,_,_,rfl,rfl,h1,lw _ b1,?_⟩;have m1:∀b ob,H3 b=some ob->b≠l1->upd H3 l1 (.lst (nmV x.rg++[.str "a way"])) b=some ob:=λb ob e n=>by rw[ai n];exact e
   generalize upd H3 l1 (.lst (nmV x.rg++[.str "a way"]))=H4 at m1⊢;have u4:=m1 _ _ h0 (aG h0 h1 (by intro z;cases z));have h24:=m1 _ _ h2 (Ne.symm n12);refine⟨_,rfl,u,_,_,_,rfl,rfl,SqT.of u4,rfl,.inl ⟨rfl,_,SqL.of h24⟩,l2,_,rfl,rfl,h24,?_⟩;have m2:∀b ob,H4 b=some ob->b≠l2->upd H4 l2 (.lst []) b=some ob:=λb ob e n=>by rw[ai n];exact e
   generalize upd H4 l2 (.lst [])=H5 at m2⊢;have u5:=m2 _ _ u4 (aG u4 h24 (by intro z;cases z));have h35:=m2 _ _ (m1 _ _ h3 (Ne.symm n13)) (Ne.symm n23);refine⟨_,rfl,u,_,_,_,rfl,rfl,SqT.of u5,rfl,.inl ⟨rfl,_,SqL.of h35⟩,l3,_,_,rfl,rfl,h35,lw _ b2,?_⟩;refine⟨⟨_,rfl⟩,λb ob eb nb=>?_,λz=>absurd z (by decide)⟩
   have:=nb x hx
   rw[e]at this;simp only[j3,j9,or_false,not_or]at this;rw[ai this.2.2];exact m2 _ _ (m1 _ _ eb this.1) this.2.1
  ·rintro σ H3⟨⟨z,rfl⟩,kb,_⟩;exact⟨z,rfl,λb ob e n=>kb _ _ (s2 _ _ e) n⟩
 rintro zU hzU σ' H2⟨z,rfl,kb⟩
 have nin:∀{b ob},H b=some ob->(∀xs,ob≠.lst xs)->∀x∈ss.take 1,¬b∈x.ad:=λ{b ob}e n x hx hb=>by
  obtain⟨j,hj⟩:=List.getElem?_of_mem (kZ hx);obtain⟨v,_,z⟩:=hss.get' hj;obtain⟨xs,e'⟩:=z.ls hb;rw[e]at e';exact n xs (kg e')
 have nfr:∀{b},H b=none->∀x∈ss.take 1,¬b∈x.ad:=λ{b}e x hx hb=>by
  obtain⟨j,hj⟩:=List.getElem?_of_mem (kZ hx);obtain⟨v,_,z⟩:=hss.get' hj;obtain⟨xs,e'⟩:=z.ls hb;rw[e]at e'
  cases e'
 have hu2:=kb _ _ hu (nfr nr);have hl2:=kb _ _ (s1 _ _ hl) λx hx hb=>nl (List.mem_flatMap.mpr ⟨x,kZ hx,hb⟩);subst hzU;refine⟨_,rfl,_,rfl,_,rfl,l,_,rfl,SqL.of hl2,λp np=>?_⟩;rw[show cutV ts (some 1) none=ts.drop 1 from cut_drop 1];obtain⟨H3,zq,s3,hp⟩:=uG (o:=.lst (ts.drop 1)) np;rw[zq];refine⟨p,rfl,⟨_,SqL.of hp⟩,λq nq=>?_⟩;refine de (K:=K) (a:=p) (xs:=ts.drop 1) (λi H4=>i<=(ss.drop 1).length/\Same H3 H4/\∃ws,H4 q=some (.lst ws)/\RowAt (TpI λb=>b≠q) H4 ws ((ss.drop 1).take i)) ⟨jU _,aC nq,[],ag,RowAt.nil⟩ ((by rintro i H1⟨_,s1,_⟩;exact SqL.of (s1 _ _ hp))) ?_ ?_
 ·rintro i v H4 hv⟨_,s4,ws,hw,rw'⟩;obtain⟨x,ex,z⟩:=dr hv;have hi:=(jG.mp ex).1;have ap:∀b∈x.ad,∀y∈ss.take 1,¬b∈y.ad:=λb hb y hy=>(ad_apart nda hy).2 x (jI ex) b hb;obtain⟨u,l1,l2,l3,qf,rfl,h0,h1,h2,h3,_,_,_,_,e⟩:=z;have mv:∀{b ob},H b=some ob->(∀x∈ss.take 1,¬b∈x.ad)->H4 b=some ob:=λ{b ob}e n=>s4 _ _ (s3 _ _ (kb _ _ (s1 _ _ e) n));have m0:=mv h0 (nin h0 (by intro _ z;cases z));have m1:=mv h1 (ap _ (by rw[e];simp));have m2:=mv h2 (ap _ (by rw[e];simp));have m3:=mv h3 (ap _ (by rw[e];simp));have nqb:∀{b ob},H b=some ob->(∀x∈ss.take 1,¬b∈x.ad)->b≠q:=λ{b ob}e n=>ar (s3 _ _ (kb _ _ (s1 _ _ e) n)) nq;refine L2.g1 ⟨⟨[_],rfl,rfl⟩,yes ?_⟩;refine⟨_,rfl,u,_,_,_,rfl,rfl,SqT.of m0,rfl,_,rfl,u,_,_,_,rfl,rfl,SqT.of m0,rfl,_,rfl,u,_,_,_,rfl,rfl,SqT.of m0,rfl,zL3,λt nt=>?_⟩;obtain⟨H5,zq,t4,g4⟩:=uG (o:=.tup [.ref l1,.ref l2,.ref l3]) nt;rw[zq];have hw5:=t4 _ _ hw;have lu:ws.length<=100:=by rw[rw'.1,jT,lz];lia
  have kp:∀v y,TpI (λb=>b≠q) H5 v y->TpI (λb=>b≠q) (upd H5 q (.lst (ws++[.ref t]))) v y:=λv y z=>z.but λb ob e n=>by
   by_cases hb:b=q
   ·rw[hb,hw5]at e
    cases e;exact absurd hb (n _ rfl)
   ·rw[ai hb];exact e
  refine⟨_,hw5,ay (by lia),dD (by rw[lz];rw[lz]at hi;lia) ⟨hi,aF nq (s4.trans t4),_,ag,?_⟩⟩;rw[jS,ex,j0];exact RowAt.snoc (rw'.mono λv y z=>kp v y (z.but λb ob e _=>t4 _ _ e)) (kp _ _ ⟨t,l1,l2,l3,rfl,g4,t4 _ _ m1,t4 _ _ m2,t4 _ _ m3,nqb h1 (ap _ (by rw[e];simp)),nqb h2 (ap _ (by rw[e];simp)),nqb h3 (ap _ (by rw[e];simp))⟩)
 ·rintro H4⟨_,s4,ws,hw,rw'⟩;rw[lz,lts,<-lz,jQ]at rw';have s24:=s3.trans s4
  have ru4:=ru.mono λv y(z:TpI (λb=>H b=none/\b≠lr) H1 v y)=>z.but λb ob e n=>s24 _ _ (kb _ _ e λx hx hb=>by
   obtain⟨xs,e'⟩:∃xs,H b=some (.lst xs):=by
    obtain⟨j,hj⟩:=List.getElem?_of_mem (kZ hx);obtain⟨v,_,z⟩:=hss.get' hj;exact z.ls hb
   have:=s1 _ _ e'
   rw[e]at this;rw[(n xs (kg this)).1]at e'
   cases e')
  refine⟨lr,q,us,ws,rfl,rfl,SqL.of (s24 _ _ hu2),SqL.of hw,ru4.1.trans rw'.1.symm,λj x y hx hy=>?_,k H4 λb ob e n=>s24 _ _ (kb _ _ (s1 _ _ e) λx hx hb=>n (List.mem_flatMap.mpr ⟨x,kZ hx,hb⟩))⟩;obtain⟨z,ez,t1⟩:=ru4.get hx;obtain⟨z',ez',t2⟩:=rw'.get hy;rw[ez]at ez'
  cases ez';exact t1.eq t2
theorem RowAt.take(d:RowAt R H ts xs)(k:Nat):RowAt R H (ts.take k) (xs.take k):=by
 refine⟨by rw[jT,jT,d.1],λi t x h1 h2=>?_⟩;rw[lI]at h1 h2
 split at h1
 ·rw[if_pos ‹_›]at h2;exact d.2 i t x h1 h2
 ·cases h1
theorem bs_of{rs:List WR}(hN:Names sp n)(hM:Names lb (2*n+4))(n2:2<=n)(n4:n<=4)(l:rs.length=2*n)(h:∀k r,rs[k]?=some r->BaseR sp lb n k r):∃as:Nat->WR,BsX sp lb n as/\∀j,j<2*n->rs[j]?=some (as j):=by
 obtain⟨r0,e0⟩:∃r,rs[0]?=some r:=⟨_,jH (by lia)⟩
 have at_:∀j,j<2*n->rs[j]?=some (rs.getD j r0):=λj hj=>by
  rw[List.getD_eq_getElem?_getD,jH (by lia)];rfl
 exact⟨λj=>rs.getD j r0,⟨⟨hN.nd,hN.len,λj hj=>(h _ _ (at_ j hj)).st,λj hj=>(h _ _ (at_ j hj)).go⟩,λj hj=>(h _ _ (at_ j hj)).nm,λj hj=>(h _ _ (at_ j hj)).gs,hM.len,hM.nd,n2,n4⟩,at_⟩
theorem free_rs (hM:Names lb (2*n+4))(n2:2<=n)(l:rs.length<=8)(h:∀k r,rs[k]?=some r->FreeR sp lb k r):RsG sp rs:=by
 have ll:=hM.len;refine⟨?_,by lia,λr hr=>?_⟩
 ·have e:rs.map (·.nm)=lb.take rs.length:=List.ext_getElem? λk=>by
   rw[jK,lI];by_cases hk:k<rs.length
   ·have g:=jH hk;rw[if_pos hk,g,cD (by lia)];show some rs[k].nm=_;rw[(h k _ g).nm]
   ·rw[if_neg hk,List.getElem?_eq_none (by lia)];rfl
  rw[e];exact hM.nd.sublist (List.take_sublist _ _)
 ·obtain⟨j,hj⟩:=kh.mp hr;have F:=h j r hj;obtain⟨a1,a2,a3,a4⟩:=gs200 F.gs;have p:(2:Int)^3<=2^12:=by decide
  exact⟨⟨⟨a1,Int.le_trans a2 p,a3,Int.le_trans a4 p⟩,F.ne,F.st,F.go⟩,dv_base F.gs⟩
theorem RsG.ok(h:RsG sp rs):RsOk sp rs:=⟨h.nd,by have:=h.len;lia,λr hr=>(h.all r hr).1⟩
theorem RsG.names(h:RsG sp rs):(rs.map WR.d).map (·.nm)=rs.map (·.nm):=by
 rw[kO];exact List.map_congr_left λr _=>WR.d_nm r
theorem RsG.ns(h:RsG sp rs)(nd:sp.Nodup)(l4:sp.length<=4):NsOk EE (netW sp x) (rs.map WR.d):=by
 refine⟨by rw[eV];exact nd,by unfold netW;rw[jF];exact l4,by rw[h.names];exact h.nd,by rw[jF];exact h.len,by decide,by decide,λd hd=>?_,λd hd=>?_,λd hd=>?_⟩
 ·obtain⟨r,hr,rfl⟩:=jL.mp hd;obtain⟨g1,g2,g3⟩:=h.gn hr;exact⟨g1,g2,g3.mono (by decide)⟩
 ·obtain⟨r,hr,rfl⟩:=jL.mp hd;rw[WR.d_st,WR.d_go];exact(h.all r hr).1.ne
 ·obtain⟨r,hr,rfl⟩:=jL.mp hd;rw[eV,WR.d_st,WR.d_go];exact⟨(h.all r hr).1.i1,(h.all r hr).1.i2⟩
theorem NsOk.sums(O:NsOk E ps ns)(hA:∀n,SzQ D 100 (A n))(d0:0<D)(hD:D*E<=2^2000):SumOk A ps ns:=by
 have bA:∀n,Bd (100+2000) (A n):=λn=>(hA n).bd d0 (jV (Nat.le_mul_of_pos_right D O.e0) hD);refine⟨O.np,by have:=O.lp;lia,O.io,O.ne,λd hd=>⟨(O.g1 d hd).2.1,(O.g1 d hd).2.2.smr (by decide)⟩,λd hd=>⟨(bA _).smr (by decide),((bA _).mul (O.g1 d hd).2.2).smr (by decide)⟩,λi s=>?_⟩;obtain⟨h1,h2,h3⟩:=sumF_sz (s:=s) O.e0 hA (ns.take i) (λd hd=>O.ne d (kZ hd)) λd hd=>O.g1 d (kZ hd)
 have hN:(((ns.take i).length*2^(100+40):Nat):Rat)<=((2^144:Nat):Rat):=by
  have l:(ns.take i).length<=12:=by
   rw[jT]
   have:=O.ln
   lia
  have:(ns.take i).length*2^(100+40)<=2^144:=jV (Nat.mul_le_mul_right _ l) (by decide)
  exact_mod_cast this
 generalize aZ A (ns.take i) s=x at h1 h2 h3⊢;generalize(((ns.take i).length*2^(100+40):Nat):Rat)=y at h2 h3 hN;generalize hz:((2^144:Nat):Rat)=z at hN;have dE:=Nat.mul_pos d0 O.e0;rcases(Rat.le_total:(0:Rat)<=x∨x<=0) with q|q
 ·exact(h1.bd (m:=144) (n:=2000) q (by rw[hz];grind) dE hD).smr (by decide)
 ·have:=(h1.neg.bd (m:=144) (n:=2000) (by grind) (by rw[hz];grind) dE hD).neg
  rw[Rat.neg_neg]at this;exact this.smr (by decide)
theorem ddee:0<DD/\DD*EE<=2^2000:=by decide+kernel
theorem ApD.sl(h:ApD A0 ps ns ss):∀s∈ss,s.rg.length<=100/\s.tl.length<=100:=λs hs=>by
 have lE:∀{m:Bool}{k:Str×List WD},EndO A0 ns m k->k.2.length<=100:=λ{m k}e=>by
  rcases e with⟨e,_⟩|e
  ·rw[e];exact jU _
  ·have:=e.ln
   lia
 rcases(h.each s hs).or with⟨_,e,_,l,_⟩|⟨p,q,_,_,_,_,e1,e2⟩
 ·exact⟨by lia,by rw[e];exact jU _⟩
 ·exact⟨lE e1,lE e2⟩
theorem eqVs_ii(x y:Int):eqVs [V.int x,.int y] [V.int x,.int y]=true:=by simp[eqVs,eqV]
structure St36(a:Ad)(H:Hp)(ls d e p r r2:Addr)(sp:List Str)(rs:List WR)(kve kvp:List (Key×V))(ks:List Str)(f:Str->Int×Int)(x:Rat):Prop where
 hl:H ls=some (.lst (sp.map V.str))
 nd:sp.Nodup
 l4:sp.length<=4
 ch:∀x∈sp,∃s t:Nat,∀c∈x.cps.toList,c=s∨c=t
 hR:RowsAt H d rs
 G:RsG sp rs
 he:H e=some (.dK kve)
 tb:Tab DueIs H kve ks f
 ndk:ks.Nodup
 D:DuO rs 100 3000 ks f
 no:∀n,n∉ks->f n=(0,1)
 nde:d≠e
 off:NetOff a H p r2 (netW sp x) (rs.map WR.d)
 hr:H r=some (.dK kvp)
 hr2:H r2=some (.dK kvp)
 tp:Tab (FrIs a) H kvp ks λn=>vl (f n)
 nrr:r≠r2
theorem St36.mono(h:St36 a H ls d e p r r2 sp rs kve kvp ks f x)(s:Same H H'):St36 a H' ls d e p r r2 sp rs kve kvp ks f x:=⟨s _ _ h.hl,h.nd,h.l4,h.ch,h.hR.mono s,h.G,s _ _ h.he,h.tb.mono λv x z=>z.mono s,h.ndk,h.D,h.no,h.nde,h.off.mono s,s _ _ h.hr,s _ _ h.hr2,h.tp.mono λv x z=>z.mono s,h.nrr⟩
theorem ok_law(N:Fun K "law" "law" s_law f fd)(T:TX K mg a):FnOk P w K mg base CX0 20 f fd ["_law_script"] (spLaw K):=by
 refine N.okA sc_law λcdv A outer s H vs Q E hr h=>?_;obtain⟨l,ns,rfl,hS,hlen,hbt,k⟩:=h
 refine⟨_,(af (aj (i:=1) sc_law.nd (az (a7 T) hr aq (aa (pv 0) (aa ab ae))))
  (af (aj (i:=2) sc_law.nd (az (jt T) hr aq (aa (az (a7 T) hr aq (aa (pv 0) (aa ab ae))) (aa (ao aO ab (ao aL (pv 1) ab)) ae))))
  (af (aj (i:=3) sc_law.nd (az (jt T) hr aq (aa (az (a7 T) hr aq (aa (pv 0) (aa ab ae))) (aa (ao aO (ao bE ab (aI a6 (by rfl) T.z_len km (aa (pv 2) ae))) ab) ae))))
  (af (aj (i:=4) sc_law.nd (az (ok_law_ways T) hr aq (aa (pv 0) (aa (pv 2) (aa (pv 3) ae)))))
  (af (aj (i:=5) sc_law.nd (dC ig (az (ok_law_strands T) hr aq (aa (pv 0) (aa (pv 4) (aa (pv 3) (aa (aI a6 (by rfl) T.z_len km (aa (pv 2) ae)) (aa ab ae)))))) fG (fF (ao aL (az (a7 T) hr aq (aa (pv 0) (aa ab ae))) ab))))
  (aE (aN (au cT (ao aL (ao br (pv 1) ab) ab) ab) (af (aj (i:=4) sc_law.nd (az (ok_law_free_ways T) hr aq (aa (pv 0) (aa (pv 2) (aa (pv 3) ae)))))
  (ah (aj (i:=5) sc_law.nd (aR ae)))) aA)
  (af (aj (i:=6) sc_law.nd (az (ok_law_net T) hr aq (aa (pv 2) (aa (pv 4) (aa (az (a7 T) hr aq (aa (pv 0) (aa ab ae))) ae)))))
  (af (aj (i:=7) sc_law.nd (az (ok_law_due T) hr aq (aa (pv 0) (aa (pv 4) (aa (pv 5) ae)))))
  (af (aj (i:=8) sc_law.nd (az (ok_law_as_plan T) hr aq (aa (pv 7) ae)))
  (aE (aj (i:=9) sc_law.nd (bj ia (by rfl) T.z_dict PyProof.Rows.boot_dict (aa (pv 8) ae)))
  (af (aQ jR rfl (bO rfl T.z_range (aa (ao aO ab (ao aL (ao br (pv 1) ab) ab)) ae)) (aw (i:=10) sc_law.nd) (af (aj (i:=11) sc_law.nd (az (ok_taken_apart T) hr aq (aa (pv 6) (aa (pv 9) ae))))
  (af (aN (PW.pt (fE (dJ (cI (az (ok_law_right T) hr aq (aa (pv 2) (aa (pv 4) (aa (pv 7) (aa (pv 11) ae))))))) (dI (au fH (aI call_lenD (by rfl) T.z_len km (aa (pv 9) ae)) (aI call_lenD (by rfl) T.z_len km (aa (pv 8) ae)))))) (ah (ax gj)) aA)
  (af (cB (aQ jR rfl (dO (pv 8)) (aw (i:=12) sc_law.nd) (ah (aN (PW.pt (fE (eN (gk (aJ hr) (pv 12) (pv 9))) (dI (au (op_neT hr.units0) (az (fI T) hr aq (aa (aV (aJ hr) (pv 9) (pv 12) (λ_ _=>rfl)) ae)) (az (fI T) hr aq (aa (aV (aJ hr) (pv 8) (pv 12) (λ_ _=>rfl)) ae)))))) (ah (ax gj)) aA))))
  (af (aN (dJ (cI (az (iW T) hr aq (aa (pv 11) ae)))) (ah (ax gj)) aA)
  (ah (aT (pe_bm0 ki PySem.F.slot_list_clear PySem.F.type_list_clear mt_lclear (pv 11)))))))))
  (ah (ax gj))))))))))))),?_⟩
 walk_at"q"
 generalize hk9:iy _ _=k9
 revert k9
 refine fP λk9 hk9=>?_;refine⟨_,rfl,l,ns,0,rfl,hS,by decide,by decide,λc0=>?_⟩;refine⟨_,rfl,l,ns,1,rfl,hS,by decide,by decide,λc1=>?_⟩;obtain⟨a1,a2⟩:=aW c0 (show(0:Int)<3 by decide);obtain⟨n,en⟩:=lV (show 0<=2+c0%3 by lia);have n2:2<=n:=by lia
 have n4:n<=4:=by lia
 refine⟨_,rfl,_,_,rfl,rfl,zI3,_,_,rfl,rfl,c1,n,by show[V.int c1,V.int (2+c0%3)]=_;rw[en],by lia,λls H1 sp nls s1 hls hN=>?_⟩;refine⟨_,rfl,l,ns,2,rfl,s1.seq hS,by decide,by decide,λc2=>?_⟩;refine⟨_,rfl,ls,_,rfl,.inl (SqL.of hls),_,_,rfl,rfl,⟨by decide,by rw[jF,hN.len];exact Sm.of_le (n:=10) (by lia) (by decide)⟩,_,_,rfl,rfl,c2,2*n+4,by rw[jF,hN.len];rfl,by lia,λll H2 lb nll s2 hll hM=>?_⟩;have s12:=s1.trans s2;have hls2:=s2 _ _ hls;refine⟨_,rfl,_,rfl,_,rfl,l,ls,ll,ns,sp,lb,n,rfl,s12.seq hS,SqL.of hls2,SqL.of hll,hN,n2,n4,hM,λd H3 rs nd s3 hR ln good=>?_⟩;obtain⟨as,B,hat⟩:=bs_of hN hM n2 n4 ln good;have s13:=s12.trans s3;have hls3:=s3 _ _ hls2;have hll3:=s3 _ _ hll;refine⟨_,rfl,_,rfl,_,rfl,_,rfl,ls,_,rfl,.inl (SqL.of hls3),l,d,ll,ns,rs,sp,lb,as,n,by rw[jF,hN.len];rfl,s13.seq hS,hR,B,ln,hat,hll3,λs0 H4 ts ds rs' ns0 hs0 kp R4 hds lds G sdo=>?_⟩;obtain⟨kvd,hd3,_⟩:=hR;have hS4:=SqL.kpd (s13.seq hS) hd3 kp;have hls4:=kp _ _ (aG hls3 hd3 (by intro z;cases z)) hls3;have hll4:=kp _ _ (aG hll3 hd3 (by intro z;cases z)) hll3;refine⟨_,rfl,l,ns,4,rfl,hS4,by decide,by decide,λc4=>?_⟩;obtain⟨m4,em4⟩:=lV (Int.emod_nonneg c4 (show(3:Int)≠0 by decide));refine⟨_,_,rfl,rfl,zI3,_,rfl,s0,_,rfl,SqL.of hs0,λq nq=>?_⟩;rw[em4,cut_take];obtain⟨H5,zq,s5,hq5⟩:=uG (o:=.lst (ts.take m4)) nq;rw[zq];have hS5:=s5.seq hS4;subst hk9;refine bM (λσ' H'=>∃d s q rs ts ds,σ'=[some (.ref l),some (.int c0),some (.ref ls),some (.ref ll),some (.ref d),some (.ref s),none,none,none,none,none,none,none]/\SqL K H' l (ns.map V.int)/\H' ls=some (.lst (sp.map V.str))/\RowsAt H' d rs/\RsG sp rs/\H' s=some (.lst ts)/\RowAt (SdAt q) H' ts ds/\ds.length<=2/\∀x∈ds,SdO rs x.hd x.pa x.ta x.c) ?_ ?_
 ·refine⟨_,rfl,_,_,rfl,rfl,⟨by decide,by decide⟩,_,_,rfl,rfl,zI2,rfl,_,rfl,ifV (λe1=>?_) (λe1=>?_)⟩
  ·refine⟨_,rfl,_,rfl,_,rfl,l,ls,ll,ns,sp,lb,n,rfl,hS5,SqL.of (s5 _ _ hls4),SqL.of (s5 _ _ hll4),hN,n2,n4,hM,λd2 H6 r2 nd2 s6 R6 l8 fr=>?_⟩;refine⟨zL0,λs2 ns2=>?_⟩;have s7:=aC (o:=.lst []) ns2;exact⟨d2,s2,s2,r2,[],[],rfl,s7.seq (s6.seq hS5),s7 _ _ (s6 _ _ (s5 _ _ hls4)),R6.mono s7,free_rs hM n2 l8 fr,ag,RowAt.nil,by decide,λx hx=>by cases hx⟩
  ·exact⟨d,q,s0,rs',_,ds.take m4,rfl,hS5,s5 _ _ hls4,R4.mono s5,G,hq5,(hds.mono λ_ _ z=>z.mono s5).take m4,by rw[jT];lia,λx hx=>sdo x (kZ hx)⟩
 clear sdo G hds R4 kp hs0 hd3 hS5 hq5 s5 hS4 hls4 hll4 hll3 hls3 s13 hat B good s3 nd hll s2 nll hls s1 nls;rintro zU hzU σ' H6⟨d,s,q,rs,ts,ds,rfl,hS6,hls,hR,G,hs,hds,lds,sdo⟩;have nd:=hN.nd;have l4:sp.length<=4:=by rw[hN.len];exact n4
 subst hzU;generalize hk9:iy _ _=k9
 revert k9
 refine fP λk9 hk9=>?_;refine⟨_,rfl,_,rfl,_,rfl,l,ns,3,rfl,hS6,by decide,by decide,λc3=>⟨ls,d,sp,rs,c3,rfl,SqL.of hls,nd,by lia,hR,G.ok,λp H7 x np s7 hnet=>?_⟩⟩;refine⟨_,rfl,_,rfl,_,rfl,l,d,s,q,ns,sp,rs,ts,ds,rfl,s7.seq hS6,hR.mono s7,G,s7 _ _ hs,hds.mono λ_ _ z=>z.mono s7,lds,sdo,λe H8 ks f ne s8 du lk D=>?_⟩;obtain⟨⟨kve,he,tb⟩,no⟩:=du;have lk':=cy ks;refine⟨_,rfl,e,kve,a9 ks,f,rfl,he,tb,dR ks,by lia,λn=>⟨D.nx n,by have:=D.b0 n;lia⟩,λr H9 kvp nr s9 hr9 tp=>?_⟩;subst hk9;refine⟨λσ' H'=>∃r2,σ'=[some (.ref l),some (.int c0),some (.ref ls),some (.ref ll),some (.ref d),some (.ref s),some (.ref p),some (.ref e),some (.ref r),some (.ref r2),none,none,none]/\St36 a H' ls d e p r r2 sp rs kve kvp (a9 ks) f x,?_,?_⟩
 ·refine⟨_,rfl,r,kvp,rfl,.inl hr9,λr2 nr2=>?_⟩;obtain⟨HA,zq,sA,hr2⟩:=uG (o:=.dK kvp) nr2;rw[zq];have s8A:=s9.trans sA;have s7A:=s8.trans s8A
  have nde:d≠e:=by
   obtain⟨_,z,_⟩:=hR.mono s7;exact ar z ne
  exact⟨r2,rfl,s7A _ _ (s7 _ _ hls),nd,l4,hN.ch,(hR.mono s7).mono s7A,G,s8A _ _ he,tb.mono λv x z=>z.mono s8A,dR ks,⟨D.nx,D.b0,D.sz,λn hn=>D.inn n (mem_keysOf.mp hn)⟩,λn hn=>no n λz=>hn (mem_keysOf.mpr z),nde,⟨H9,hnet.mono (s8.trans s9),sA,nr2⟩,sA _ _ hr9,hr2,tp.mono λv x z=>z.mono sA,ar hr9 nr2⟩
 clear tp hr9 s9 nr tb he no D ne s8 hnet s7 np hS6 hls hR hs hds sdo;generalize a9 ks=ks;rintro σ' H9⟨r2,rfl,S9⟩;obtain⟨m,em⟩:=lV (show 0<=1+c0/3%2 by have:=Int.emod_nonneg (c0/3) (show(2:Int)≠0 by decide);lia)
 have m2:m<=2:=by
  have:=Int.emod_lt_of_pos (c0/3) (show(0:Int)<2 by decide)
  lia
 have O:=S9.G.ns (x:=x) S9.nd S9.l4
 have hA:∀n,SzQ DD 100 (aS ks (λn=>vl (f n)) n):=λn=>by
  unfold aS
  split
  ·exact S9.D.sz n
  ·exact SzQ.zero
 have lks:ks.length<=12:=by
  have:=ce S9.ndk S9.D.inn
  rw[jF]at this
  have:=S9.G.len
  lia
 refine⟨_,rfl,_,_,rfl,rfl,⟨by decide,by decide⟩,_,_,rfl,rfl,zI2,_,_,rfl,rfl,m,by show[V.int (1+c0/3%2)]=_;rw[em],by lia,by lia,dW (λi σ H2=>∃z10 z11 z12,σ=[some (.ref l),some (.int c0),some (.ref ls),some (.ref ll),some (.ref d),some (.ref s),some (.ref p),some (.ref e),some (.ref r),some (.ref r2),z10,z11,z12]/\Same H9 H2) ⟨none,none,none,rfl,Same.refl _⟩ ?_ (by rintro σ H2⟨_,_,_,_,_⟩;exact k H2)⟩;rintro i σ H2 hi⟨z10,z11,z12,rfl,s2⟩;have S2:=S9.mono s2;refine⟨_,rfl,_,rfl,p,r2,_,_,kvp,ks,_,EE,DD,rfl,S2.off,O,S2.hr2,S2.tp,S2.ndk,by rw[S2.G.names];exact S2.D.inn,λn _=>S2.D.sz n,ddee.1,ddee.2,O.sums hA ddee.1 ddee.2,λlf H3 ts ss nlf s3 hlf rws ndA nA apd=>?_⟩;have S3:=S2.mono s3;refine⟨_,rfl,_,rfl,_,rfl,_,rfl,ls,d,e,lf,sp,rs,EE,netW sp x,kve,ks,f,[lf],ts,ss,rfl,SqL.of S3.hl,S3.nd,by have:=S3.l4;lia,S3.ch,S3.hR,S3.G,O,eV sp x,S3.nde,S3.he,S3.tb,S3.ndk,S3.D.inn,λn=>⟨S3.D.nx n,S3.D.b0 n⟩,S3.no,hlf,rws,apd,λH4 s4=>?_⟩;have S4:=S3.mono s4;have hlf4:=s4 _ _ hlf;have rws4:=rws.mono λv y(z:StIs a [lf] H3 v y)=>z.same s4;refine⟨_,rfl,iteF ⟨_,rfl,r2,kvp,rfl,S4.hr2,_,rfl,r,kvp,rfl,S4.hr,rfl,_,rfl,iteNS rfl ?_⟩⟩;refine⟨r,.dK kvp,S4.hr,(by intro o z q;cases q),_,rfl,r,kvp,rfl,S4.hr,λo=>?_⟩;refine e9 (a:=r) (o:=o) (kvs:=kvp) (λj σ H5=>(∃z12,σ=[some (.ref l),some (.int c0),some (.ref ls),some (.ref ll),some (.ref d),some (.ref s),some (.ref p),some (.ref e),some (.ref r),some (.ref r2),some (.int (0+i)),some (.ref lf),z12])/\H5 r=some (.frz o (.dK kvp))/\∀b ob,H4 b=some ob->b≠r->H5 b=some ob) ⟨⟨_,rfl⟩,ag,λb ob q ne=>by rw[ai ne];exact q⟩ ((by rintro j σ H5 _⟨_,h,_⟩;exact h)) ?_ ?_
 ·rintro j kv σ H5 hkv⟨⟨z,rfl⟩,hf,k5⟩;obtain⟨nm,enm,e1,ev,q,eq,hq⟩:=S4.tp.at_ S4.ndk hkv;have ekv:kV kv.1=.str nm:=by rw[e1];rfl
  rw[ekv];rw[eq]at ev
  have kd:KeepD H4 H5:=λb ob q g1 _=>k5 b ob q λz=>by
   rw[z,S4.hr]at q
   cases q;exact g1 _ rfl
  obtain⟨_,e5,hq5⟩:=FrIs.keep (x:=vl (f nm)) ⟨q,rfl,hq⟩ kd
  cases e5;have hr5:=k5 _ _ S4.hr2 S4.nrr.symm;refine⟨_,rfl,_,rfl,r2,some (.ref q),rfl,.inl ⟨kvp,Sum.inr nm,.inl hr5,rfl,ev.symm⟩,_,rfl,iteF ?_⟩;refine⟨_,rfl,_,rfl,r2,.ref q,rfl,.inl ⟨kvp,Sum.inr nm,.inl hr5,rfl,ev.symm⟩,q,_,rfl,hq5,λt nt=>?_⟩;obtain⟨H6,zq,s6,ht6⟩:=uG (o:=.tup [.int (vl (f nm)).num,.int (vl (f nm)).den]) nt;rw[zq];refine⟨_,rfl,_,rfl,r,.ref q,rfl,.inl ⟨kvp,Sum.inr nm,.inr ⟨o,s6 _ _ hf⟩,rfl,ev.symm⟩,q,_,rfl,hq5.mono s6,λt2 nt2=>?_⟩;have s7:=aC (o:=.tup [.int (vl (f nm)).num,.int (vl (f nm)).den]) nt2;have s57:=s6.trans s7;exact⟨t,t2,_,_,rfl,rfl,SqT.of (s7 _ _ ht6),SqT.of ag,rfl,rfl,_,rfl,cL (by rw[eqVs_ii];rfl) ⟨⟨_,rfl⟩,s57 _ _ hf,λb ob e n=>s57 _ _ (k5 _ _ e n)⟩⟩
 ·rintro σ H5⟨⟨z,rfl⟩,hf,k5⟩
  have sf:Same H4 (upd H5 r (.dK kvp)):=λb ob q=>by
   by_cases hb:b=r
   ·subst hb;rw[ag,<-S4.hr,q]
   ·rw[ai hb];exact k5 _ _ q hb
  refine⟨o,hf,?_⟩;generalize upd H5 r (.dK kvp)=H6 at sf⊢
  have nl:¬lf∈ss.flatMap (·.ad):=λh=>by
   obtain⟨y,hy,hb⟩:=List.mem_flatMap.mp h;obtain⟨j,hj⟩:=List.getElem?_of_mem hy;obtain⟨v,_,u,l1,l2,l3,q,_,_,_,_,_,n1,n2,n3,_,ead⟩:=rws4.get' hj;rw[ead]at hb;simp only[j3,j9,or_false]at hb n1 n2 n3;rcases hb with z|z|z
   ·exact n1 z.symm
   ·exact n2 z.symm
   ·exact n3 z.symm
  have lts:ts.length<=100:=by
   have h1:=apd.ct;have h2:=fN (λd:WD=>aS ks (λn=>vl (f n)) d.nm) (rs.map WR.d);have h3:=fN (aZ (aS ks λn=>vl (f n)) (rs.map WR.d)) ((netW sp x).map (·.1));have h4:=O.ln;have h5:=O.lp;rw[jF]at h3;rw[rws.1]
   lia
  refine⟨_,rfl,lf,[lf],ts,ss,rfl,sf _ _ hlf4,rws4.mono λv y(z:StIs a [lf] H4 v y)=>z.same sf,ndA,lts,apd.sl,nl,λH7 k7=>⟨_,rfl,iteF ?_⟩⟩;have hlf7:=k7 _ _ (sf _ _ hlf4) nl;refine⟨_,rfl,.inl ⟨rfl,_,SqL.of hlf7⟩,lf,_,rfl,rfl,hlf7,_,_,_,rfl,λb ob q=>?_⟩;have q2:=s2 _ _ q;rw[ai (ar q2 nlf)]
  exact k7 _ _ (sf _ _ (s4 _ _ (s3 _ _ q2))) λh=>by
   rw[nA b h]at q2
   cases q2
end
end G
namespace G
open PySem L2
theorem ln1{α:Type}{P:List α->Prop}(h:∀a,P [a]):∀us:List α,us.length=1->P us
 |[a],_=>h a
theorem ln2{α:Type}{P:List α->Prop}(h:∀a b,P [a,b]):∀us:List α,us.length=2->P us
 |[a,b],_=>h a b
theorem ln3{α:Type}{P:List α->Prop}(h:∀a b c,P [a,b,c]):∀us:List α,us.length=3->P us
 |[a,b,c],_=>h a b c
theorem ln4{α:Type}{P:List α->Prop}(h:∀a b c d,P [a,b,c,d]):∀us:List α,us.length=4->P us
 |[a,b,c,d],_=>h a b c d
theorem ln5{α:Type}{P:List α->Prop}(h:∀a b c d e,P [a,b,c,d,e]):∀us:List α,us.length=5->P us
 |[a,b,c,d,e],_=>h a b c d e
theorem ln6{α:Type}{P:List α->Prop}(h:∀a b c d e f,P [a,b,c,d,e,f]):∀us:List α,us.length=6->P us
 |[a,b,c,d,e,f],_=>h a b c d e f
theorem ln7{α:Type}{P:List α->Prop}(h:∀a b c d e f g,P [a,b,c,d,e,f,g]):∀us:List α,us.length=7->P us
 |[a,b,c,d,e,f,g],_=>h a b c d e f g
section
variable{K:W.Frag}{h:Heap}{mg:Str->Option Value}{x qual:Str}{st:Stmt}{f C T:Addr}{fd:FuncData}{ps:List Str}{ds:Array Value}{oc:Value}{od an:Option Addr}{osl:Array (Option Value)}{kV doc pm cdv ct:Value}
noncomputable def BA(x qual:Str)(st:Stmt)(ps:List Str)(us:List Value):Prop:=∀(kV doc pm:Value)(an:Option Addr)(cdv ct:Value),bindArgs (W.fnOf x qual (cW st) (bL st) (ak st) .none kV doc pm an cdv ct) ⟨us,[]⟩=pure (ps.zip us)
noncomputable def BE(x qual:Str)(st:Stmt)(ps:List Str)(ds:Array Value)(es us:List Value):Prop:=∀(T:Addr)(kV doc pm:Value)(an:Option Addr)(cdv ct:Value),∃k,bindArgs (W.fnOf x qual (cW st) (bL st) (ak st) (.ref T) kV doc pm an cdv ct) ⟨us,[]⟩=seqItems? (.ref T)>>=k/\k (some ds)=pure (ps.zip (us++es))
theorem bi(N:Fun K x qual st f fd)(b:∀us:List Value,us.length=ps.length->BA x qual st ps us):Binds K fd ps []:=N.binds λkV doc pm an cdv ct us hl=>b us hl kV doc pm an cdv ct
theorem biD{es:List Value}{n:Nat}(N:FunD K x qual st f fd ds)(e:n+es.length=ps.length)(b:∀us:List Value,us.length=n->BE x qual st ps ds es us):Binds K fd ps es:=N.binds λT kV doc pm an cdv ct us hl=>b us (by rw[jO]at hl;omega) T kV doc pm an cdv ct
theorem mD(X:K.In h)(G:h.Ns mainGlobals mg)(a:W.nsIn K mainGlobals x=some (some (.ref f)))(N:Fun K x x st f fd)(b:∀us:List Value,us.length=ps.length->BA x x st ps us):FDe K mg x st ps:=⟨_,_,N,W.mg_of X G a,bi N b⟩
theorem mM(a:W.findIn K (.ref C) x=some (some (.ref f)))(N:Fun K x qual st f fd)(i:W.isFn K (.ref f)=true)(b:∀us:List Value,us.length=ps.length->BA x qual st ps us):MDe K C x qual st ps:=⟨_,_,N,⟨a,i,N.kp⟩,bi N b⟩
theorem mI(a:W.findIn K (.ref C) "__init__"=some (some (.ref f)))(N:Fun K "__init__" qual st f fd)(m:W.makesIn K C=true)(i:W.isFn K (.ref f)=true)(k:W.keepIn K (.ref C)=true)(b:∀us:List Value,us.length=ps.length->BA "__init__" qual st ps us):IDe K C qual st ps [[]]:=⟨_,_,N.gen,⟨m,a,i,k⟩,λdvs hd=>by cases jN.mp hd;exact⟨[],.nil,bi N b⟩⟩
theorem mJ{dvss:List (List V)}(a:W.findIn K (.ref C) "__init__"=some (some (.ref f)))(N:FunD K "__init__" qual st f fd ds)(m:W.makesIn K C=true)(i:W.isFn K (.ref f)=true)(k:W.keepIn K (.ref C)=true)(b:FunD K "__init__" qual st f fd ds->∀dvs∈dvss,∃es,Vals dvs es/\Binds K fd ps es):IDe K C qual st ps dvss:=⟨_,_,N.gen,⟨m,a,i,k⟩,b N⟩
theorem all0{P:List V->Prop}:∀d∈([]:List (List V)),P d:=λ_ h=>nomatch h
theorem all1{P:List V->Prop}{d:List V}{r:List (List V)}(h:P d)(k:∀d∈r,P d):∀e∈d::r,P e:=λe he=>by
 rcases j3.mp he with rfl|q
 ·exact h
 ·exact k e q
theorem mCD{n:Nat}(a:W.findCls K (.ref C) (.type "type") "__init__"=some (.val (.ref f)))(N:FunD K "__init__" qual st f fd ds)(r:W.readsIn K C (.type "type")=true)(s:W.specialIn K (.ref C) "__getattribute__"=some (some (.builtin "type.__getattribute__")))(k:W.keepIn K (.ref f)=true)(e:n=ps.length)(b:∀us:List Value,us.length=n->BE "__init__" qual st ps ds [] us):CDe K C qual st ps:=⟨_,_,N.gen,⟨r,s⟩,a,k,biD (es:=[]) N e b⟩
theorem mGi{v:Int}{t:Tok}(X:K.In h)(G:h.Ns mainGlobals mg)(a:W.nsIn K mainGlobals x=some (some (.int v t))):∃tk,mg x=some (.int v tk):=⟨_,W.mg_of X G a⟩
end
theorem top{l:W.OpenLaw}{w:World}{K:W.Frag}{mg:Str->Option Value}{fa A0 A1 A2 A3 A4 A5 A6 A7 A8 A9 A10 A11 A12 A13 A14 A15:Addr}(hfa:mg "law"=some (.ref fa))(T:TX K mg ⟨A0,A1,A2,A3,A4,A5,A6,A7,A8,A9,A10,A11,A12,A13,A14,A15⟩):
  ∃fd:FuncData,(∀(s:Shared)(v:Value),BindsTo s fd ⟨[v],[]⟩ [("_law_script",v)])/\∀base:Heap,K.In base->base.Ns mainGlobals mg->FnOk l.prog w K mg base CX0 20 fa fd ["_law_script"] (spLaw K):=by
 obtain⟨f,fd,N,e,_⟩:=T.d_law
 cases hfa.symm.trans e;obtain⟨oc,od,kV,doc,pm,an,cdv,ct,osl,rfl,_,_⟩:=N.ex;exact⟨_,λs v=>.of_eq rfl,λbase _ _=>zz_all (λT f fd N=>ok_law N T) ⟨l.prog,w,K,mg,base,_⟩ T _ _ N⟩
theorem walkL{l:PySem.W.OpenLaw}{q:Program}{loose:List Str}{XP:(Str->Option Value)->Heap->Prop}{YP:World->Heap->Prop}{d:DefRec}{K:Params->W.Frag}(hn:l.most=some 63)(hdf:d.params.defaults=[])
  (hY:∀(w:World)(h:Heap),YP w h->(K w.params).In h)
  (F:∀(w:World)(mg:Str->Option Value)(fa:Addr)(h:Heap),(K w.params).In h->h.Ns mainGlobals mg->mg d.name=some (.ref fa)->
   ∃fd:FuncData,(∀(s:Shared)(u:Value),BindsTo s fd ⟨[u],[]⟩ [("_law_script",u)])/\∀base:Heap,(K w.params).In base->base.Ns mainGlobals mg->FnOk l.prog w (K w.params) mg base CX0 20 fa fd ["_law_script"] (spLaw (K w.params))):
  PySem.W.WalkO q loose XP YP l.row.toRowW d [] (λf vs=>PySem.call f vs):=
 L2.walk_ofB (n:=63) (k:=20) (x:="_law_script") (CX:=λ_=>CX0) (sp:=λw=>spLaw (K w.params)) hn (by decide) hdf ⟨rfl,by decide,by decide⟩ hY F (λ_ _ a ns hl hb _ hS=>⟨a,ns,rfl,hS,hl,λi hi=>⟨hb i hi⟩,λ_=>rfl⟩) λ_ _ _ _ _ z=>z
end G
inductive PySem.W.Fast:Prop|tw6526823177012499877|tw3252983495741543011|tw10041801526926726830|tw10000914891594574453|tw8107870889543135458|tw8024120696611806524|tw2324651605094807863|tw10634737902660633141|tw10402241442956532352|tw13433061979984497451|tw9957359195018650387|tw15237513367225230197|tw9783177442238167918|tw12081071257728566814|tw11580041806408921074|tw12287006639795113956|tw15619130937527017928|tw13095934361548057087|tw10198441825681629076|tw1343518553324159199|tw1572313869214074911|tw5045775058948962763|tw10172116131334425220|tw6987807403195197359|tw5094083142084104775|tw5520672927147605916|tw14368533943798474538|tw6027960979973180946|tw2419197566110059124|tw1503762949160457348|tw10838656143001394529|tw11952407292924825614|tw3105828452657539420|tw12142371327857090382|tw3902560541193202506|tw6411039080113912421|tw10765190916759449968|tw12770079837359715150|tw13819901312451777680|tw17469648964589737607|tw8498632072940239142|tw1384043913140436585|tw15659091487253328447|tw6557471626426871964|tw14626127812867219665|tw10654679451302392925|tw11465638931933555322|tw14466047538102176779|tw14281915863783623815|tw11964798418811039743|tw5668224460697068307|tw7787099291884609335|tw7534324691067567930|tw14982525413646068184|tw11148984312142751678|tw833272605318781911|tw12962756948763471445|tw4826207919397301341|tw5533001568522907682|tw7677188721025439972|tw1024610929204438352|tw11906260694387662096|tw15433469311984384719|tw7496129293541703507|tw14029302888687586183|tw7629011730827525090|tw3136149416464440233|tw16691895230736179918|tw9510042500006590174|tw9782028331208701757|tw17197599517849113973|tw10871828853209037774|tw12866292351308305773|tw6453443704577170480|tw9162548299827975541|tw14542396834587854645|tw7918597068125982949|tw8988965585083271762|tw16931585134278211900|tw10896497373054941021|tw13497523743221665996|tw12426581511276482498|tw3418791791505506691|tw2770862295323894661|tw10640065820548437052|tw5119287373890155919|tw1898231130224091290|tw4509832870012872809|tw4281899273582074654|tw10109539512020974533|tw9980210249887365217|tw17183587461718487000|tw3600673670709865756|tw8367622418776551595|tw9626501491954704150|tw14820076836531848271|tw3054134292136386680|tw11134590900527825888|tw12284478509525507549|tw15057856609257010075|tw16168017971435037627|tw5201424082637051720|tw10664094323970753487|tw12037023507187653556|tw4976727477811547197|tw97614854440306884|tw15184207456693929519|tw7998165745869993028|tw6208405713471989241|tw4718069911133159544|tw5823493241984557347|tw11545302210012810321|tw8777268642837422395|tw16520122959977633080|tw846269727232687874|tw11886825714832552083|tw6484382286438117153|tw5020010016986295761|tw2342202897441162282|tw7929111806069625804|tw12526977748796133745|tw4166827774912838282|tw17330453056760858810|tw11259644777892796034|tw16778719406229520762|tw4311789472162719415|tw16031954136101856793|tw1681732267060709575|tw12941958777203563315|tw3355708867979380787|tw13678962987478197860|tw6022031848924519555|tw17101894298634216613|tw8955188077718798417|tw13413113055695199130|tw5714143642895437634|tw14088892846287258777|tw4888290791358918909|tw174635784311208170|tw18245799962553162289|tw3023419889242449467|tw6174533912996042020|tw5944810285501596371|tw7784197999925886402
open PySem L2 in
local macro_rules | `(tactic| walk_at $s:str) => do
  let v := (s.getString.splitOn " ").toArray
  if v.size < 3 then Lean.Macro.throwUnsupported
  let id (i : Nat) := Lean.mkIdent (Lean.Name.mkSimple s!"o{i}")
  let KX := Lean.mkIdent `KX
  let GN := Lean.mkIdent `GN
  let ln (n : Nat) := Lean.mkIdent (Lean.Name.mkStr2 "G" s!"ln{n}")
  let us (n : Nat) : Lean.MacroM (Lean.TSyntax `term) := do
    let hs ← (Array.range n).mapM fun _ => `(Lean.Parser.Term.funBinder| _)
    `(fun $hs:funBinder* => rfl)
  let ks ← `(tactic| (try dsimp only) <;> k_is)
  if v[0]! == "H" then
    let hs ← (Array.range v[2]!.toNat!).mapM fun i => `(?$(id i):ident)
    return ← `(tactic| refine' G.top $(Lean.mkIdent `hmg) ⟨$hs,*⟩)
  let i0 := v[1]!.toNat!
  let mut ts : Array (Lean.TSyntax `tactic) := #[]
  for (t, j) in (v.extract 2 v.size).zipIdx do
    let c := t.take 1 |>.toString
    let n := (t.drop 1).toString.toNat!
    let i := id (i0 + j)
    if (c == "m") != (v[0]! == "m") then continue
    let r ← match c with
      | "m" => `(tactic| case $i:ident => refine' W.mg_of $KX $GN ?_; k_is)
      | "d" => `(tactic| case $i:ident => refine' G.mD $KX $GN ?a (fun_mk ?l ?c ?k) ($(ln n) $(← us (n + 6))); (case a => k_is); (case l => k_is); (case c => k_is); (case k => k_is))
      | "M" => `(tactic| case $i:ident => dsimp only; refine' G.mM ?a (fun_mk ?l ?c ?k) ?i ($(ln n) $(← us (n + 6))); (case a => k_is); (case l => k_is); (case c => k_is); (case k => k_is); (case i => k_is))
      | "I" => `(tactic| case $i:ident => dsimp only; refine' G.mI ?a (fun_mk ?l ?c ?k) ?m ?i ?j ($(ln n) $(← us (n + 6))); (case a => k_is); (case l => k_is); (case c => k_is); (case k => k_is); (case m => k_is); (case i => k_is); (case j => k_is))
      | "X" => `(tactic| case $i:ident => dsimp only; refine' G.mX ?a (fun_mk ?l ?c ?k) ?t ?e ($(ln n) $(← us (n + 6))); (case a => k_is); (case l => k_is); (case c => k_is); (case k => k_is); (case t => k_is); (case e => kernel_rfl))
      | "C" => `(tactic| case $i:ident => dsimp only; refine' G.mC ?a (fun_mk ?l ?c ?k) ?r ?s ($(ln n) $(← us (n + 6))); (case a => k_is); (case l => k_is); (case c => k_is); (case k => k_is); (case r => k_is); (case s => k_is))
      | "c" => `(tactic| case $i:ident => refine' ⟨?_, ?_, ?_, ?_⟩ <;> $ks:tactic)
      | "n" => `(tactic| case $i:ident => refine' (?_ : W.findIn _ _ _ = _); $ks:tactic)
      | "k" => `(tactic| case $i:ident => $ks:tactic)
      | "t" => `(tactic| case $i:ident => (try dsimp only); kit_is)
      | "x" => `(tactic| case $i:ident => (try dsimp only); k_exc)
      | "e" => `(tactic| case $i:ident => refine' G.mE0 ?a; (case a => $ks:tactic))
      | "b" => `(tactic| case $i:ident => refine' ⟨?_, ?_⟩ <;> $ks:tactic)
      | "g" => `(tactic| case $i:ident => refine' G.mGi $KX $GN ?a; (case a => k_is))
      | "s" => `(tactic| case $i:ident => refine' G.mGs $KX $GN ?a; (case a => k_is))
      | "z" => `(tactic| case $i:ident => refine' W.mg_none_of $KX $GN ?_; k_is)
      | "E" => do
        let e := Lean.mkIdent (Lean.Name.mkStr2 "G" s!"mE{n}")
        `(tactic| case $i:ident => dsimp only; refine' $e ?a ?b ?c ?d; (case a => k_is); (case b => rfl); (case c => rfl); (case d => k_is))
      | _ => continue
    ts := ts.push r
  `(tactic| ($[$ts];*))
open PySem PySem.W PyProof.Rows
set_option maxRecDepth 100000 in
set_option maxHeartbeats 0 in
theorem PySem.Challenge.cw_gainstream_k36_whole_taken_apart_holds : PySem.Challenge.rw_gainstream_k36_whole_taken_apart.Holds := by
 w_on;o_law;k_head;(case hw=>w_witness2)
 k_fill
 refine G.walkL (l:=PySem.Challenge.rw_gainstream_k36_whole_taken_apart) rfl rfl (λ w h Y=>by first | exact PySem.W.kIn_of Y | exact PySem.W.km_in_of Y) ?F
 case F=>
  intro w mg fa h KX GN hmg
  walk_at "H 16 179"
  walk_at "m 0 d2 d2 d1 d2 d1 d2 d2 d2 d2 d2 d2 d2 d2 d3 d2 d1 d1 d2 d2 d3 d2 d1 d3 d2 d2 d2 d1 d2 d4 d3 d3 d2 d2 d3 d3 d7 d5 d5 d2 d4 d3 d3 d3 d1 d1 d2 d2 d2 d1 d1 d4 d4 d1 d1 c0 m0 n0 n0 w0 M2"
  walk_at "m 60 M2 M2 M2 M2 M1 k0 k0 c0 m0 n0 n0 n0 I4 c0 m0 n0 n0 n0 n0 n0 I3 M4 M2 M2 M2 M4 c0 m0 n0 n0 n0 n0 n0 w0 w0 M1 M2 k0 k0 c0 m0 n0 n0 n0 n0 n0 n0 w0 M1 M2 k0 k0 c0 m0 n0 n0 n0 n0 n0 n0"
  walk_at "m 120 w0 M1 M2 k0 k0 c0 m0 n0 n0 n0 n0 n0 n0 M1 M2 k0 k0 c0 m0 n0 n0 I3 M1 M2 M1 k0 k0 k0 k0 m0 m0 m0 m0 m0 m0 m0 m0 t0 t0 t0 t0 t0 t0 t0 t0 t0 g0 g0 z0 z0 z0 z0 z0 z0 z0 z0 z0 z0 z0"
  walk_at "r 0 d2 d2 d1 d2 d1 d2 d2 d2 d2 d2 d2 d2 d2 d3 d2 d1 d1 d2 d2 d3 d2 d1 d3 d2 d2 d2 d1 d2 d4 d3 d3 d2 d2 d3 d3 d7 d5 d5 d2 d4 d3 d3 d3 d1 d1 d2 d2 d2 d1 d1 d4 d4 d1 d1 c0 m0 n0 n0 w0 M2"
  walk_at "r 60 M2 M2 M2 M2 M1 k0 k0 c0 m0 n0 n0 n0 I4 c0 m0 n0 n0 n0 n0 n0 I3 M4 M2 M2 M2 M4 c0 m0 n0 n0 n0 n0 n0 w0 w0 M1 M2 k0 k0 c0 m0 n0 n0 n0 n0 n0 n0 w0 M1 M2 k0 k0 c0 m0 n0 n0 n0 n0 n0 n0"
  walk_at "r 120 w0 M1 M2 k0 k0 c0 m0 n0 n0 n0 n0 n0 n0 M1 M2 k0 k0 c0 m0 n0 n0 I3 M1 M2 M1 k0 k0 k0 k0 m0 m0 m0 m0 m0 m0 m0 m0 t0 t0 t0 t0 t0 t0 t0 t0 t0 g0 g0 z0 z0 z0 z0 z0 z0 z0 z0 z0 z0 z0"
  (case o58=>dsimp only;refine' G.mJ ?a (L2.funD_mk ?l ?c ?t ?d) ?m ?i ?k ?b;(case a=>k_is);(case l=>k_is);(case c=>k_is);(case t=>k_is);(case d=>rfl);(case m=>k_is);(case i=>k_is);(case k=>k_is);(case b=>exact λ N=>G.all1 ⟨[],.nil,G.biD N rfl (G.ln3 λ _ _ _ _ _ _ _ _ _ _=>⟨_,rfl,rfl⟩)⟩ (G.all1 ⟨[.int 1 _],(.cons ⟨_,rfl⟩ (.nil)),G.biD N rfl (G.ln2 λ _ _ _ _ _ _ _ _ _=>⟨_,rfl,rfl⟩)⟩ (G.all0))))
  (case o93=>dsimp only;refine' G.mJ ?a (L2.funD_mk ?l ?c ?t ?d) ?m ?i ?k ?b;(case a=>k_is);(case l=>k_is);(case c=>k_is);(case t=>k_is);(case d=>rfl);(case m=>k_is);(case i=>k_is);(case k=>k_is);(case b=>exact λ N=>G.all1 ⟨[],.nil,G.biD N rfl (G.ln6 λ _ _ _ _ _ _ _ _ _ _ _ _ _=>⟨_,rfl,rfl⟩)⟩ (G.all1 ⟨[.none,.none],(.cons rfl (.cons rfl (.nil))),G.biD N rfl (G.ln4 λ _ _ _ _ _ _ _ _ _ _ _=>⟨_,rfl,rfl⟩)⟩ (G.all0))))
  (case o94=>dsimp only;refine' G.mCD ?a (L2.funD_mk ?l ?c ?t ?d) ?r ?s ?k rfl ?b;(case a=>k_is);(case l=>k_is);(case c=>k_is);(case t=>k_is);(case d=>rfl);(case r=>k_is);(case s=>k_is);(case k=>k_is);(case b=>exact G.ln6 λ _ _ _ _ _ _ _ _ _ _ _ _ _=>⟨_,rfl,rfl⟩))
  (case o107=>dsimp only;refine' G.mJ ?a (L2.funD_mk ?l ?c ?t ?d) ?m ?i ?k ?b;(case a=>k_is);(case l=>k_is);(case c=>k_is);(case t=>k_is);(case d=>rfl);(case m=>k_is);(case i=>k_is);(case k=>k_is);(case b=>exact λ N=>G.all1 ⟨[],.nil,G.biD N rfl (G.ln7 λ _ _ _ _ _ _ _ _ _ _ _ _ _ _=>⟨_,rfl,rfl⟩)⟩ (G.all1 ⟨[.none,.none],(.cons rfl (.cons rfl (.nil))),G.biD N rfl (G.ln5 λ _ _ _ _ _ _ _ _ _ _ _ _=>⟨_,rfl,rfl⟩)⟩ (G.all0))))
  (case o120=>dsimp only;refine' G.mJ ?a (L2.funD_mk ?l ?c ?t ?d) ?m ?i ?k ?b;(case a=>k_is);(case l=>k_is);(case c=>k_is);(case t=>k_is);(case d=>rfl);(case m=>k_is);(case i=>k_is);(case k=>k_is);(case b=>exact λ N=>G.all1 ⟨[],.nil,G.biD N rfl (G.ln7 λ _ _ _ _ _ _ _ _ _ _ _ _ _ _=>⟨_,rfl,rfl⟩)⟩ (G.all1 ⟨[.none,.none],(.cons rfl (.cons rfl (.nil))),G.biD N rfl (G.ln5 λ _ _ _ _ _ _ _ _ _ _ _ _=>⟨_,rfl,rfl⟩)⟩ (G.all0))))
#print axioms PySem.Challenge.cw_gainstream_k36_whole_taken_apart_holds



